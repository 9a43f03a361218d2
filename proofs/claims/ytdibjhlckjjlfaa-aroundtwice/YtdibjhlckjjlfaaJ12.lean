import Derived.Test.YtdibjhlckjjlfaaJ8
import Derived.Test.YtdibjhlckjjlfaaJ4
import Derived.Test.YtdibjhlckjjlfaaJ10
import Derived.Test.YtdibjhlckjjlfaaJ11
namespace Go.Proofs.Ytdibjhlckjjlfaa
open Go Go.RowKit
set_option maxRecDepth 20000

/-! The reference's Needs. -/
theorem rneeds_no (l : List RuleM) (vl : Value) (i : Int) (hi : ¬ (0 ≤ i ∧ i < l.length)) (w : World) (hl : RulesAt w vl l) :
    Calls Try.prog 10 #[vl, .int .i64 i] w fun e w' => (∃ v, e = .returned v ∧ VOwn 3 w.heap.size w' v (nv15 [])) ∧ Below w.heap.size w w' := by
  obtain ⟨o, cap, rfl, hc1, hc2⟩ := GSl.slice hl
  obtain ⟨n, hn0⟩ : ∃ n, n = l.length := ⟨_, rfl⟩
  rw [← hn0] at hl hc1 hi ⊢
  clear hl hn0
  unfold maxLen at hc2
  have O0 : Hid (VOwn 3 w.heap.size (w.alloc (.cells #[] 3)) (.slice (some ⟨w.heap.size, 0, none⟩) 0 0) []) := vown0 w _
  have B0 : Hid (Below w.heap.size w (w.alloc (.cells #[] 3))) := (Below.refl _ _).alloc (Nat.le_refl _) _
  by_cases h0 : i < 0
  · have d1 : decide (i ≥ 0) = false := by simp; omega
    have d2 : decide (0 ≤ i) = false := by simp; omega
    clear hi
    go_enter Try.func10, Try.ntmps10
    go_wp2_with (first
      | (refine wl_build0V scI rfl rfl ?_))
    go_loopw [5, 6] (fun out k wr => out = .slice (some ⟨w.heap.size, 0, none⟩) 0 0 ∧ k = .int .i64 0 ∧ Hid (VOwn 3 w.heap.size wr (.slice (some ⟨w.heap.size, 0, none⟩) 0 0) []) ∧ Hid (Below w.heap.size w wr)) (fun _ _ _ => 0)
    case atStart => exact ⟨rfl, rfl, O0, B0⟩
    case round =>
      obtain ⟨rfl, rfl, HO, HB⟩ := hrel
      go_wp2_with fail
      go_ret
      exact ⟨⟨_, rfl, HO.out⟩, HB.out⟩
  · have h1 : ¬ i < (n : Int) := by omega
    have d1 : decide (i ≥ 0) = true := by simp; omega
    have d2 : decide (0 ≤ i) = true := by simp; omega
    have d3 : decide (i < (n : Int)) = false := by simp; omega
    clear hi
    go_enter Try.func10, Try.ntmps10
    go_wp2_with (first
      | (refine wl_build0V scI rfl rfl ?_))
    go_loopw [5, 6] (fun out k wr => out = .slice (some ⟨w.heap.size, 0, none⟩) 0 0 ∧ k = .int .i64 0 ∧ Hid (VOwn 3 w.heap.size wr (.slice (some ⟨w.heap.size, 0, none⟩) 0 0) []) ∧ Hid (Below w.heap.size w wr)) (fun _ _ _ => 0)
    case atStart => exact ⟨rfl, rfl, O0, B0⟩
    case round =>
      obtain ⟨rfl, rfl, HO, HB⟩ := hrel
      go_wp2_with fail
      go_ret
      exact ⟨⟨_, rfl, HO.out⟩, HB.out⟩
set_option maxHeartbeats 8000000 in
theorem rneeds_yes (l : List RuleM) (hl0 : ∀ r ∈ l, okR8 r) (hn1 : l.length ≤ 100000) (vl : Value) (p : Nat) (r : RuleM) (hp : l[p]? = some r) (w : World) (hl : RulesAt w vl l) :
    Calls Try.prog 10 #[vl, .int .i64 (p : Int)] w fun e w' => (∃ v, e = .returned v ∧ VOwn 3 w.heap.size w' v (nv15 (needK l r.cube p))) ∧ Below w.heap.size w w' := by
  have hr := hl0 r (List.mem_of_getElem? hp)
  obtain ⟨o, cap, rfl, hc1, hc2⟩ := GSl.slice hl
  obtain ⟨n, hn0⟩ : ∃ n, n = l.length := ⟨_, rfl⟩
  have hpn : p < n := by rw [hn0]; exact (List.getElem?_eq_some_iff.1 hp).1
  rw [← hn0] at hl hc1 hn1 ⊢
  have HL : Hid (RulesAt w (.slice o n cap) l) := hl
  have HOK : Hid (∀ r ∈ l, okR8 r) := hl0
  have HR : Hid (okR8 r) := hr
  have HME : Hid (∀ (x : RuleM) W, okR8 x → Calls Try.prog 22 #[.agg (cv x.cube.1 x.cube.2), .agg (cv r.cube.1 r.cube.2)] W fun e w' => e = .returned (.bool (meets x.cube.1 x.cube.2 r.cube.1 r.cube.2)) ∧ Below W.heap.size W w') := fun x W hx => rmeet15_any _ _ _ _ hx.1 hx.2 hr.1 hr.2 W
  obtain ⟨g, off, cur, ty, fr, r', rfl, hg, hc, hxp⟩ := hl.at p hpn
  rw [hp] at hxp
  obtain rfl := Option.some.inj hxp
  have P1 : Hid (w.heap[g]? = some (.cells cur ty fr)) := hg
  have P2 : Hid (∀ j, j < 26 → cur[off + p * 28 + 1 + j]? = (cv r.cube.1 r.cube.2)[j]?) := cube_in hr hc
  unfold maxLen at hc2
  have hpn' : (p : Int) < (n : Int) := by omega
  have d1 : decide ((p : Int) ≥ 0) = true := by simp
  have d2 : decide ((p : Int) < (n : Int)) = true := by simp; omega
  have O0 : Hid (VOwn 3 w.heap.size (w.alloc (.cells #[] 3)) (.slice (some ⟨w.heap.size, 0, none⟩) 0 0) []) := vown0 w _
  have B0 : Hid (Below w.heap.size w (w.alloc (.cells #[] 3))) := (Below.refl _ _).alloc (Nat.le_refl _) _
  clear hl hn0 hl0 hr hp hg hc hxp
  go_enter Try.func10, Try.ntmps10
  go_wp2_with (first
    | (refine wl_build0V scI rfl rfl ?_))
  go_loopw [5, 6] (fun out i wr => ∃ k : Nat, k ≤ p ∧ i = .int .i64 (k : Int) ∧ Hid (VOwn 3 w.heap.size wr out (nv15 (needK l r.cube k))) ∧ Hid (Below w.heap.size w wr)) (fun _ i _ => n - (intOf i).toNat)
  case atStart => exact ⟨0, Nat.zero_le _, rfl, O0, B0⟩
  case round =>
    obtain ⟨k, hk, rfl, HO, HB⟩ := hrel
    by_cases hlt : k < p
    · have hlt' : (k : Int) < (p : Int) := by omega
      have d3 : decide ((k : Int) < (p : Int)) = true := by simp; omega
      have hkn' : (k : Int) < (n : Int) := by omega
      obtain ⟨g2, off2, cur2, ty2, fr2, x, e2, hg2, hc2', hxk⟩ := (GSl.below HL.out HB.out).at k (by omega)
      cases e2
      have hx : okR8 x := HOK.out x (List.mem_of_getElem? hxk)
      have HX : Hid (okR8 x) := hx
      have HXK : Hid (l[k]? = some x) := hxk
      have K1 : Hid (wr.heap[g]? = some (.cells cur2 ty2 fr2)) := hg2
      have H1 : Hid (∀ j, j < 26 → cur2[off + k * 28 + 1 + j]? = (cv x.cube.1 x.cube.2)[j]?) := cube_in hx hc2'
      have PN : Hid (wr.heap[g]? = some (.cells cur ty fr)) := (HB.out.block g (Array.getElem?_eq_some_iff.1 P1.out).1).trans P1.out
      clear hg2 hc2' hxk hx
      go_wp2_with fail
      have ne1 := Later.ne wr
      refine wp_region_later (by kernel_rfl) (by kernel_rfl) ?_
      go_big_quiet_step (fail)
      go_big_quiet_step (fail)
      go_big_quiet_step (fail)
      go_big_quiet_step (fail)
      refine qlCw rfl _ rfl g (off + k * 28 + 1) rfl cur2 ty2 fr2 x.cube.1 x.cube.2 HX.out.1.1 HX.out.2.1 (later_block K1.out) H1.out ?_
      simp only [Act.put, List.setIfInBounds_toArray, List.set_cons_succ, List.set_cons_zero]
      go_big_quiet_step (fail)
      go_big_quiet_step (fail)
      go_big_quiet_step (fail)
      go_big_quiet_step (fail)
      refine qlCw rfl _ rfl g (off + p * 28 + 1) rfl cur ty fr r.cube.1 r.cube.2 HR.out.1.1 HR.out.2.1 (later_block PN.out) P2.out ?_
      simp only [Act.put, List.setIfInBounds_toArray, List.set_cons_succ, List.set_cons_zero]
      go_big_quiet_want; go_big_quiet_op
      refine ⟨_, fun u => Calls.later_of (HME.out x u.world HX.out), ?_⟩
      go_big_quiet_on
      refine wpQuiet_nil ?_
      rintro w1 ⟨v5, rfl⟩
      have hb1 := v5.below
      obtain ⟨w1, hw1⟩ : ∃ w1, w1 = v5.world := ⟨_, rfl⟩
      rw [← hw1] at hb1 ⊢
      have B1 : Hid (Below w.heap.size w w1) := HB.out.trans (hb1.mono HB.out.size)
      have O1 : Hid (VOwn 3 w.heap.size w1 u5 (nv15 (needK l r.cube k))) := HO.out.below hb1
      clear ne1 hb1 hw1 v5 PN K1 H1 HB HO
      cases hm : meets x.cube.1 x.cube.2 r.cube.1 r.cube.2 with
      | false =>
        have E1 : Hid (needK l r.cube (k + 1) = needK l r.cube k) := need_no HXK.out hm
        clear hm
        go_wp2_with fail
        go_roundw
        case rel => exact ⟨k + 1, by omega, by go_num, by rw [E1.out]; exact O1, B1⟩
        case measure => simp [intOf]; omega
      | true =>
        have E1 : Hid (needK l r.cube (k + 1) = needK l r.cube k ++ [k]) := need_yes HXK.out hm
        have hlen : Hid ((nv15 (needK l r.cube k)).length ≤ 1000000) := by
          show _ ≤ _
          rw [nv_len]
          have := need_len l r.cube k
          omega
        clear hm
        obtain ⟨R, hR⟩ : ∃ R, R = needK l r.cube k := ⟨_, rfl⟩
        rw [← hR] at O1 E1 hlen
        clear hR
        have OA : Hid (VOwn 3 w.heap.size (w1.alloc (.cells #[Value.int .i64 (k : Int)] 3)) u5 (nv15 R)) := O1.out.below ((Below.refl _ _).alloc (Nat.le_refl _) _)
        have BA : Hid (Below w.heap.size w (w1.alloc (.cells #[Value.int .i64 (k : Int)] 3))) := B1.out.alloc B1.out.size _
        go_wp2_with (first
          | (refine wl_build1V scI rfl _ rfl (.int .i64 (k : Int)) rfl rfl ?_)
          | (at_builtin; refine of_stopV ?_))
        unfold StopV
        refine wl_app1V scI rfl _ _ rfl w.heap.size u5 (nv15 R) (.int .i64 (k : Int)) rfl rfl OA.out w1.heap.size 1 rfl (heap_new _ _ _ rfl) hlen.out (BA.out.size) ?_
        intro v' w3 hown3 hgr3 hv'
        have B3 : Hid (Below w.heap.size w w3) := BA.out.grown hgr3 BA.out.size fun j hj => (OA.out.ge j hj).1
        have O3 : Hid (VOwn 3 w.heap.size w3 v' (nv15 (R ++ [k]))) := by
          show VOwn _ _ _ _ _
          rw [← nv_snoc]; exact hown3
        clear hown3 hgr3 hv'
        simp only [Act.put, List.setIfInBounds_toArray, List.set_cons_succ, List.set_cons_zero]
        go_wp2_with fail
        go_roundw
        case rel => exact ⟨k + 1, by omega, by go_num, by rw [E1.out]; exact O3, B3⟩
        case measure => simp [intOf]; omega
    · have hlt' : ¬ (k : Int) < (p : Int) := by omega
      have d3 : decide ((k : Int) < (p : Int)) = false := by simp; omega
      obtain rfl : k = p := by omega
      go_wp2_with fail
      go_ret
      exact ⟨⟨_, rfl, HO.out⟩, HB.out⟩
end Go.Proofs.Ytdibjhlckjjlfaa
namespace Go.Proofs.Ytdibjhlckjjlfaa
open Go Go.RowKit
set_option maxRecDepth 20000

set_option maxHeartbeats 2000000 in
theorem wright_any (V M : List Int) (hV : Byt V) (hM : Byt M) (w : World) :
    Calls Try.prog 13 #[.agg (cv V M)] w fun e w' => e = .returned (.bool (V == can V M)) ∧ Below w.heap.size w w' := by
  have hVl := hV.1
  have hMl := hM.1
  have hCl := (can_byt V M).1
  have C1 : Hid (∀ W, Calls Try.prog 25 #[.agg (cv V M)] W fun e w' => e = .returned (.agg (cv (can V M) M)) ∧ Below W.heap.size W w') := canon_any V M hV hM
  have eC : ∀ w, (Op.equalIn 10000 30 (.agg (cv V M)) (.agg (cv (can V M) M))).run Try.prog w = .ok (V == can V M) w := fun w => by rw [eqC V M (can V M) M hVl hMl hCl hMl]; simp
  have eg : ∀ op x y (xs ys : Array Value) w, (eqGuard op 30 x y (.agg xs) (.agg ys)).run Try.prog w = .ok () w := egC
  clear hV hM
  go_enter Try.func13, Try.ntmps13
  go_wp2_with fail
  have g0 := heap_new w (.cells (cv V M) 30) _ rfl
  have hb := (Below.refl w.heap.size w).alloc (Nat.le_refl _) (.cells (cv V M) 30)
  obtain ⟨W, hW⟩ : ∃ W, W = w.alloc (.cells (cv V M) 30) := ⟨_, rfl⟩
  rw [← hW] at g0 hb ⊢
  clear hW
  have ne1 := Later.ne W
  refine wp_region_later (by kernel_rfl) (by kernel_rfl) ?_
  refine qlC rfl _ rfl w.heap.size rfl V M g0 hVl hMl ?_
  simp only [Act.put, List.setIfInBounds_toArray, List.set_cons_succ, List.set_cons_zero]
  refine qlC rfl _ rfl w.heap.size rfl V M g0 hVl hMl ?_
  simp only [Act.put, List.setIfInBounds_toArray, List.set_cons_succ, List.set_cons_zero]
  go_big_quiet_want; go_big_quiet_op
  refine ⟨_, fun u => Calls.later_of (C1.out u.world), ?_⟩
  go_big_quiet_on
  repeat go_big_quiet_step (fail)
  refine wpQuiet_nil ?_
  rintro w' ⟨u, rfl⟩
  go_wp2
  go_ret
  exact ⟨rfl, hb.trans (u.below.mono hb.size)⟩
end Go.Proofs.Ytdibjhlckjjlfaa
namespace Go.Proofs.Ytdibjhlckjjlfaa
open Go Go.RowKit
set_option maxRecDepth 20000

/-! What the laws share: a list cut to its first 40 rules; what both sides answer. -/
theorem wl_load26w {ops : Array Oper} {rest : List Oper} {o : Oper} {a : Act} {w : World} {Q : Exit → Act → World → Prop} (hw : Region.wanted o (yielded ops a.tmps) = true) (x : Operand) (ho : o.op = .load 28 x)
    (g : Nat) (hx : a.eval x = .pointer (some ⟨g, 0, none⟩)) (L : List Int) (hg : w.heap[g]? = some (.cells (hv L) 28 (0, 0))) (hL : L.length = 13)
    (h : wpList Try.prog ops Q rest (a.put o.dst (.agg (hv L))) w) : wpList Try.prog ops Q (o :: rest) a w := by
  refine wpList_step fun K hK => ?_
  rw [if_pos hw]
  unfold Oper.wp execOp
  simp only [ho, hx, Instr.loadAt, Instr.sureAddr, Sem.run_bind, Sem.run_pure, Result.andThen_ok, run_loadVar_row w g _ _ (hv L) (0, 0) _ hg Try.underlying28 rfl (size26 L hL)]
  exact hK _ _ h
structure Cut40 (w : World) (o : Option Addr) (n0 n cap : Nat) (l : List RuleM) : Prop where
  cap1 : n0 ≤ cap
  cap2 : cap ≤ maxLen
  le : n ≤ n0
  min : (n : Int) = min (n0 : Int) 40
  len : l.length = n
  le40 : l.length ≤ 40
  ok : ∀ r ∈ l, okR8 r
  at_ : RulesAt w (.slice o n cap) l
  slice : ∀ W, (Instr.sliceAt 22 (.slice o n0 cap) none (some (.int .i64 (n : Int))) none).run Try.prog W = .ok (.slice o n cap) W
theorem cut40 {w : World} {vl : Value} {l0 : List RuleM} (hok0 : ∀ r ∈ l0, okR8 r) (hl0 : RulesAt w vl l0) : ∃ o n0 n cap l, vl = .slice o n0 cap ∧ Cut40 w o n0 n cap l := by
  obtain ⟨o, cap, rfl, hc1, hc2⟩ := GSl.slice hl0
  refine ⟨o, l0.length, min l0.length 40, cap, l0.take (min l0.length 40), rfl, hc1, hc2, Nat.min_le_left _ _, by omega, by rw [List.length_take]; omega, by rw [List.length_take]; omega, fun r hr => hok0 r (List.mem_of_mem_take hr), GSl.take7 hl0 (Nat.min_le_left _ _), slice_rules15 hl0 _ (Nat.min_le_left _ _) hc1⟩
theorem needs_both (l : List RuleM) (hl0 : ∀ r ∈ l, okR8 r) (hn : l.length ≤ 40) (vl : Value) (i : Int) : ∃ L : List Nat, L.length ≤ 40 ∧
    (∀ W, RulesAt W vl l → Calls Try.prog 9 #[vl, .int .i64 i] W fun e w' => (∃ v, e = .returned v ∧ VSl w' v (nv15 L)) ∧ Below W.heap.size W w') ∧
    (∀ W, RulesAt W vl l → Calls Try.prog 10 #[vl, .int .i64 i] W fun e w' => (∃ v, e = .returned v ∧ VSl w' v (nv15 L)) ∧ Below W.heap.size W w') := by
  by_cases h : 0 ≤ i ∧ i < l.length
  · obtain ⟨p, rfl⟩ := Int.eq_ofNat_of_zero_le h.1
    have hp : p < l.length := by omega
    have hx : l[p]? = some l[p] := List.getElem?_eq_getElem hp
    refine ⟨needK l l[p].cube p, by have := need_len l l[p].cube p; omega, fun W hW => ?_, fun W hW => ?_⟩
    · refine (needs_yes l hl0 (by omega) vl p l[p] hx W hW).mono ?_
      rintro e w' ⟨⟨v, h1, h2⟩, h3⟩
      exact ⟨⟨v, h1, h2.sl⟩, h3⟩
    · refine (rneeds_yes l hl0 (by omega) vl p l[p] hx W hW).mono ?_
      rintro e w' ⟨⟨v, h1, h2⟩, h3⟩
      exact ⟨⟨v, h1, h2.sl⟩, h3⟩
  · refine ⟨[], by simp, fun W hW => ?_, fun W hW => ?_⟩
    · refine (needs_no l vl i h W hW).mono ?_
      rintro e w' ⟨h1, h2⟩
      exact ⟨⟨_, h1, vsl_nil w'⟩, h2⟩
    · refine (rneeds_no l vl i h W hW).mono ?_
      rintro e w' ⟨⟨v, h1, h2⟩, h3⟩
      exact ⟨⟨v, h1, h2.sl⟩, h3⟩
theorem about_both (l : List RuleM) (hl0 : ∀ r ∈ l, okR8 r) (hn : l.length ≤ 40) (vl : Value) (H : List Int) (hH : Byt H) : ∃ (V M : List Int) (a : Int) (b : Bool), Byt V ∧ Byt M ∧ (V == can V M) = true ∧
    (∀ W, RulesAt W vl l → Calls Try.prog 11 #[vl, .agg (hv H)] W fun e w' => e = .returned (.tuple #[.agg (cv V M), .int .i64 a, .bool b]) ∧ Below W.heap.size W w') ∧
    (∀ W, RulesAt W vl l → Calls Try.prog 12 #[vl, .agg (hv H)] W fun e w' => e = .returned (.tuple #[.agg (cv V M), .int .i64 a, .bool b]) ∧ Below W.heap.size W w') := by
  rcases first_or l H with ⟨p, r, hF⟩ | hF
  · have hR := (about_ok (A := cubsA (l.take p)) (hl0 r hF.mem).2 hF.has_ hF.ahead).2.2.2.1
    exact ⟨_, _, _, _, hR.1, hR.2.1, by rw [rightA_can hR]; simp, fun W hW => about_yes l hl0 (by omega) vl H hH p r hF W hW, fun W hW => rabout_yes l hl0 (by omega) vl H hH p r hF W hW⟩
  · exact ⟨_, _, _, _, Z_byt, Z_byt, by rw [Z_m0]; kernel_rfl, fun W hW => about_no l hl0 vl H hH hF W hW, fun W hW => rabout_no l hl0 vl H hH hF W hW⟩
end Go.Proofs.Ytdibjhlckjjlfaa
namespace Go.Proofs.Ytdibjhlckjjlfaa
open Go Go.RowKit
set_option maxRecDepth 20000

set_option maxHeartbeats 8000000 in
set_option maxRecDepth 100000 in
theorem lawANeeds_any (l0 : List RuleM) (hok0 : ∀ r ∈ l0, okR8 r) (vl : Value) (i : Int) (w : World) (hl0 : RulesAt w vl l0) :
    Calls Try.prog 3 #[vl, .int .i64 i] w fun e w' => e = .returned (.bool true) ∧ Below w.heap.size w w' := by
  obtain ⟨o, n0, n, cap, l, rfl, K⟩ := cut40 hok0 hl0
  have hc1 := K.cap1
  have hc2 := K.cap2
  unfold maxLen at hc2
  have hn0' := K.le
  have HNM : Hid ((n : Int) = min (n0 : Int) 40) := K.min
  have hsl := K.slice
  have AW : Hid (∀ W, Calls Try.prog 8 #[] W fun e w' => e = .returned (.bool true) ∧ Below W.heap.size W w') := fun W => awake15_any W
  obtain ⟨L, hL40, c1, c2⟩ := needs_both l K.ok K.le40 (.slice o n cap) i
  have C1 : Hid (∀ W, Below w.heap.size w W → Calls Try.prog 9 #[.slice o n cap, .int .i64 i] W fun e w' => (∃ v, e = .returned v ∧ VSl w' v (nv15 L)) ∧ Below W.heap.size W w') := fun W hb => c1 W (GSl.below K.at_ hb)
  have C2 : Hid (∀ W, Below w.heap.size w W → Calls Try.prog 10 #[.slice o n cap, .int .i64 i] W fun e w' => (∃ v, e = .returned v ∧ VSl w' v (nv15 L)) ∧ Below W.heap.size W w') := fun W hb => c2 W (GSl.below K.at_ hb)
  obtain ⟨m, hm⟩ : ∃ m, m = L.length := ⟨_, rfl⟩
  have HM : Hid (m = L.length) := hm
  rw [← hm] at hL40
  clear K hl0 hok0 c1 c2 hm
  go_enter Try.func3, Try.ntmps3
  go_wp2_with fail
  refine (AW.out _).mono ?_
  rintro e w1 ⟨rfl, hb1⟩
  have B1 : Hid (Below w.heap.size w w1) := hb1
  clear hb1
  go_wp2_with (first | (refine wl_min7 rfl _ _ rfl (n0 : Int) 40 (n : Int) rfl rfl HNM.out ?_))
  refine (C1.out _ B1.out).mono ?_
  rintro e w2 ⟨⟨va, rfl, hva⟩, hb2⟩
  have B2 : Hid (Below w.heap.size w w2) := B1.out.trans (hb2.mono B1.out.size)
  clear hb2 B1
  go_wp2_with fail
  refine (C2.out _ B2.out).mono ?_
  rintro e w3 ⟨⟨vb, rfl, hvb⟩, hb3⟩
  have B3 : Hid (Below w.heap.size w w3) := B2.out.trans (hb3.mono B2.out.size)
  have hva3 := hva.below hb3
  obtain ⟨oa, ca, rfl, ha1, ha2⟩ := VSl.slice hva3
  obtain ⟨ob, cb, rfl, hbb1, hbb2⟩ := VSl.slice hvb
  rw [nv_len, ← HM.out] at hva3 hvb ha1 hbb1 ⊢
  have VA : Hid (VSl w3 (.slice oa m ca) (nv15 L)) := hva3
  have VB : Hid (VSl w3 (.slice ob m cb) (nv15 L)) := hvb
  unfold maxLen at ha2 hbb2
  clear hva hva3 hvb hb3 B2 C1 C2
  go_wp2_with fail
  go_loopw [7] (fun k wr => ∃ j : Nat, j ≤ m ∧ k = .int .i64 (j : Int) ∧ Hid (Below w3.heap.size w3 wr)) (fun k _ => m - (intOf k).toNat)
  case atStart => exact ⟨0, Nat.zero_le _, rfl, Below.refl _ _⟩
  case round =>
    obtain ⟨j, hj, rfl, HB⟩ := hrel
    by_cases hlt : j < m
    · have hlt' : (j : Int) < (m : Int) := by omega
      obtain ⟨ga, fa, x, rfl, hxa, hxl⟩ := (VSl.below VA.out HB.out).row j hlt
      obtain ⟨gb, fb, y, rfl, hyb, hyl⟩ := (VSl.below VB.out HB.out).row j hlt
      rw [hxl] at hyl
      obtain rfl := Option.some.inj hyl
      obtain ⟨z, hz, rfl⟩ : ∃ z, L[j]? = some z ∧ x = .int .i64 (z : Int) := by
        unfold nv15 at hxl
        rw [List.getElem?_map] at hxl
        cases e : L[j]? with
        | none => rw [e] at hxl; cases hxl
        | some z => rw [e] at hxl; exact ⟨z, rfl, (Option.some.inj hxl).symm⟩
      obtain ⟨cua, ta, fra, ha, hca⟩ := hxa
      obtain ⟨cub, tb, frb, hb, hcb⟩ := hyb
      have e1 : ∀ u : Later wr, u.world.cell? ⟨ga, fa + j, none⟩ = some (.int .i64 (z : Int)) := fun u => (cell_of_row _ _ _ _ _ _ (later_block ha _ ⟨u, rfl⟩)).trans hca
      have e2 : ∀ u : Later wr, u.world.cell? ⟨gb, fb + j, none⟩ = some (.int .i64 (z : Int)) := fun u => (cell_of_row _ _ _ _ _ _ (later_block hb _ ⟨u, rfl⟩)).trans hcb
      clear hxl hyl ha hca hb hcb hz
      go_wp2_with fail
      have ne1 := Later.ne wr
      refine wp_region_later (by kernel_rfl) (by kernel_rfl) ?_
      repeat go_big_quiet_step (fail)
      refine wpQuiet_nil ?_
      rintro w4 ⟨u, rfl⟩
      have B4 : Hid (Below w3.heap.size w3 u.world) := HB.out.trans (u.below.mono HB.out.size)
      clear e1 e2 ne1
      go_wp2_with fail
      go_roundw
      case rel => exact ⟨j + 1, by omega, by go_num, B4⟩
      case measure => simp [intOf]; omega
    · have hlt' : ¬ (j : Int) < (m : Int) := by omega
      go_wp2_with fail
      go_ret
      exact ⟨rfl, B3.out.trans (HB.out.mono B3.out.size)⟩
end Go.Proofs.Ytdibjhlckjjlfaa
namespace Go.Proofs.Ytdibjhlckjjlfaa
open Go Go.RowKit
set_option maxRecDepth 20000

set_option maxHeartbeats 8000000 in
set_option maxRecDepth 100000 in
theorem lawAAbout_any (l0 : List RuleM) (hok0 : ∀ r ∈ l0, okR8 r) (vl : Value) (H : List Int) (hH : Byt H) (w : World) (hl0 : RulesAt w vl l0) :
    Calls Try.prog 4 #[vl, .agg (hv H)] w fun e w' => e = .returned (.bool true) ∧ Below w.heap.size w w' := by
  obtain ⟨o, n0, n, cap, l, rfl, K⟩ := cut40 hok0 hl0
  have hc1 := K.cap1
  have hc2 := K.cap2
  unfold maxLen at hc2
  have hn0' := K.le
  have HNM : Hid ((n : Int) = min (n0 : Int) 40) := K.min
  have hsl := K.slice
  have AW : Hid (∀ W, Calls Try.prog 8 #[] W fun e w' => e = .returned (.bool true) ∧ Below W.heap.size W w') := fun W => awake15_any W
  have hHl := hH.1
  obtain ⟨V, M, a, b, hV, hM, hRt, c1, c2⟩ := about_both l K.ok K.le40 (.slice o n cap) H hH
  have hVl := hV.1
  have hMl := hM.1
  have C1 : Hid (∀ W, Below w.heap.size w W → Calls Try.prog 11 #[.slice o n cap, .agg (hv H)] W fun e w' => e = .returned (.tuple #[.agg (cv V M), .int .i64 a, .bool b]) ∧ Below W.heap.size W w') := fun W hb => c1 W (GSl.below K.at_ hb)
  have C2 : Hid (∀ W, Below w.heap.size w W → Calls Try.prog 12 #[.slice o n cap, .agg (hv H)] W fun e w' => e = .returned (.tuple #[.agg (cv V M), .int .i64 a, .bool b]) ∧ Below W.heap.size W w') := fun W hb => c2 W (GSl.below K.at_ hb)
  have C3 : Hid (∀ W, Calls Try.prog 13 #[.agg (cv V M)] W fun e w' => e = .returned (.bool true) ∧ Below W.heap.size W w') := fun W => by
    have := wright_any V M hV hM W
    rwa [hRt] at this
  have eq0 : ∀ w, (Op.equalIn 10000 30 (.agg (cv V M)) (.agg (cv V M))).run Try.prog w = .ok true w := fun w => by rw [eqC _ _ _ _ hVl hMl hVl hMl]; simp
  have eg : ∀ op x y (xs ys : Array Value) w, (eqGuard op 30 x y (.agg xs) (.agg ys)).run Try.prog w = .ok () w := egC
  have K0 : Hid ((w.alloc (.cells (hv H) 28)).heap[w.heap.size]? = some (.cells (hv H) 28 (0, 0))) := heap_new _ _ _ rfl
  have B0 : Hid (Below w.heap.size w (w.alloc (.cells (hv H) 28))) := (Below.refl _ _).alloc (Nat.le_refl _) _
  clear K hl0 hok0 c1 c2 hV hM hRt hH
  go_enter Try.func4, Try.ntmps4
  go_wp2_with fail
  refine (AW.out _).mono ?_
  rintro e w1 ⟨rfl, hb1⟩
  have R1 : Hid (w1.heap[w.heap.size]? = some (.cells (hv H) 28 (0, 0))) := (hb1.block _ (by simp)).trans K0.out
  have B1 : Hid (Below w.heap.size w w1) := B0.out.trans (hb1.mono B0.out.size)
  clear hb1 K0 B0
  go_wp2_with (first | (refine wl_min7 rfl _ _ rfl (n0 : Int) 40 (n : Int) rfl rfl HNM.out ?_) | (refine wl_load26 rfl _ rfl w.heap.size rfl H R1.out hHl ?_))
  refine (C1.out _ B1.out).mono ?_
  rintro e w2 ⟨rfl, hb2⟩
  have hbw := B1.out.trans (hb2.mono B1.out.size)
  have B2 : Hid (Below w.heap.size w (w2.alloc (.cells (cv V M) 30))) := hbw.alloc hbw.size _
  have S0 : Hid ((w2.alloc (.cells (cv V M) 30)).heap[w.heap.size]? = some (.cells (hv H) 28 (0, 0))) := heap_past _ _ _ _ ((hb2.block _ (Array.getElem?_eq_some_iff.1 R1.out).1).trans R1.out)
  have S1 : Hid ((w2.alloc (.cells (cv V M) 30)).heap[w2.heap.size]? = some (.cells (cv V M) 30 (0, 0))) := heap_new _ _ _ rfl
  clear hb2 hbw R1 B1
  go_wp2_with (first
    | (refine wl_storeC rfl _ _ rfl w2.heap.size V M rfl rfl _ (heap_new _ _ _ rfl) rfl hVl hMl _ (setRow_new _ _ _ _ _ rfl) ?_)
    | (refine wl_load26 rfl _ rfl w.heap.size rfl H S0.out hHl ?_))
  refine (C2.out _ B2.out).mono ?_
  rintro e w3 ⟨rfl, hb3⟩
  have hbw := B2.out.trans (hb3.mono B2.out.size)
  have B3 : Hid (Below w.heap.size w (w3.alloc (.cells (cv V M) 30))) := hbw.alloc hbw.size _
  have T1 : Hid ((w3.alloc (.cells (cv V M) 30)).heap[w2.heap.size]? = some (.cells (cv V M) 30 (0, 0))) := heap_past _ _ _ _ ((hb3.block _ (Array.getElem?_eq_some_iff.1 S1.out).1).trans S1.out)
  have T2 : Hid ((w3.alloc (.cells (cv V M) 30)).heap[w3.heap.size]? = some (.cells (cv V M) 30 (0, 0))) := heap_new _ _ _ rfl
  have hbb : (b == b) = true := by simp
  clear hb3 hbw S0 S1 B2
  go_wp2_with (first
    | (refine wl_storeC rfl _ _ rfl w3.heap.size V M rfl rfl _ (heap_new _ _ _ rfl) rfl hVl hMl _ (setRow_new _ _ _ _ _ rfl) ?_)
    | (refine wl_loadCw rfl _ rfl w3.heap.size 0 rfl _ _ _ V M hVl hMl T2.out (own_cells _ _) ?_)
    | (refine wl_loadCw rfl _ rfl w2.heap.size 0 rfl _ _ _ V M hVl hMl T1.out (own_cells _ _) ?_))
  refine (C3.out _).mono ?_
  rintro e w4 ⟨rfl, hb4⟩
  have B4 : Hid (Below w.heap.size w w4) := B3.out.trans (hb4.mono B3.out.size)
  clear hb4
  go_wp2_with fail
  go_ret
  exact ⟨by simp, B4.out⟩
end Go.Proofs.Ytdibjhlckjjlfaa
namespace Go.Proofs.Ytdibjhlckjjlfaa
open Go Go.RowKit
set_option maxRecDepth 20000

/-- The first rule's place in the reference, whatever the header. -/
theorem rfirst_ex (l : List RuleM) (hl0 : ∀ r ∈ l, okR8 r) (vl : Value) (G : List Int) (hG : Byt G) : ∃ k : Int, (∀ p r, FirstA l G p r → k = (p : Int)) ∧ ∀ W, RulesAt W vl l → Calls Try.prog 14 #[vl, .agg (hv G)] W fun e w' => e = .returned (.int .i64 k) ∧ Below W.heap.size W w' := by
  rcases first_or l G with ⟨p, r, hF⟩ | hF
  · exact ⟨(p : Int), fun p' r' h' => by rw [(hF.one h').1], fun W hW => rfirst_yes l hl0 vl G hG p r hF W hW⟩
  · exact ⟨-1, (fun p' r' h' => by have := hF r' h'.mem; unfold hasR at this; rw [h'.has_] at this; cases this), fun W hW => rfirst_no l hl0 vl G hG hF W hW⟩
theorem look_ok15 {l : List RuleM} (h : ∀ r ∈ l, okR8 r) (H : List Int) : okR8 (lookT l H).1 := by
  unfold lookT
  cases hf : l.find? (hasR H) with
  | none => exact rule0_ok
  | some r => exact h r (List.mem_of_find?_eq_some hf)
set_option maxHeartbeats 8000000 in
set_option maxRecDepth 100000 in
theorem lawASafe_any (l0 : List RuleM) (hok0 : ∀ r ∈ l0, okR8 r) (vl : Value) (H G : List Int) (hH : Byt H) (hG : Byt G) (w : World) (hl0 : RulesAt w vl l0) :
    Calls Try.prog 5 #[vl, .agg (hv H), .agg (hv G)] w fun e w' => e = .returned (.bool true) ∧ Below w.heap.size w w' := by
  obtain ⟨o, n0, n, cap, l, rfl, K⟩ := cut40 hok0 hl0
  have hc1 := K.cap1
  have hc2 := K.cap2
  unfold maxLen at hc2
  have hn0' := K.le
  have HNM : Hid ((n : Int) = min (n0 : Int) 40) := K.min
  have hsl := K.slice
  have AW : Hid (∀ W, Calls Try.prog 8 #[] W fun e w' => e = .returned (.bool true) ∧ Below W.heap.size W w') := fun W => awake15_any W
  have hHl := hH.1
  have hGl := hG.1
  have K0 : Hid (((w.alloc (.cells (hv H) 28)).alloc (.cells (hv G) 28)).heap[w.heap.size]? = some (.cells (hv H) 28 (0, 0))) := heap_past _ _ _ _ (heap_new _ _ _ rfl)
  have K1 : Hid (((w.alloc (.cells (hv H) 28)).alloc (.cells (hv G) 28)).heap[w.heap.size + 1]? = some (.cells (hv G) 28 (0, 0))) := heap_new _ _ _ (by simp)
  have B0 : Hid (Below w.heap.size w ((w.alloc (.cells (hv H) 28)).alloc (.cells (hv G) 28))) := ((Below.refl _ _).alloc (Nat.le_refl _) _).alloc (by simp) _
  rcases first_or l H with ⟨p, r, hF⟩ | hF
  · obtain ⟨hcH, hin, hcl, hR, _⟩ := about_ok (A := cubsA (l.take p)) (K.ok r hF.mem).2 hF.has_ hF.ahead
    have c1 := fun W hW => about_yes l K.ok (by have := K.le40; omega) (.slice o n cap) H hH p r hF W hW
    have c2 := fun W hW => rfirst_yes l K.ok (.slice o n cap) H hH p r hF W hW
    obtain ⟨kk, hkk, c3⟩ := rfirst_ex l K.ok (.slice o n cap) G hG
    have hsafe : has (aboutA (cubsA (l.take p)) r.cube H).1 (aboutA (cubsA (l.take p)) r.cube H).2 G = true → kk = (p : Int) ∧ (lookT l G) = (r, true) := fun h => by
      have := hF.safe hin hcl h
      exact ⟨hkk p r this, this.look⟩
    have hxo := look_ok15 K.ok G
    have c4 := fun W hW => look_any l K.ok (.slice o n cap) G hG W hW
    obtain ⟨x, is, hxe⟩ : ∃ x is, lookT l G = (x, is) := ⟨_, _, rfl⟩
    rw [hxe] at hsafe hxo
    simp only [hxe] at c4
    obtain ⟨V, M, hVM⟩ : ∃ V M, aboutA (cubsA (l.take p)) r.cube H = (V, M) := ⟨_, _, rfl⟩
    rw [hVM] at hsafe hcH hR
    simp only [hVM] at c1
    have hVl := hR.1.1
    have hMl := hR.2.1.1
    obtain ⟨z, hz⟩ : ∃ z, z = has V M G := ⟨_, rfl⟩
    have C1 : Hid (∀ W, Below w.heap.size w W → Calls Try.prog 11 #[.slice o n cap, .agg (hv H)] W fun e w' => e = .returned (.tuple #[.agg (cv V M), .int .i64 r.action, .bool true]) ∧ Below W.heap.size W w') := fun W hb => c1 W (GSl.below K.at_ hb)
    have C2 : Hid (∀ W, Below w.heap.size w W → Calls Try.prog 14 #[.slice o n cap, .agg (hv H)] W fun e w' => e = .returned (.int .i64 (p : Int)) ∧ Below W.heap.size W w') := fun W hb => c2 W (GSl.below K.at_ hb)
    have C3 : Hid (∀ W, Below w.heap.size w W → Calls Try.prog 14 #[.slice o n cap, .agg (hv G)] W fun e w' => e = .returned (.int .i64 kk) ∧ Below W.heap.size W w') := fun W hb => c3 W (GSl.below K.at_ hb)
    have C4 : Hid (∀ W, Below w.heap.size w W → Calls Try.prog 15 #[.slice o n cap, .agg (hv G)] W fun e w' => e = .returned (.tuple #[.agg (ruleV x), .bool is]) ∧ Below W.heap.size W w') := fun W hb => c4 W (GSl.below K.at_ hb)
    have C5 : Hid (∀ W, Calls Try.prog 16 #[.agg (cv V M), .agg (hv H)] W fun e w' => e = .returned (.bool true) ∧ Below W.heap.size W w') := fun W => by
      have := has_any V M H hR.1 hR.2.1 hH W
      rwa [hcH] at this
    have C6 : Hid (∀ W, Calls Try.prog 16 #[.agg (cv V M), .agg (hv G)] W fun e w' => e = .returned (.bool z) ∧ Below W.heap.size W w') := fun W => by rw [hz]; exact has_any V M G hR.1 hR.2.1 hG W
    have HS : Hid (z = true → kk = (p : Int) ∧ x.action = r.action ∧ is = true) := fun h => by
      have := hsafe (by rw [← hz]; exact h)
      exact ⟨this.1, by rw [(Prod.mk.inj this.2).1], (Prod.mk.inj this.2).2⟩
    have HXO : Hid (okR8 x) := hxo
    have hxs := ruleV_size hxo
    clear K hl0 hok0 c1 c2 c3 c4 hF hcH hin hcl hR hkk hsafe hxo hxe hVM hz hH hG
    go_enter Try.func5, Try.ntmps5
    go_wp2_with fail
    refine (AW.out _).mono ?_
    rintro e w1 ⟨rfl, hb1⟩
    have R0 : Hid (w1.heap[w.heap.size]? = some (.cells (hv H) 28 (0, 0))) := (hb1.block _ (by simp; omega)).trans K0.out
    have R1 : Hid (w1.heap[w.heap.size + 1]? = some (.cells (hv G) 28 (0, 0))) := (hb1.block _ (by simp)).trans K1.out
    have B1 : Hid (Below w.heap.size w w1) := B0.out.trans (hb1.mono B0.out.size)
    clear hb1 K0 K1 B0
    go_wp2_with (first | (refine wl_min7 rfl _ _ rfl (n0 : Int) 40 (n : Int) rfl rfl HNM.out ?_) | (refine wl_load26 rfl _ rfl w.heap.size rfl H R0.out hHl ?_))
    refine (C1.out _ B1.out).mono ?_
    rintro e w2 ⟨rfl, hb2⟩
    have hbw := B1.out.trans (hb2.mono B1.out.size)
    have B2 : Hid (Below w.heap.size w (w2.alloc (.cells (cv V M) 30))) := hbw.alloc hbw.size _
    have S0 : Hid ((w2.alloc (.cells (cv V M) 30)).heap[w.heap.size]? = some (.cells (hv H) 28 (0, 0))) := heap_past _ _ _ _ ((hb2.block _ (Array.getElem?_eq_some_iff.1 R0.out).1).trans R0.out)
    have S1 : Hid ((w2.alloc (.cells (cv V M) 30)).heap[w.heap.size + 1]? = some (.cells (hv G) 28 (0, 0))) := heap_past _ _ _ _ ((hb2.block _ (Array.getElem?_eq_some_iff.1 R1.out).1).trans R1.out)
    have S2 : Hid ((w2.alloc (.cells (cv V M) 30)).heap[w2.heap.size]? = some (.cells (cv V M) 30 (0, 0))) := heap_new _ _ _ rfl
    clear hb2 hbw R0 R1 B1
    go_wp2_with (first
      | (refine wl_storeC rfl _ _ rfl w2.heap.size V M rfl rfl _ (heap_new _ _ _ rfl) rfl hVl hMl _ (setRow_new _ _ _ _ _ rfl) ?_)
      | (refine wl_load26 rfl _ rfl w.heap.size rfl H S0.out hHl ?_))
    refine (C2.out _ B2.out).mono ?_
    rintro e w3 ⟨rfl, hb3⟩
    have B3 : Hid (Below w.heap.size w w3) := B2.out.trans (hb3.mono B2.out.size)
    have T0 : Hid (w3.heap[w.heap.size]? = some (.cells (hv H) 28 (0, 0))) := (hb3.block _ (Array.getElem?_eq_some_iff.1 S0.out).1).trans S0.out
    have T1 : Hid (w3.heap[w.heap.size + 1]? = some (.cells (hv G) 28 (0, 0))) := (hb3.block _ (Array.getElem?_eq_some_iff.1 S1.out).1).trans S1.out
    have T2 : Hid (w3.heap[w2.heap.size]? = some (.cells (cv V M) 30 (0, 0))) := (hb3.block _ (Array.getElem?_eq_some_iff.1 S2.out).1).trans S2.out
    obtain ⟨gc, hgc⟩ : ∃ gc, gc = w2.heap.size := ⟨_, rfl⟩
    rw [← hgc] at T2 ⊢
    clear hb3 S0 S1 S2 B2 hgc
    go_wp2_with (first
      | (refine wl_load26 rfl _ rfl (w.heap.size + 1) rfl G T1.out hGl ?_))
    refine (C3.out _ B3.out).mono ?_
    rintro e w4 ⟨rfl, hb4⟩
    have B4 : Hid (Below w.heap.size w w4) := B3.out.trans (hb4.mono B3.out.size)
    have V0 : Hid (w4.heap[w.heap.size]? = some (.cells (hv H) 28 (0, 0))) := (hb4.block _ (Array.getElem?_eq_some_iff.1 T0.out).1).trans T0.out
    have V1 : Hid (w4.heap[w.heap.size + 1]? = some (.cells (hv G) 28 (0, 0))) := (hb4.block _ (Array.getElem?_eq_some_iff.1 T1.out).1).trans T1.out
    have V2 : Hid (w4.heap[gc]? = some (.cells (cv V M) 30 (0, 0))) := (hb4.block _ (Array.getElem?_eq_some_iff.1 T2.out).1).trans T2.out
    clear hb4 T0 T1 T2 B3
    go_wp2_with (first
      | (refine wl_load26 rfl _ rfl (w.heap.size + 1) rfl G V1.out hGl ?_))
    refine (C4.out _ B4.out).mono ?_
    rintro e w5 ⟨rfl, hb5⟩
    have hbw := B4.out.trans (hb5.mono B4.out.size)
    have B5 : Hid (Below w.heap.size w (w5.alloc (.cells (ruleV x) 37))) := hbw.alloc hbw.size _
    have X0 : Hid ((w5.alloc (.cells (ruleV x) 37)).heap[w.heap.size]? = some (.cells (hv H) 28 (0, 0))) := heap_past _ _ _ _ ((hb5.block _ (Array.getElem?_eq_some_iff.1 V0.out).1).trans V0.out)
    have X1 : Hid ((w5.alloc (.cells (ruleV x) 37)).heap[w.heap.size + 1]? = some (.cells (hv G) 28 (0, 0))) := heap_past _ _ _ _ ((hb5.block _ (Array.getElem?_eq_some_iff.1 V1.out).1).trans V1.out)
    have X2 : Hid ((w5.alloc (.cells (ruleV x) 37)).heap[gc]? = some (.cells (cv V M) 30 (0, 0))) := heap_past _ _ _ _ ((hb5.block _ (Array.getElem?_eq_some_iff.1 V2.out).1).trans V2.out)
    have X3 : Hid ((w5.alloc (.cells (ruleV x) 37)).heap[w5.heap.size]? = some (.cells (ruleV x) 37 (0, 0))) := heap_new _ _ _ rfl
    clear hb5 hbw V0 V1 V2 B4
    go_wp2_with (first
      | (refine wl_storeE (E := RuleE) RuleOk rfl _ _ rfl w5.heap.size (ruleV x) (rule_fits HXO.out) rfl rfl _ (heap_new _ _ _ rfl) rfl _ (setRow_new _ _ _ _ _ rfl) ?_; refine of_stopT ?_))
    unfold StopT
    obtain ⟨gx, hgx⟩ : ∃ gx, gx = w5.heap.size := ⟨_, rfl⟩
    obtain ⟨w6, hw6⟩ : ∃ w6, w6 = w5.alloc (.cells (ruleV x) 37) := ⟨_, rfl⟩
    rw [← hw6] at B5 X0 X1 X2 X3 ⊢
    rw [← hgx] at X3 ⊢
    clear hgx hw6
    go_wp2_with (first
      | (refine wl_loadCw rfl _ rfl gc 0 rfl _ _ _ V M hVl hMl X2.out (own_cells _ _) ?_)
      | (refine wl_load26 rfl _ rfl w.heap.size rfl H X0.out hHl ?_))
    refine (C5.out _).mono ?_
    rintro e w7 ⟨rfl, hb7⟩
    have B7 : Hid (Below w.heap.size w w7) := B5.out.trans (hb7.mono B5.out.size)
    have Y1 : Hid (w7.heap[w.heap.size + 1]? = some (.cells (hv G) 28 (0, 0))) := (hb7.block _ (Array.getElem?_eq_some_iff.1 X1.out).1).trans X1.out
    have Y2 : Hid (w7.heap[gc]? = some (.cells (cv V M) 30 (0, 0))) := (hb7.block _ (Array.getElem?_eq_some_iff.1 X2.out).1).trans X2.out
    have Y3 : Hid (w7.heap[gx]? = some (.cells (ruleV x) 37 (0, 0))) := (hb7.block _ (Array.getElem?_eq_some_iff.1 X3.out).1).trans X3.out
    clear hb7 X0 X1 X2 X3 B5
    go_wp2_with (first
      | (refine wl_loadCw rfl _ rfl gc 0 rfl _ _ _ V M hVl hMl Y2.out (own_cells _ _) ?_)
      | (refine wl_load26w rfl _ rfl (w.heap.size + 1) rfl G Y1.out hGl ?_))
    refine (C6.out _).mono ?_
    rintro e w8 ⟨rfl, hb8⟩
    have B8 : Hid (Below w.heap.size w w8) := B7.out.trans (hb8.mono B7.out.size)
    have cell8 : w8.cell? ⟨gx, 27, none⟩ = some (.int .i64 x.action) := (cell_of_row _ _ _ _ _ _ ((hb8.block _ (Array.getElem?_eq_some_iff.1 Y3.out).1).trans Y3.out)).trans (rule_at HXO.out).2.2
    clear hb8 Y1 Y2 Y3 B7
    cases z with
    | false =>
      clear HS
      go_wp2_with fail
      go_ret
      exact ⟨rfl, B8.out⟩
    | true =>
      obtain ⟨h1, h2, h3⟩ := HS.out rfl
      rw [h2] at cell8
      subst h1 h3
      clear HS h2
      go_wp2_with fail
      go_ret
      exact ⟨by simp, B8.out⟩
  · have c1 := fun W hW => about_no l K.ok (.slice o n cap) H hH hF W hW
    have c2 := fun W hW => rfirst_no l K.ok (.slice o n cap) H hH hF W hW
    have C1 : Hid (∀ W, Below w.heap.size w W → Calls Try.prog 11 #[.slice o n cap, .agg (hv H)] W fun e w' => e = .returned (.tuple #[.agg (cv Z Z), .int .i64 0, .bool false]) ∧ Below W.heap.size W w') := fun W hb => c1 W (GSl.below K.at_ hb)
    have C2 : Hid (∀ W, Below w.heap.size w W → Calls Try.prog 14 #[.slice o n cap, .agg (hv H)] W fun e w' => e = .returned (.int .i64 (-1)) ∧ Below W.heap.size W w') := fun W hb => c2 W (GSl.below K.at_ hb)
    clear K hl0 hok0 c1 c2 hF hH hG
    go_enter Try.func5, Try.ntmps5
    go_wp2_with fail
    refine (AW.out _).mono ?_
    rintro e w1 ⟨rfl, hb1⟩
    have R0 : Hid (w1.heap[w.heap.size]? = some (.cells (hv H) 28 (0, 0))) := (hb1.block _ (by simp; omega)).trans K0.out
    have B1 : Hid (Below w.heap.size w w1) := B0.out.trans (hb1.mono B0.out.size)
    clear hb1 K0 K1 B0
    go_wp2_with (first | (refine wl_min7 rfl _ _ rfl (n0 : Int) 40 (n : Int) rfl rfl HNM.out ?_) | (refine wl_load26 rfl _ rfl w.heap.size rfl H R0.out hHl ?_))
    refine (C1.out _ B1.out).mono ?_
    rintro e w2 ⟨rfl, hb2⟩
    have hbw := B1.out.trans (hb2.mono B1.out.size)
    have B2 : Hid (Below w.heap.size w (w2.alloc (.cells (cv Z Z) 30))) := hbw.alloc hbw.size _
    have S0 : Hid ((w2.alloc (.cells (cv Z Z) 30)).heap[w.heap.size]? = some (.cells (hv H) 28 (0, 0))) := heap_past _ _ _ _ ((hb2.block _ (Array.getElem?_eq_some_iff.1 R0.out).1).trans R0.out)
    clear hb2 hbw R0 B1
    go_wp2_with (first
      | (refine wl_storeC rfl _ _ rfl w2.heap.size Z Z rfl rfl _ (heap_new _ _ _ rfl) rfl Z_byt.1 Z_byt.1 _ (setRow_new _ _ _ _ _ rfl) ?_)
      | (refine wl_load26 rfl _ rfl w.heap.size rfl H S0.out hHl ?_))
    refine (C2.out _ B2.out).mono ?_
    rintro e w3 ⟨rfl, hb3⟩
    have B3 : Hid (Below w.heap.size w w3) := B2.out.trans (hb3.mono B2.out.size)
    clear hb3 S0 B2
    go_wp2_with fail
    go_ret
    exact ⟨rfl, B3.out⟩
end Go.Proofs.Ytdibjhlckjjlfaa
