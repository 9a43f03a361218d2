import Derived.Test.YtdibjhlckjjlfaaJ8
import Derived.Test.YtdibjhlckjjlfaaJ7
import Derived.Test.YtdibjhlckjjlfaaJ6
namespace Go.Proofs.Ytdibjhlckjjlfaa
open Go Go.RowKit
set_option maxRecDepth 20000

/-! inWay: the cubes in the way of a rule. -/
def cubesAt (l : List RuleM) (L : List Nat) : List (List Int × List Int) := L.filterMap fun j => (l[j]?).map (·.cube)
theorem cubesAt_snoc {l : List RuleM} {L : List Nat} {k j : Nat} {x : RuleM} (hk : L[k]? = some j) (hx : l[j]? = some x) : cubesAt l (L.take (k + 1)) = cubesAt l (L.take k) ++ [(x.cube.1, x.cube.2)] := by
  unfold cubesAt
  rw [List.take_add_one, hk, List.filterMap_append]
  simp [hx]
theorem cubesAt_len (l : List RuleM) (L : List Nat) : (cubesAt l L).length ≤ L.length := List.length_filterMap_le _ _
theorem nv_at {L : List Nat} {k : Nat} {c : Value} (h : (nv15 L)[k]? = some c) : ∃ j, L[k]? = some j ∧ c = .int .i64 (j : Int) := by
  unfold nv15 at h
  rw [List.getElem?_map] at h
  cases e : L[k]? with
  | none => rw [e] at h; cases h
  | some j => rw [e] at h; exact ⟨j, rfl, (Option.some.inj h).symm⟩
set_option maxHeartbeats 8000000 in
theorem inWay_any (l : List RuleM) (hl0 : ∀ r ∈ l, okR8 r) (hn1 : l.length ≤ 100000) (vl : Value) (p : Nat) (r : RuleM) (hp : l[p]? = some r) (w : World) (hl : RulesAt w vl l) :
    Calls Try.prog 23 #[vl, .int .i64 (p : Int)] w fun e w' => (∃ u, e = .returned u ∧ w'.ownsRow w.heap.size 30 26 u (wayA (cubsA (l.take p)) r.cube).length (ccells (wayA (cubsA (l.take p)) r.cube))) ∧ Below w.heap.size w w' := by
  have hpn0 := (List.getElem?_eq_some_iff.1 hp).1
  have HW : Hid (cubesAt l (needK l r.cube p) = wayA (cubsA (l.take p)) r.cube) := need_way (Nat.le_of_lt hpn0)
  have HN1 : Hid (∀ j ∈ needK l r.cube p, j < p) := fun j hj => need_lt hj
  have HN2 : Hid ((needK l r.cube p).length ≤ p) := need_len l r.cube p
  have C1 : Hid (∀ W, W = w → Calls Try.prog 9 #[vl, .int .i64 (p : Int)] W fun e w' => (∃ v, e = .returned v ∧ VOwn 3 w.heap.size w' v (nv15 (needK l r.cube p))) ∧ Below w.heap.size w w') := fun W hW => by subst hW; exact needs_yes l hl0 hn1 vl p r hp W hl
  obtain ⟨o, cap, rfl, hc1, hc2⟩ := GSl.slice hl
  obtain ⟨n, hn0⟩ : ∃ n, n = l.length := ⟨_, rfl⟩
  rw [← hn0] at hl hc1 hn1 hpn0 C1 ⊢
  have HL : Hid (RulesAt w (.slice o n cap) l) := hl
  have HOK : Hid (∀ r ∈ l, okR8 r) := hl0
  unfold maxLen at hc2
  obtain ⟨L, hL⟩ : ∃ L, L = needK l r.cube p := ⟨_, rfl⟩
  rw [← hL] at HW HN1 HN2 C1
  rw [← HW.out]
  clear hl hn0 hl0 hp hL HW
  go_enter Try.func23, Try.ntmps23
  go_wp2_with fail
  refine (C1.out _ rfl).mono ?_
  rintro e w1 ⟨⟨v, rfl, hv1⟩, hb1⟩
  have HV : Hid (VSl w1 v (nv15 L)) := hv1.sl
  have HB1 : Hid (Below w.heap.size w w1) := hb1
  obtain ⟨o2, cap2, rfl, hm1, hm2⟩ := VSl.slice hv1.sl
  obtain ⟨m, hm⟩ : ∃ m, m = L.length := ⟨_, rfl⟩
  rw [nv_len, ← hm] at HV hm1
  rw [nv_len, ← hm]
  have hmp : m ≤ p := by rw [hm]; exact HN2.out
  have HM : Hid (m = L.length) := hm
  unfold maxLen at hm2
  clear hv1 hb1 hm C1
  go_wp2_with fail
  go_loopw [5, 12] (fun out i wr => ∃ k : Nat, k ≤ m ∧ i = .int .i64 (k : Int) ∧ Hid (wr.ownsRow w1.heap.size 30 26 out (cubesAt l (L.take k)).length (ccells (cubesAt l (L.take k)))) ∧ Hid (Below w1.heap.size w1 wr)) (fun _ i _ => m - (intOf i).toNat)
  case atStart => exact ⟨0, Nat.zero_le _, rfl, World.ownsRow_nil _ _ _ _, Below.refl _ _⟩
  case round =>
    obtain ⟨k, hk, rfl, HO, HB⟩ := hrel
    by_cases hlt : k < m
    · have hlt' : (k : Int) < (m : Int) := by omega
      obtain ⟨gi, offi, c, rfl, hcell, hck⟩ := (VSl.below HV.out HB.out).at k hlt
      obtain ⟨j, hj, rfl⟩ := nv_at hck
      have hjp : j < p := HN1.out j (List.mem_of_getElem? hj)
      have hjn' : (j : Int) < (n : Int) := by omega
      obtain ⟨g, off, cur, ty, fr, x, rfl, hg, hc, hxk⟩ := (GSl.below HL.out (HB1.out.trans (HB.out.mono HB1.out.size))).at j (by omega)
      have hx : okR8 x := HOK.out x (List.mem_of_getElem? hxk)
      have HX : Hid (okR8 x) := hx
      have K1 : Hid (wr.heap[g]? = some (.cells cur ty fr)) := hg
      have H1 : Hid (∀ j', j' < 26 → cur[off + j * 28 + 1 + j']? = (cv x.cube.1 x.cube.2)[j']?) := cube_in hx hc
      have E1 : Hid (cubesAt l (L.take (k + 1)) = cubesAt l (L.take k) ++ [(x.cube.1, x.cube.2)]) := cubesAt_snoc hj hxk
      have hlen : Hid ((cubesAt l (L.take k)).length ≤ 1000000) := by
        show _ ≤ _
        have := cubesAt_len l (L.take k)
        rw [List.length_take] at this
        omega
      have hj0 : (0 : Int) ≤ (j : Int) := by omega
      have OA : Hid ((wr.alloc (.cells (cv x.cube.1 x.cube.2) 30)).ownsRow w1.heap.size 30 26 u5 (cubesAt l (L.take k)).length (ccells (cubesAt l (L.take k)))) := HO.out.alloc _
      have BA : Hid (Below w1.heap.size w1 (wr.alloc (.cells (cv x.cube.1 x.cube.2) 30))) := HB.out.alloc HB.out.size _
      clear hg hc hxk hx hck hj
      go_wp2_with (first
        | (refine wl_loadCw rfl _ rfl g (off + j * 28 + 1) rfl cur ty fr x.cube.1 x.cube.2 HX.out.1.1 HX.out.2.1 K1.out H1.out ?_)
        | (refine wl_build1 rfl _ rfl x.cube.1 x.cube.2 HX.out.1.1 HX.out.2.1 rfl ?_)
        | (at_builtin; refine of_stopped ?_))
      unfold Stopped
      refine wl_append1 rfl _ _ rfl w1.heap.size u5 (cubesAt l (L.take k)) x.cube.1 x.cube.2 HX.out.1.1 HX.out.2.1 rfl OA.out wr.heap.size 1 rfl (heap_new _ _ _ rfl) hlen.out BA.out.size ?_
      intro v' w3 hown3 hgr3 hv'
      have B3 : Hid (Below w1.heap.size w1 w3) := BA.out.grown hgr3 BA.out.size fun q hq => (OA.out.lt q hq).1
      have O3 : Hid (w3.ownsRow w1.heap.size 30 26 v' (cubesAt l (L.take (k + 1))).length (ccells (cubesAt l (L.take (k + 1))))) := by
        show World.ownsRow _ _ _ _ _ _ _
        rw [E1.out]; exact hown3
      clear hown3 hgr3 hv'
      simp only [Act.put, List.setIfInBounds_toArray, List.set_cons_succ, List.set_cons_zero]
      go_wp2_with fail
      go_roundw
      case rel => exact ⟨k + 1, by omega, by go_num, O3, B3⟩
      case measure => simp [intOf]; omega
    · have hlt' : ¬ (k : Int) < (m : Int) := by omega
      have HE : Hid (L.take k = L) := by
        show _ = _
        have := HM.out
        rw [List.take_of_length_le (by omega)]
      rw [HE.out] at HO
      go_wp2_with fail
      go_ret
      exact ⟨⟨_, rfl, own_base HO.out HB1.out.size⟩, HB1.out.trans (HB.out.mono HB1.out.size)⟩
end Go.Proofs.Ytdibjhlckjjlfaa
namespace Go.Proofs.Ytdibjhlckjjlfaa
open Go Go.RowKit
set_option maxRecDepth 20000

/-! The place of the first rule that has a header: slices.Index in the code, First in the reference; Clear. -/
def eqB15 (r s : RuleM) : Bool := (r.order == s.order) && ((r.cube.1 == s.cube.1 && r.cube.2 == s.cube.2) && ((r.action == s.action) && true))
theorem eqR15 {r s : RuleM} (h : okR8 r) (h' : okR8 s) (w : World) : (Op.equalIn 10000 37 (.agg (ruleV r)) (.agg (ruleV s))).run Try.prog w = .ok (eqB15 r s) w := by
  have hp : ∀ {r : RuleM}, okR8 r → (part 30 (ruleV r) 1).run Try.prog w = .ok (.agg (cv r.cube.1 r.cube.2)) w := fun {r} h => by
    have hs := cv_size _ _ h.1.1 h.2.1
    obtain ⟨c0, c1, c2⟩ := rule_at h
    have hz : ∀ w, (sizeOf 30).run Try.prog w = .ok 26 w := fun w => by kernel_rfl
    have ha : ∀ w, (isAgg 30).run Try.prog w = .ok true w := fun w => by kernel_rfl
    have e : (ruleV r).extract 1 27 = cv r.cube.1 r.cube.2 := by
      apply Array.ext_getElem?
      intro k
      rw [Array.getElem?_extract]
      have hz := ruleV_size h
      split
      · rename_i hk
        rw [hz] at hk
        exact c1 k (by omega)
      · rename_i hk
        rw [hz] at hk
        rw [Array.getElem?_eq_none (by omega)]
    simp [part, ha, hz, Sem.run_bind, e]
  obtain ⟨c0, c1, c2⟩ := rule_at h
  obtain ⟨d0, d1, d2⟩ := rule_at h'
  have a3 : (isAgg 3).run Try.prog w = .ok false w := by kernel_rfl
  rw [run_equalIn_struct w 9999 37 _ _ Try.underlying37 (by kernel_rfl)]
  simp only [Program.fieldsOf, Try.underlying37]
  refine eqFields_step w (by decide) (part_cell w a3 c0) (part_cell w a3 d0) (run_equalIn_int w _ 3 .i64 .i64 _ _ Try.underlying3) ?_
  refine eqFields_step w (by decide) (hp h) (hp h') (eqC_in _ _ _ _ h.1.1 h.2.1 h'.1.1 h'.2.1 w) ?_
  refine eqFields_step w (by decide) (part_cell w a3 c2) (part_cell w a3 d2) (run_equalIn_int w _ 3 .i64 .i64 _ _ Try.underlying3) ?_
  rfl
theorem eqB_same (r : RuleM) : eqB15 r r = true := by unfold eqB15; simp
theorem eqB_cube {r s : RuleM} (h : eqB15 r s = true) : r.cube = s.cube := by
  unfold eqB15 at h
  simp only [Bool.and_eq_true, beq_iff_eq] at h
  exact Prod.ext h.2.1.1 h.2.1.2
theorem FirstA.unlike {l : List RuleM} {H : List Int} {k : Nat} {r : RuleM} (h : FirstA l H k r) {j : Nat} {x : RuleM} (hj : j < k) (hx : l[j]? = some x) : eqB15 r x = false := by
  cases e : eqB15 r x with
  | false => rfl
  | true =>
    have := h.before hj hx
    rw [← eqB_cube e, h.has_] at this
    cases this
set_option maxHeartbeats 8000000 in
theorem index15_any (l : List RuleM) (hl0 : ∀ r ∈ l, okR8 r) (vl : Value) (H : List Int) (p : Nat) (r : RuleM) (hF : FirstA l H p r) (w : World) (hl : RulesAt w vl l) :
    Calls Try.prog 24 #[vl, .agg (ruleV r)] w fun e w' => e = .returned (.int .i64 (p : Int)) ∧ Below w.heap.size w w' := by
  have hr := hl0 r hF.mem
  have hrs := ruleV_size hr
  obtain ⟨o, cap, rfl, hc1, hc2⟩ := GSl.slice hl
  obtain ⟨n, hn0⟩ : ∃ n, n = l.length := ⟨_, rfl⟩
  have hpn : p < n := by rw [hn0]; exact hF.lt
  rw [← hn0] at hl hc1 ⊢
  have HL : Hid (RulesAt w (.slice o n cap) l) := hl
  have HOK : Hid (∀ r ∈ l, okR8 r) := hl0
  have HR : Hid (okR8 r) := hr
  have HF : Hid (FirstA l H p r) := hF
  unfold maxLen at hc2
  clear hl hn0 hl0 hr hF
  go_enter Try.func24, Try.ntmps24
  go_wp2_with fail
  go_loopw [8] (fun i wr => ∃ k : Nat, k ≤ p ∧ i = .int .i64 (k : Int) ∧ wr.heap[w.heap.size]? = some (.cells (ruleV r) 37 (0, 0)) ∧ Below w.heap.size w wr) (fun i _ => n - (intOf i).toNat)
  case atStart => exact ⟨0, Nat.zero_le _, rfl, heap_new _ _ _ rfl, (Below.refl _ _).alloc (Nat.le_refl _) _⟩
  case round =>
    obtain ⟨k, hk, rfl, h1, hb⟩ := hrel
    have R1 : Hid (wr.heap[w.heap.size]? = some (.cells (ruleV r) 37 (0, 0))) := h1
    have HB : Hid (Below w.heap.size w wr) := hb
    clear h1 hb
    have hlt : k < n := by omega
    have hlt' : (k : Int) < (n : Int) := by omega
    obtain ⟨g, off, cur, ty, fr, x, rfl, hg, hc, hxk⟩ := (GSl.below HL.out HB.out).at k hlt
    have hx : okR8 x := HOK.out x (List.mem_of_getElem? hxk)
    obtain ⟨b, hbb⟩ : ∃ b, b = eqB15 r x := ⟨_, rfl⟩
    have e1 : ∀ w, (Op.equalIn 10000 37 (.agg (ruleV r)) (.agg (ruleV x))).run Try.prog w = .ok b w := fun w => by rw [hbb]; exact eqR15 HR.out hx w
    have e2 : ∀ op p q w, (eqGuard op 37 p q (.agg (ruleV r)) (.agg (ruleV x))).run Try.prog w = .ok () w := fun op p q w => egR op p q _ _ w
    have HQ : Hid ((k < p → b = false) ∧ (k = p → b = true)) := ⟨fun h => by rw [hbb]; exact HF.out.unlike h hxk, fun h => by
      rw [hbb]
      subst h
      have := HF.out.at_.symm.trans hxk
      cases this
      exact eqB_same r⟩
    have hsz := ruleV_size hx
    have K1 : Hid (wr.heap[g]? = some (.cells cur ty fr)) := hg
    have H1 : Hid (∀ i, i < 28 → cur[off + k * 28 + i]? = (ruleV x)[i]?) := hc
    clear hg hc hxk hx hbb
    go_wp2_with fail
    have ne1 := Later.ne wr
    refine wp_region_later (by kernel_rfl) (by kernel_rfl) ?_
    refine qlE (E := RuleE) RuleOk rfl _ rfl w.heap.size 0 rfl _ _ _ (ruleV r) hrs (later_block R1.out) (own_cells _ _) ?_
    simp only [Act.put, List.setIfInBounds_toArray, List.set_cons_succ, List.set_cons_zero]
    go_big_quiet_step (fail)
    go_big_quiet_step (fail)
    go_big_quiet_step (fail)
    refine qlE (E := RuleE) RuleOk rfl _ rfl g (off + k * 28) rfl cur ty fr (ruleV x) hsz (later_block K1.out) H1.out ?_
    simp only [Act.put, List.setIfInBounds_toArray, List.set_cons_succ, List.set_cons_zero]
    go_big_quiet_step (fail)
    refine wpQuiet_nil ?_
    rintro w1 ⟨v5, rfl⟩
    have B1 : Hid (Below w.heap.size w v5.world) := HB.out.trans (v5.below.mono HB.out.size)
    have R2 : Hid (v5.world.heap[w.heap.size]? = some (.cells (ruleV r) 37 (0, 0))) := later_block R1.out _ ⟨v5, rfl⟩
    clear e1 e2 ne1
    by_cases hkp : k = p
    · obtain rfl := HQ.out.2 hkp
      go_wp2_with fail
      go_ret
      exact ⟨by first | rfl | (rw [hkp]; rfl), B1.out⟩
    · obtain rfl := HQ.out.1 (by omega)
      have hk2 : k + 1 ≤ p := by omega
      clear HQ hkp
      go_wp2_with fail
      go_roundw
      case rel => exact ⟨k + 1, hk2, by go_num, R2.out, B1.out⟩
      case measure => simp [intOf]; omega
set_option maxHeartbeats 8000000 in
/-- The reference's First: where there is one. -/
theorem rfirst_any (l : List RuleM) (hl0 : ∀ r ∈ l, okR8 r) (vl : Value) (H : List Int) (hH : Byt H) (p : Nat) (b : Bool) (h1 : ∀ j x, j < p → l[j]? = some x → has x.cube.1 x.cube.2 H = false) (h2 : b = true → ∃ r, l[p]? = some r ∧ has r.cube.1 r.cube.2 H = true) (h3 : b = false → p = l.length) (w : World) (hl : RulesAt w vl l) :
    Calls Try.prog 14 #[vl, .agg (hv H)] w fun e w' => e = .returned (.int .i64 (if b then (p : Int) else -1)) ∧ Below w.heap.size w w' := by
  have hHl := hH.1
  have HA : Hid (∀ (V M : List Int) W, Byt V → Byt M → Calls Try.prog 31 #[.agg (cv V M), .agg (hv H)] W fun e w' => e = .returned (.bool (has V M H)) ∧ Below W.heap.size W w') := fun V M W h1 h2 => rhas_any V M H h1 h2 hH W
  obtain ⟨o, cap, rfl, hc1, hc2⟩ := GSl.slice hl
  obtain ⟨n, hn0⟩ : ∃ n, n = l.length := ⟨_, rfl⟩
  have hpb : b = true → p < n := fun h => by
    obtain ⟨r, hr, _⟩ := h2 h
    rw [hn0]; exact (List.getElem?_eq_some_iff.1 hr).1
  rw [← hn0] at hl hc1 h3 ⊢
  have HL : Hid (RulesAt w (.slice o n cap) l) := hl
  have HOK : Hid (∀ r ∈ l, okR8 r) := hl0
  have G1 : Hid (∀ j x, j < p → l[j]? = some x → has x.cube.1 x.cube.2 H = false) := h1
  have G2 : Hid (b = true → ∃ r, l[p]? = some r ∧ has r.cube.1 r.cube.2 H = true) := h2
  have G3 : Hid (b = false → p = n) := h3
  have G4 : Hid (b = true → p < n) := hpb
  unfold maxLen at hc2
  clear hl hn0 hl0 h1 h2 h3 hpb hH
  go_enter Try.func14, Try.ntmps14
  go_wp2_with fail
  go_loopw [5] (fun i wr => ∃ k : Nat, k ≤ p ∧ i = .int .i64 (k : Int) ∧ wr.heap[w.heap.size]? = some (.cells (hv H) 28 (0, 0)) ∧ Below w.heap.size w wr) (fun i _ => n - (intOf i).toNat)
  case atStart => exact ⟨0, Nat.zero_le _, rfl, heap_new _ _ _ rfl, (Below.refl _ _).alloc (Nat.le_refl _) _⟩
  case round =>
    obtain ⟨k, hk, rfl, h1, hb⟩ := hrel
    have R1 : Hid (wr.heap[w.heap.size]? = some (.cells (hv H) 28 (0, 0))) := h1
    have HB : Hid (Below w.heap.size w wr) := hb
    clear h1 hb
    by_cases hlt : k < n
    · have hlt' : (k : Int) < (n : Int) := by omega
      obtain ⟨g, off, cur, ty, fr, r, rfl, hg, hc, hxk⟩ := (GSl.below HL.out HB.out).at k hlt
      have hr : okR8 r := HOK.out r (List.mem_of_getElem? hxk)
      have HR : Hid (okR8 r) := hr
      have K1 : Hid (wr.heap[g]? = some (.cells cur ty fr)) := hg
      have H2 : Hid (∀ j, j < 26 → cur[off + k * 28 + 1 + j]? = (cv r.cube.1 r.cube.2)[j]?) := fun j hj => by
        have h3 := hc (1 + j) (by show 1 + j < 28; omega)
        rw [(rule_at hr).2.1 j hj] at h3
        rw [← h3]
        congr 1
        show off + k * 28 + 1 + j = off + k * 28 + (1 + j)
        omega
      have HX : Hid (l[k]? = some r) := hxk
      clear hg hc hxk hr
      go_wp2_with fail
      have ne1 := Later.ne wr
      refine wp_region_later (by kernel_rfl) (by kernel_rfl) ?_
      go_big_quiet_step (fail)
      go_big_quiet_step (fail)
      go_big_quiet_step (fail)
      go_big_quiet_step (fail)
      refine qlCw rfl _ rfl g (off + k * 28 + 1) rfl cur ty fr r.cube.1 r.cube.2 HR.out.1.1 HR.out.2.1 (later_block K1.out) H2.out ?_
      simp only [Act.put, List.setIfInBounds_toArray, List.set_cons_succ, List.set_cons_zero]
      refine qlH rfl _ rfl w.heap.size rfl H R1.out hHl ?_
      simp only [Act.put, List.setIfInBounds_toArray, List.set_cons_succ, List.set_cons_zero]
      go_big_quiet_want; go_big_quiet_op
      refine ⟨_, fun u => Calls.later_of (HA.out r.cube.1 r.cube.2 u.world HR.out.1 HR.out.2), ?_⟩
      go_big_quiet_on
      refine wpQuiet_nil ?_
      rintro w1 ⟨v5, rfl⟩
      have B1 : Hid (Below w.heap.size w v5.world) := HB.out.trans (v5.below.mono HB.out.size)
      have R2 : Hid (v5.world.heap[w.heap.size]? = some (.cells (hv H) 28 (0, 0))) := later_block R1.out _ ⟨v5, rfl⟩
      clear ne1
      by_cases hkp : k = p
      · have hbt : b = true := by
          cases b with
          | true => rfl
          | false => have := G3.out rfl; omega
        have hhas : has r.cube.1 r.cube.2 H = true := by
          obtain ⟨r', h4, h5⟩ := G2.out hbt
          have := HX.out
          rw [hkp, h4] at this
          cases this
          exact h5
        rw [hhas]
        subst hbt
        clear hhas
        go_wp2_with fail
        go_ret
        exact ⟨by first | rfl | (rw [hkp]; rfl), B1.out⟩
      · have hk2 : k + 1 ≤ p := by omega
        have hhas : has r.cube.1 r.cube.2 H = false := G1.out k r (by omega) HX.out
        rw [hhas]
        clear hhas hkp
        go_wp2_with fail
        go_roundw
        case rel => exact ⟨k + 1, hk2, by go_num, R2.out, B1.out⟩
        case measure => simp [intOf]; omega
    · have hlt' : ¬ (k : Int) < (n : Int) := by omega
      have hbf : b = false := by
        cases b with
        | false => rfl
        | true => have := G4.out rfl; omega
      subst hbf
      go_wp2_with fail
      go_ret
      exact ⟨rfl, HB.out⟩
theorem rfirst_yes (l : List RuleM) (hl0 : ∀ r ∈ l, okR8 r) (vl : Value) (H : List Int) (hH : Byt H) (p : Nat) (r : RuleM) (hF : FirstA l H p r) (w : World) (hl : RulesAt w vl l) :
    Calls Try.prog 14 #[vl, .agg (hv H)] w fun e w' => e = .returned (.int .i64 (p : Int)) ∧ Below w.heap.size w w' :=
  rfirst_any l hl0 vl H hH p true (fun j x hj hx => hF.before hj hx) (fun _ => ⟨r, hF.at_, hF.has_⟩) (fun h => by cases h) w hl
theorem rfirst_no (l : List RuleM) (hl0 : ∀ r ∈ l, okR8 r) (vl : Value) (H : List Int) (hH : Byt H) (hF : ∀ x ∈ l, hasR H x = false) (w : World) (hl : RulesAt w vl l) :
    Calls Try.prog 14 #[vl, .agg (hv H)] w fun e w' => e = .returned (.int .i64 (-1)) ∧ Below w.heap.size w w' :=
  rfirst_any l hl0 vl H hH l.length false (fun j x hj hx => hF x (List.mem_of_getElem? hx)) (fun h => by cases h) (fun _ => rfl) w hl
theorem cubs_take {l : List RuleM} {k : Nat} {r : RuleM} (h : l[k]? = some r) : cubsA (l.take (k + 1)) = cubsA (l.take k) ++ [r.cube] := by
  unfold cubsA
  rw [List.take_add_one, h, List.map_append]; rfl
theorem clear_take {l : List RuleM} {k : Nat} {r : RuleM} {c : List Int × List Int} (h : l[k]? = some r) : clearA (cubsA (l.take (k + 1))) c = (clearA (cubsA (l.take k)) c && !(mtA c r.cube)) := by
  rw [cubs_take h]
  unfold clearA
  rw [List.all_append]
  simp
theorem clear_no {l : List RuleM} {k p : Nat} {r : RuleM} {c : List Int × List Int} (h : l[k]? = some r) (hk : k < p) (hm : mtA c r.cube = true) : clearA (cubsA (l.take p)) c = false := by
  rw [Bool.eq_false_iff]
  intro g
  unfold clearA at g
  rw [List.all_eq_true] at g
  have := g r.cube (List.mem_map.2 ⟨r, List.mem_of_getElem? (i := k) (by rw [List.getElem?_take_of_lt hk]; exact h), rfl⟩)
  rw [hm] at this; cases this
set_option maxHeartbeats 8000000 in
theorem clear_any (l : List RuleM) (hl0 : ∀ r ∈ l, okR8 r) (vl : Value) (V M : List Int) (hV : Byt V) (hM : Byt M) (p : Nat) (hp : p ≤ l.length) (w : World) (hl : RulesAt w vl l) :
    Calls Try.prog 17 #[vl, .int .i64 (p : Int), .agg (cv V M)] w fun e w' => e = .returned (.bool (clearA (cubsA (l.take p)) (V, M))) ∧ Below w.heap.size w w' := by
  have hVl := hV.1
  have hMl := hM.1
  have HA : Hid (∀ (U N : List Int) W, Byt U → Byt N → Calls Try.prog 22 #[.agg (cv V M), .agg (cv U N)] W fun e w' => e = .returned (.bool (meets V M U N)) ∧ Below W.heap.size W w') := fun U N W h1 h2 => rmeet15_any V M U N hV hM h1 h2 W
  obtain ⟨o, cap, rfl, hc1, hc2⟩ := GSl.slice hl
  obtain ⟨n, hn0⟩ : ∃ n, n = l.length := ⟨_, rfl⟩
  rw [← hn0] at hl hc1 hp ⊢
  have HL : Hid (RulesAt w (.slice o n cap) l) := hl
  have HOK : Hid (∀ r ∈ l, okR8 r) := hl0
  unfold maxLen at hc2
  clear hl hn0 hl0 hV hM
  go_enter Try.func17, Try.ntmps17
  go_wp2_with fail
  go_loopw [7] (fun i wr => ∃ k : Nat, k ≤ p ∧ i = .int .i64 (k : Int) ∧ Hid (clearA (cubsA (l.take k)) (V, M) = true) ∧ wr.heap[w.heap.size]? = some (.cells (cv V M) 30 (0, 0)) ∧ Below w.heap.size w wr) (fun i _ => n - (intOf i).toNat)
  case atStart => exact ⟨0, Nat.zero_le _, rfl, rfl, heap_new _ _ _ rfl, (Below.refl _ _).alloc (Nat.le_refl _) _⟩
  case round =>
    obtain ⟨k, hk, rfl, HC, h1, hb⟩ := hrel
    have R1 : Hid (wr.heap[w.heap.size]? = some (.cells (cv V M) 30 (0, 0))) := h1
    have HB : Hid (Below w.heap.size w wr) := hb
    clear h1 hb
    by_cases hlt : k < p
    · have hlt' : (k : Int) < (p : Int) := by omega
      have hkn : (k : Int) < (n : Int) := by omega
      obtain ⟨g, off, cur, ty, fr, r, rfl, hg, hc, hxk⟩ := (GSl.below HL.out HB.out).at k (by omega)
      have hr : okR8 r := HOK.out r (List.mem_of_getElem? hxk)
      have HR : Hid (okR8 r) := hr
      have K1 : Hid (wr.heap[g]? = some (.cells cur ty fr)) := hg
      have H2 : Hid (∀ j, j < 26 → cur[off + k * 28 + 1 + j]? = (cv r.cube.1 r.cube.2)[j]?) := fun j hj => by
        have h3 := hc (1 + j) (by show 1 + j < 28; omega)
        rw [(rule_at hr).2.1 j hj] at h3
        rw [← h3]
        congr 1
        show off + k * 28 + 1 + j = off + k * 28 + (1 + j)
        omega
      have HX : Hid (l[k]? = some r) := hxk
      clear hg hc hxk hr
      go_wp2_with fail
      have ne1 := Later.ne wr
      refine wp_region_later (by kernel_rfl) (by kernel_rfl) ?_
      refine qlC rfl _ rfl w.heap.size rfl V M R1.out hVl hMl ?_
      simp only [Act.put, List.setIfInBounds_toArray, List.set_cons_succ, List.set_cons_zero]
      go_big_quiet_step (fail)
      go_big_quiet_step (fail)
      go_big_quiet_step (fail)
      go_big_quiet_step (fail)
      refine qlCw rfl _ rfl g (off + k * 28 + 1) rfl cur ty fr r.cube.1 r.cube.2 HR.out.1.1 HR.out.2.1 (later_block K1.out) H2.out ?_
      simp only [Act.put, List.setIfInBounds_toArray, List.set_cons_succ, List.set_cons_zero]
      go_big_quiet_want; go_big_quiet_op
      refine ⟨_, fun u => Calls.later_of (HA.out r.cube.1 r.cube.2 u.world HR.out.1 HR.out.2), ?_⟩
      go_big_quiet_on
      refine wpQuiet_nil ?_
      rintro w1 ⟨v5, rfl⟩
      have B1 : Hid (Below w.heap.size w v5.world) := HB.out.trans (v5.below.mono HB.out.size)
      have R2 : Hid (v5.world.heap[w.heap.size]? = some (.cells (cv V M) 30 (0, 0))) := later_block R1.out _ ⟨v5, rfl⟩
      clear ne1
      cases hm : meets V M r.cube.1 r.cube.2 with
      | true =>
        have HE : Hid (clearA (cubsA (l.take p)) (V, M) = false) := clear_no HX.out hlt hm
        clear hm
        go_wp2_with fail
        go_ret
        exact ⟨by rw [HE.out]; rfl, B1.out⟩
      | false =>
        have HC2 : Hid (clearA (cubsA (l.take (k + 1))) (V, M) = true) := by
          show _ = _
          rw [clear_take HX.out, HC.out, Bool.true_and, Bool.not_eq_true']; exact hm
        clear hm
        go_wp2_with fail
        go_roundw
        case rel => exact ⟨k + 1, by omega, by go_num, HC2, R2.out, B1.out⟩
        case measure => simp [intOf]; omega
    · have hlt' : ¬ (k : Int) < (p : Int) := by omega
      obtain rfl : k = p := by omega
      go_wp2_with fail
      go_ret
      exact ⟨by rw [HC.out]; rfl, HB.out⟩
end Go.Proofs.Ytdibjhlckjjlfaa
namespace Go.Proofs.Ytdibjhlckjjlfaa
open Go Go.RowKit
set_option maxRecDepth 20000

/-! About. -/
theorem retC15 {fn : Func} {R : Ending → World → Prop} {a : Act} {w : World} {p u t : Tmp} (hr : fn.results = #[.cell p 30, .tmp u, .tmp t]) (hd : a.defers = []) (g : Nat) (hp : a.tmps.getD p undef = .pointer (some ⟨g, 0, none⟩)) (V M : List Int) (hV : V.length = 13) (hM : M.length = 13)
    (hg : w.heap[g]? = some (.cells (cv V M) 30 (0, 0))) (v z : Value) (hu : a.tmps.getD u undef = v) (ht : a.tmps.getD t undef = z) (h : R (.returned (.tuple #[.agg (cv V M), v, z])) w) : bodyPost Try.prog fn R .ret a w := by
  refine bodyPost_ret (v := .tuple #[.agg (cv V M), v, z]) ?_ hd h
  have hp' : a.tmps[p]?.getD undef = .pointer (some ⟨g, 0, none⟩) := by simpa using hp
  have hu' : a.tmps[u]?.getD undef = v := by simpa using hu
  have ht' : a.tmps[t]?.getD undef = z := by simpa using ht
  simp [results, hr, hp', hu', ht', asAddr, run_loadVar_row w g 30 30 (cv V M) (0, 0) _ hg Try.underlying30 rfl (sizeC V M hV hM)]
/-- Worlds with a header, a rule and a cube in these blocks. -/
structure KeepA (gh gr go : Nat) (H : List Int) (r : RuleM) (U N : List Int) where
  world : World
  k1 : world.heap[gh]? = some (.cells (hv H) 28 (0, 0))
  k2 : world.heap[gr]? = some (.cells (ruleV r) 37 (0, 0))
  k3 : world.heap[go]? = some (.cells (cv U N) 30 (0, 0))
abbrev InK15 (gh gr go : Nat) (H : List Int) (r : RuleM) (U N : List Int) (w : World) : Prop := ∃ z : KeepA gh gr go H r U N, w = z.world
theorem InK15.of {gh gr go : Nat} {H : List Int} {r : RuleM} {U N : List Int} {w : World} (h1 : w.heap[gh]? = some (.cells (hv H) 28 (0, 0))) (h2 : w.heap[gr]? = some (.cells (ruleV r) 37 (0, 0))) (h3 : w.heap[go]? = some (.cells (cv U N) 30 (0, 0))) : InK15 gh gr go H r U N w := ⟨⟨w, h1, h2, h3⟩, rfl⟩
theorem about_no (l : List RuleM) (hl0 : ∀ r ∈ l, okR8 r) (vl : Value) (H : List Int) (hH : Byt H) (hF : ∀ x ∈ l, hasR H x = false) (w : World) (hl : RulesAt w vl l) :
    Calls Try.prog 11 #[vl, .agg (hv H)] w fun e w' => e = .returned (.tuple #[.agg (cv Z Z), .int .i64 0, .bool false]) ∧ Below w.heap.size w w' := by
  have hHl := hH.1
  have HLK : Hid (∀ W, Below w.heap.size w W → Calls Try.prog 15 #[vl, .agg (hv H)] W fun e w' => e = .returned (.tuple #[.agg (ruleV rule0), .bool false]) ∧ Below W.heap.size W w') := fun W hb => by
    have := look_any l hl0 vl H hH W (GSl.below hl hb)
    rwa [look_none15 hF] at this
  have K0 : Hid (((w.alloc (.cells (hv H) 28)).alloc (.cells zeroC 30)).heap[w.heap.size]? = some (.cells (hv H) 28 (0, 0))) := heap_past _ _ _ _ (heap_new _ _ _ rfl)
  have K1 : Hid (((w.alloc (.cells (hv H) 28)).alloc (.cells zeroC 30)).heap[w.heap.size + 1]? = some (.cells zeroC 30 (0, 0))) := heap_new _ _ _ (by simp)
  have B0 : Hid (Below w.heap.size w ((w.alloc (.cells (hv H) 28)).alloc (.cells zeroC 30))) := ((Below.refl _ _).alloc (Nat.le_refl _) _).alloc (by simp) _
  have HZ : Hid (RuleE.zero = ruleV rule0) := zero_rule
  clear hl hl0 hF hH
  go_enter Try.func11, Try.ntmps11
  go_wp2_with (first
    | (refine wl_load26 rfl _ rfl w.heap.size rfl H K0.out hHl ?_))
  refine (HLK.out _ B0.out).mono ?_
  rintro e w1 ⟨rfl, hb1⟩
  have B1 : Hid (Below w.heap.size w (w1.alloc (.cells (ruleV rule0) 37))) := by
    have hb := B0.out.trans (hb1.mono B0.out.size)
    exact hb.alloc hb.size _
  have R1 : Hid ((w1.alloc (.cells (ruleV rule0) 37)).heap[w.heap.size + 1]? = some (.cells zeroC 30 (0, 0))) := heap_past _ _ _ _ ((hb1.block _ (by simp)).trans K1.out)
  clear hb1 K0 K1 B0
  go_wp2_with (first
    | (refine wl_storeE (E := RuleE) RuleOk rfl _ _ rfl w1.heap.size (ruleV rule0) (rule_fits rule0_ok) rfl rfl _ (heap_new _ _ _ rfl) rfl _ (setRow_new _ _ _ _ _ rfl) ?_)
    | (refine wl_storeC rfl _ _ rfl (w.heap.size + 1) Z Z rfl (by rw [← zeroC_eq]; rfl) _ R1.out rfl Z_byt.1 Z_byt.1 _ rfl ?_))
  refine retC15 (p := 4) (u := 5) (t := 6) rfl rfl (w.heap.size + 1) rfl Z Z Z_byt.1 Z_byt.1 (setRow_heap _ _ _ _ _ _ R1.out) _ _ rfl rfl ⟨rfl, ?_⟩
  exact below_setRow B1.out (by omega) _
set_option maxHeartbeats 16000000 in
theorem about_yes (l : List RuleM) (hl0 : ∀ r ∈ l, okR8 r) (hn1 : l.length ≤ 100000) (vl : Value) (H : List Int) (hH : Byt H) (p : Nat) (r : RuleM) (hF : FirstA l H p r) (w : World) (hl : RulesAt w vl l) :
    Calls Try.prog 11 #[vl, .agg (hv H)] w fun e w' => e = .returned (.tuple #[.agg (cv (aboutA (cubsA (l.take p)) r.cube H).1 (aboutA (cubsA (l.take p)) r.cube H).2), .int .i64 r.action, .bool true]) ∧ Below w.heap.size w w' := by
  have hHl := hH.1
  have hr := hl0 r hF.mem
  have hrs := ruleV_size hr
  have HR : Hid (okR8 r) := hr
  have HLK : Hid (∀ W, Below w.heap.size w W → Calls Try.prog 15 #[vl, .agg (hv H)] W fun e w' => e = .returned (.tuple #[.agg (ruleV r), .bool true]) ∧ Below W.heap.size W w') := fun W hb => by
    have := look_any l hl0 vl H hH W (GSl.below hl hb)
    rwa [hF.look] at this
  have HIX : Hid (∀ W, Below w.heap.size w W → Calls Try.prog 24 #[vl, .agg (ruleV r)] W fun e w' => e = .returned (.int .i64 (p : Int)) ∧ Below W.heap.size W w') := fun W hb => index15_any l hl0 vl H p r hF W (GSl.below hl hb)
  have HWY : Hid (∀ W, Below w.heap.size w W → Calls Try.prog 23 #[vl, .int .i64 (p : Int)] W fun e w' => (∃ u, e = .returned u ∧ w'.ownsRow W.heap.size 30 26 u (wayA (cubsA (l.take p)) r.cube).length (ccells (wayA (cubsA (l.take p)) r.cube))) ∧ Below W.heap.size W w') := fun W hb => inWay_any l hl0 hn1 vl p r hF.at_ W (GSl.below hl hb)
  have HCA : Hid (∀ W, Calls Try.prog 25 #[.agg (cv r.cube.1 r.cube.2)] W fun e w' => e = .returned (.agg (cv (can r.cube.1 r.cube.2) r.cube.2)) ∧ Below W.heap.size W w') := fun W => canon_any r.cube.1 r.cube.2 hr.1 hr.2 W
  have HWB : Hid (Byts (wayA (cubsA (l.take p)) r.cube)) := fun c hc => by
    have := (List.mem_filter.1 hc).1
    obtain ⟨x, hx, rfl⟩ := List.mem_map.1 this
    exact hl0 x (List.mem_of_mem_take hx)
  have hWH : ∀ x ∈ wayA (cubsA (l.take p)) r.cube, has x.1 x.2 H = false := fun x hx => hF.ahead x (List.mem_filter.1 hx).1
  have hRc := rightA_of r.cube.1 r.cube.2 hr.2
  have hcH : has (can r.cube.1 r.cube.2) r.cube.2 H = true := inA_has (can_inv r.cube.1 r.cube.2) hF.has_
  have hE := about_way (A := cubsA (l.take p)) hr.2 hF.has_ hF.ahead
  obtain ⟨Y, hY⟩ : ∃ Y, Y = wayA (cubsA (l.take p)) r.cube := ⟨_, rfl⟩
  rw [← hY] at HWY HWB hWH hE
  have HNA : Hid (∀ v W, Sl W v Y → Calls Try.prog 27 #[.agg (cv (can r.cube.1 r.cube.2) r.cube.2), v, .agg (hv H)] W fun e w' => e = .returned (.agg (cv (narsA H (can r.cube.1 r.cube.2, r.cube.2) Y).1 (narsA H (can r.cube.1 r.cube.2, r.cube.2) Y).2)) ∧ Below W.heap.size W w') := fun v W hs => narrow_any (can r.cube.1 r.cube.2, r.cube.2) Y H hH hRc hcH hWH v W hs
  have hRn := (nars_ok Y (can r.cube.1 r.cube.2, r.cube.2) hcH hWH hRc).2.2.2
  have HWI : Hid (∀ v W, Sl W v Y → Calls Try.prog 26 #[.agg (cv (narsA H (can r.cube.1 r.cube.2, r.cube.2) Y).1 (narsA H (can r.cube.1 r.cube.2, r.cube.2) Y).2), .agg (cv (can r.cube.1 r.cube.2) r.cube.2), v] W fun e w' => e = .returned (.agg (cv (widsA Y r.cube.2 104 (narsA H (can r.cube.1 r.cube.2, r.cube.2) Y)).1 (widsA Y r.cube.2 104 (narsA H (can r.cube.1 r.cube.2, r.cube.2) Y)).2)) ∧ Below W.heap.size W w') := fun v W hs => widen_any (narsA H (can r.cube.1 r.cube.2, r.cube.2) Y) (can r.cube.1 r.cube.2, r.cube.2) Y hRn hRc.1 hRc.2.1 v W hs
  have hRA := (about_ok (A := cubsA (l.take p)) hr.2 hF.has_ hF.ahead).2.2.2.1
  rw [hE] at HWI
  obtain ⟨A1, A2, hA⟩ : ∃ A1 A2, aboutA (cubsA (l.take p)) r.cube H = (A1, A2) := ⟨_, _, rfl⟩
  obtain ⟨N1, N2, hN⟩ : ∃ N1 N2, narsA H (can r.cube.1 r.cube.2, r.cube.2) Y = (N1, N2) := ⟨_, _, rfl⟩
  rw [hN] at HNA HWI
  rw [hA] at HWI hRA ⊢
  dsimp only at HNA HWI ⊢
  have hA1 := hRA.1.1
  have hA2 := hRA.2.1.1
  obtain ⟨U, hU⟩ : ∃ U, U = can r.cube.1 r.cube.2 := ⟨_, rfl⟩
  have hUl : U.length = 13 := by rw [hU]; exact (can_byt _ _).1
  have hMl : r.cube.2.length = 13 := hr.2.1
  have hVl : r.cube.1.length = 13 := hr.1.1
  rw [← hU] at HCA HNA HWI
  obtain ⟨nY, hnY⟩ : ∃ nY, nY = Y.length := ⟨_, rfl⟩
  have K0 : Hid (((w.alloc (.cells (hv H) 28)).alloc (.cells zeroC 30)).heap[w.heap.size]? = some (.cells (hv H) 28 (0, 0))) := heap_past _ _ _ _ (heap_new _ _ _ rfl)
  have K1 : Hid (((w.alloc (.cells (hv H) 28)).alloc (.cells zeroC 30)).heap[w.heap.size + 1]? = some (.cells zeroC 30 (0, 0))) := heap_new _ _ _ (by simp)
  have B0 : Hid (Below w.heap.size w ((w.alloc (.cells (hv H) 28)).alloc (.cells zeroC 30))) := ((Below.refl _ _).alloc (Nat.le_refl _) _).alloc (by simp) _
  clear hl hl0 hF hH hr hWH hRc hcH hE hRn hRA hA hN hU hY hnY
  go_enter Try.func11, Try.ntmps11
  go_wp2_with (first
    | (refine wl_load26 rfl _ rfl w.heap.size rfl H K0.out hHl ?_))
  refine (HLK.out _ B0.out).mono ?_
  rintro e w1 ⟨rfl, hb1⟩
  have hbw : Below w.heap.size w w1 := B0.out.trans (hb1.mono B0.out.size)
  have B1 : Hid (Below w.heap.size w (w1.alloc (.cells (ruleV r) 37))) := hbw.alloc hbw.size _
  have R0 : Hid ((w1.alloc (.cells (ruleV r) 37)).heap[w.heap.size]? = some (.cells (hv H) 28 (0, 0))) := heap_past _ _ _ _ ((hb1.block _ (by simp; omega)).trans K0.out)
  have R1 : Hid ((w1.alloc (.cells (ruleV r) 37)).heap[w.heap.size + 1]? = some (.cells zeroC 30 (0, 0))) := heap_past _ _ _ _ ((hb1.block _ (by simp)).trans K1.out)
  obtain ⟨gr, hgr⟩ : ∃ gr, gr = w1.heap.size := ⟨_, rfl⟩
  have R2 : Hid ((w1.alloc (.cells (ruleV r) 37)).heap[gr]? = some (.cells (ruleV r) 37 (0, 0))) := heap_new _ _ _ hgr
  have hgr2 : w.heap.size + 2 ≤ gr := by
    rw [hgr]
    have := hb1.size
    simp at this
    omega
  have E2 : Hid (w1.alloc (.cells (ruleV r) 37) = w1.alloc (.cells (ruleV r) 37)) := rfl
  clear hb1 K0 K1 B0 hbw
  go_wp2_with (first
    | (refine wl_storeE (E := RuleE) RuleOk rfl _ _ rfl w1.heap.size (ruleV r) (rule_fits HR.out) rfl rfl _ (heap_new _ _ _ rfl) rfl _ (setRow_new _ _ _ _ _ rfl) ?_)
    | (refine wl_loadE (E := RuleE) RuleOk rfl _ rfl w1.heap.size 0 rfl _ _ _ (ruleV r) hrs (heap_new _ _ _ rfl) (own_cells _ _) ?_))
  refine (HIX.out _ B1.out).mono ?_
  rintro e w2 ⟨rfl, hb2⟩
  rw [← hgr]
  have B2 : Hid (Below w.heap.size w w2) := B1.out.trans (hb2.mono B1.out.size)
  have S0 : Hid (w2.heap[w.heap.size]? = some (.cells (hv H) 28 (0, 0))) := (hb2.block _ (Array.getElem?_eq_some_iff.1 R0.out).1).trans R0.out
  have S1 : Hid (w2.heap[w.heap.size + 1]? = some (.cells zeroC 30 (0, 0))) := (hb2.block _ (Array.getElem?_eq_some_iff.1 R1.out).1).trans R1.out
  have S2 : Hid (w2.heap[gr]? = some (.cells (ruleV r) 37 (0, 0))) := (hb2.block _ (Array.getElem?_eq_some_iff.1 R2.out).1).trans R2.out
  clear hb2 R0 R1 R2 B1 E2 hgr
  go_wp2_with fail
  refine (HWY.out _ B2.out).mono ?_
  rintro e w3 ⟨⟨u, rfl, hu⟩, hb3⟩
  have B3 : Hid (Below w.heap.size w w3) := B2.out.trans (hb3.mono B2.out.size)
  have T0 : Hid (w3.heap[w.heap.size]? = some (.cells (hv H) 28 (0, 0))) := (hb3.block _ (Array.getElem?_eq_some_iff.1 S0.out).1).trans S0.out
  have T1 : Hid (w3.heap[w.heap.size + 1]? = some (.cells zeroC 30 (0, 0))) := (hb3.block _ (Array.getElem?_eq_some_iff.1 S1.out).1).trans S1.out
  have T2 : Hid (w3.heap[gr]? = some (.cells (ruleV r) 37 (0, 0))) := (hb3.block _ (Array.getElem?_eq_some_iff.1 S2.out).1).trans S2.out
  have T3 : Hid (Sl w3 u Y) := sl_of hu HWB.out
  clear hb3 S0 S1 S2 B2 hu
  go_wp2_with (first
    | (refine wl_loadCw rfl _ rfl gr 1 rfl _ _ _ r.cube.1 r.cube.2 hVl hMl T2.out (rule_at HR.out).2.1 ?_))
  refine (HCA.out _).mono ?_
  rintro e w4 ⟨rfl, hb4⟩
  have hbw : Below w.heap.size w w4 := B3.out.trans (hb4.mono B3.out.size)
  have B5 : Hid (Below w.heap.size w (w4.alloc (.cells (cv U r.cube.2) 30))) := hbw.alloc hbw.size _
  have V0 : Hid ((w4.alloc (.cells (cv U r.cube.2) 30)).heap[w.heap.size]? = some (.cells (hv H) 28 (0, 0))) := heap_past _ _ _ _ ((hb4.block _ (Array.getElem?_eq_some_iff.1 T0.out).1).trans T0.out)
  have V1 : Hid ((w4.alloc (.cells (cv U r.cube.2) 30)).heap[w.heap.size + 1]? = some (.cells zeroC 30 (0, 0))) := heap_past _ _ _ _ ((hb4.block _ (Array.getElem?_eq_some_iff.1 T1.out).1).trans T1.out)
  have V2 : Hid ((w4.alloc (.cells (cv U r.cube.2) 30)).heap[gr]? = some (.cells (ruleV r) 37 (0, 0))) := heap_past _ _ _ _ ((hb4.block _ (Array.getElem?_eq_some_iff.1 T2.out).1).trans T2.out)
  have V3 : Hid ((w4.alloc (.cells (cv U r.cube.2) 30)).heap[w4.heap.size]? = some (.cells (cv U r.cube.2) 30 (0, 0))) := heap_new _ _ _ rfl
  have V4 : Hid (Sl (w4.alloc (.cells (cv U r.cube.2) 30)) u Y) := (T3.out.below hb4).below ((Below.refl _ _).alloc (Nat.le_refl _) _)
  have hz4 : w.heap.size + 1 < w4.heap.size := Nat.lt_of_lt_of_le (Array.getElem?_eq_some_iff.1 T1.out).1 hb4.size
  clear hb4 T0 T1 T2 T3 B3 hbw
  go_wp2_with (first
    | (refine wl_storeC rfl _ _ rfl w4.heap.size U r.cube.2 rfl rfl _ (heap_new _ _ _ rfl) rfl hUl hMl _ (setRow_new _ _ _ _ _ rfl) ?_))
  obtain ⟨w5, hw5⟩ : ∃ w5, w5 = w4.alloc (.cells (cv U r.cube.2) 30) := ⟨_, rfl⟩
  obtain ⟨g4, hg4⟩ : ∃ g4, g4 = w4.heap.size := ⟨_, rfl⟩
  obtain ⟨g1, hg1⟩ : ∃ g1, g1 = w.heap.size + 1 := ⟨_, rfl⟩
  have hne : g1 ≠ w.heap.size ∧ g1 ≠ gr := by omega
  have hne4 : g1 ≠ g4 := by omega
  have hg1w : w.heap.size ≤ g1 := by omega
  simp only [Act.put]
  rw [← hw5] at B5 V0 V1 V2 V3 V4 ⊢
  rw [← hg4] at V3 ⊢
  rw [← hg1] at V1
  rw [← hg1]
  clear hw5 hg4 hg1 hz4 hgr2
  refine region_cut (fun a a' w' => ∃ y28 y29 y30 y31 y32 y33 y34 y35 y36, a' = (((((((((((a.put (some 28) y28).put (some 29) y29).put (some 30) y30).put (some 32) y32).put (some 33) y33).put (some 35) y35).put (some 36) y36).put (some 31) y31).put (some 34) y34).put (some 5) (.int .i64 r.action)).put (some 6) (.bool true)) ∧ w'.heap[g1]? = some (.cells (cv A1 A2) 30 (0, 0)) ∧ Below w.heap.size w w') ?_ ?_
  · have ne9 : Nonempty (KeepA w.heap.size gr g4 H r U r.cube.2) := ⟨⟨w5, V0.out, V2.out, V3.out⟩⟩
    have e27 : ∀ z : KeepA w.heap.size gr g4 H r U r.cube.2, z.world.cell? ⟨gr, 27, none⟩ = some (.int .i64 r.action) := fun z => (cell_of_row _ _ _ _ _ _ z.k2).trans (rule_at HR.out).2.2
    have hS0 : InK15 w.heap.size gr g4 H r U r.cube.2 (World.drew w5) := InK15.of V0.out V2.out V3.out
    refine region_beginS (InK15 w.heap.size gr g4 H r U r.cube.2) 12 rfl (by kernel_rfl) ?_
    refine region_reads 0 3 9 rfl (by kernel_rfl) (by kernel_rfl) (by kernel_rfl) (by intro d v c a w h; exact absurd h.1 (by simp)) hS0 ?_
    simp only [List.drop_zero, List.take_succ_cons, List.take_zero]
    refine qlCw rfl _ rfl g4 0 rfl _ _ _ U r.cube.2 hUl hMl (fun w' h => by obtain ⟨z, rfl⟩ := h; exact z.k3) (own_cells _ _) ?_
    simp only [Act.put, List.setIfInBounds_toArray, List.set_cons_succ, List.set_cons_zero]
    go_big_quiet_step (fail)
    refine q_load_row rfl 28 _ rfl w.heap.size rfl 28 (hv H) (0, 0) _ (fun w' h => by obtain ⟨z, rfl⟩ := h; exact z.k1) Try.underlying28 rfl (size26 H hHl) ?_
    simp only [Act.put, List.setIfInBounds_toArray, List.set_cons_succ, List.set_cons_zero]
    refine wpQuiet_nil ?_
    refine region_reads 4 2 7 rfl (by kernel_rfl) (by kernel_rfl) (by kernel_rfl) (by intro d v c a w h; exact absurd h.1 (by simp)) hS0 ?_
    simp only [List.drop_succ_cons, List.drop_zero, List.take_succ_cons, List.take_zero]
    refine qlCw rfl _ rfl g4 0 rfl _ _ _ U r.cube.2 hUl hMl (fun w' h => by obtain ⟨z, rfl⟩ := h; exact z.k3) (own_cells _ _) ?_
    simp only [Act.put, List.setIfInBounds_toArray, List.set_cons_succ, List.set_cons_zero]
    go_big_quiet_step (fail)
    refine wpQuiet_nil ?_
    refine region_reads 7 2 5 rfl (by kernel_rfl) (by kernel_rfl) (by kernel_rfl) (by intro d v c a w h; exact absurd h.1 (by simp)) hS0 ?_
    simp only [List.drop_succ_cons, List.drop_zero, List.take_succ_cons, List.take_zero]
    go_big_quiet_step (fail)
    go_big_quiet_step (fail)
    refine wpQuiet_nil ?_
    have hd0 : Below w5.heap.size w5 (World.drew w5) := (Below.refl _ _).drew
    refine wpAnyH_all (rs := [3]) (by kernel_rfl) (by decide) ?_
    intro i hi
    obtain rfl := List.mem_singleton.1 hi
    refine wpOp_call rfl rfl 27 #[.tmp 28, .tmp 29, .tmp 30] (by intro b w; have hf := Try.func27; simp [go_sem]) #[.agg (cv U r.cube.2), u, .agg (hv H)] rfl (fun v w' => v = .agg (cv N1 N2) ∧ Below (World.drew w5).heap.size (World.drew w5) w') ((HNA.out _ _ (V4.out.below hd0)).mono fun e w' h => ⟨_, h.1, rfl, h.2⟩) (some 31) rfl ?_
    rintro v x1 ⟨rfl, k1⟩
    have h1 : Below w5.heap.size w5 x1 := hd0.trans (k1.mono hd0.size)
    have a0 := (h1.block _ (Array.getElem?_eq_some_iff.1 V0.out).1).trans V0.out
    have a2 := (h1.block _ (Array.getElem?_eq_some_iff.1 V2.out).1).trans V2.out
    have a3 := (h1.block _ (Array.getElem?_eq_some_iff.1 V3.out).1).trans V3.out
    refine ⟨InK15.of a0 a2 a3, ?_⟩
    simp only [Act.put, List.setIfInBounds_toArray, List.set_cons_succ, List.set_cons_zero]
    refine wpAnyH_all (rs := [6]) (by kernel_rfl) (by decide) ?_
    intro i hi
    obtain rfl := List.mem_singleton.1 hi
    refine wpOp_call rfl rfl 26 #[.tmp 31, .tmp 32, .tmp 33] (by intro b w; have hf := Try.func26; simp [go_sem]) #[.agg (cv N1 N2), .agg (cv U r.cube.2), u] rfl (fun v w' => v = .agg (cv A1 A2) ∧ Below x1.heap.size x1 w') ((HWI.out _ _ (V4.out.below h1)).mono fun e w' h => ⟨_, h.1, rfl, h.2⟩) (some 34) rfl ?_
    rintro v x2 ⟨rfl, k2⟩
    have h2 : Below w5.heap.size w5 x2 := h1.trans (k2.mono h1.size)
    have b0 := (h2.block _ (Array.getElem?_eq_some_iff.1 V0.out).1).trans V0.out
    have b1 := (h2.block _ (Array.getElem?_eq_some_iff.1 V1.out).1).trans V1.out
    have b2 := (h2.block _ (Array.getElem?_eq_some_iff.1 V2.out).1).trans V2.out
    have b3 := (h2.block _ (Array.getElem?_eq_some_iff.1 V3.out).1).trans V3.out
    refine ⟨InK15.of b0 b2 b3, ?_⟩
    simp only [Act.put, List.setIfInBounds_toArray, List.set_cons_succ, List.set_cons_zero]
    refine wpAnyH_all (rs := [9]) (by kernel_rfl) (by decide) ?_
    intro i hi
    obtain rfl := List.mem_singleton.1 hi
    refine wpOp_storeC rfl rfl _ _ rfl g1 A1 A2 rfl rfl _ b1 rfl hA1 hA2 none rfl ?_
    have c0 := (setRow_other x2 g1 w.heap.size (cv A1 A2) (Ne.symm hne.1)).trans b0
    have c1 : (x2.setRow g1 (cv A1 A2)).heap[g1]? = some (.cells (cv A1 A2) 30 (0, 0)) := setRow_heap _ _ _ _ _ _ b1
    have c2 := (setRow_other x2 g1 gr (cv A1 A2) (Ne.symm hne.2)).trans b2
    have c3 := (setRow_other x2 g1 g4 (cv A1 A2) (Ne.symm hne4)).trans b3
    refine ⟨InK15.of c0 c2 c3, ?_⟩
    refine wpAnyH_all (rs := [10]) (by kernel_rfl) (by decide) ?_
    intro i hi
    obtain rfl := List.mem_singleton.1 hi
    refine wpOp_assign rfl rfl _ rfl _ rfl (some 5) rfl ?_
    refine ⟨InK15.of c0 c2 c3, ?_⟩
    refine wpAnyH_all (rs := [11]) (by kernel_rfl) (by decide) ?_
    intro i hi
    obtain rfl := List.mem_singleton.1 hi
    refine wpOp_assign rfl rfl _ rfl _ rfl (some 6) rfl ?_
    refine ⟨InK15.of c0 c2 c3, ?_⟩
    refine wpAnyH_done (by kernel_rfl) ?_ _
    exact ⟨rfl, _, _, _, _, _, _, _, _, _, rfl, c1, below_setRow (B5.out.trans (h2.mono B5.out.size)) hg1w _⟩
  · rintro a' w' ⟨y28, y29, y30, y31, y32, y33, y34, y35, y36, rfl, hq, hbq⟩
    simp only [Act.put, List.setIfInBounds_toArray, List.set_cons_succ, List.set_cons_zero]
    go_wp2_with fail
    exact retC15 (p := 4) (u := 5) (t := 6) rfl rfl g1 rfl A1 A2 hA1 hA2 hq _ _ rfl rfl ⟨rfl, hbq⟩
end Go.Proofs.Ytdibjhlckjjlfaa
