import Derived.Test.YthddlchkbnmcaaaGreatDoorJ16
import Derived.Test.YthddlchkbnmcaaaGreatDoorJ19
import Derived.Test.YthddlchkbnmcaaaGreatDoorJ5
import Derived.WalkMore
import Derived.Test.YthddlchkbnmcaaaGreatDoorJ7
namespace Go.Proofs.YthddlchkbnmcaaaGreatDoor
open Go Go.RowKit
set_option maxRecDepth 20000

def withinR (r a : RuleM) : Bool := within r.cube.1 r.cube.2 a.cube.1 a.cube.2
/-- Rules that lie within one that was kept are left out. -/
def trimO {α : Type} (q : α → α → Bool) : List α → List α → List α
  | out, [] => out
  | out, x :: l => if out.any (q x) then trimO q out l else trimO q (out ++ [x]) l
def trimT (l : List RuleM) : List RuleM := trimO withinR [] l
theorem trimO_take {α : Type} (q : α → α → Bool) (l : List α) (k : Nat) (x : α) (h : l[k]? = some x) : ∀ out, trimO q out (l.take (k + 1)) = if (trimO q out (l.take k)).any (q x) then trimO q out (l.take k) else trimO q out (l.take k) ++ [x] := by
  obtain ⟨hk, rfl⟩ := List.getElem?_eq_some_iff.1 h
  rw [List.take_succ_eq_append_getElem hk]
  generalize l.take k = t
  generalize l[k] = x
  induction t with
  | nil => intro out; simp [trimO]
  | cons y t ih =>
    intro out
    rw [List.cons_append, trimO, trimO]
    split
    · exact ih out
    · exact ih _
theorem trimO_sub {α : Type} (q : α → α → Bool) : ∀ (l out : List α) (x : α), x ∈ trimO q out l → x ∈ out ∨ x ∈ l
  | [], out, x, h => .inl h
  | y :: l, out, x, h => by
    rw [trimO] at h
    split at h
    · rcases trimO_sub q l out x h with h | h
      · exact .inl h
      · exact .inr (by simp [h])
    · rcases trimO_sub q l (out ++ [y]) x h with h | h
      · rcases List.mem_append.1 h with h | h
        · exact .inl h
        · exact .inr (by simp at h; simp [h])
      · exact .inr (by simp [h])
theorem trimO_len {α : Type} (q : α → α → Bool) : ∀ (l out : List α), (trimO q out l).length ≤ out.length + l.length
  | [], out => by simp [trimO]
  | y :: l, out => by
    rw [trimO]
    split
    · have := trimO_len q l out; simp; omega
    · have := trimO_len q l (out ++ [y]); simp at this ⊢; omega
theorem any_take_no {α : Type} {p : α → Bool} {l : List α} {k : Nat} {x : α} (h : (l.take k).any p = false) (hx : l[k]? = some x) (hp : p x = false) : (l.take (k + 1)).any p = false := by
  rw [List.take_add_one, hx, List.any_append, h]
  simp [hp]
theorem any_take_yes {α : Type} {p : α → Bool} {l : List α} {k : Nat} {x : α} (hx : l[k]? = some x) (hp : p x = true) : l.any p = true := List.any_eq_true.2 ⟨x, List.mem_of_getElem? hx, hp⟩

set_option maxHeartbeats 8000000 in
set_option maxRecDepth 100000 in
theorem trim_any (l : List RuleM) (hl0 : ∀ r ∈ l, okR8 r) (hn1 : l.length ≤ 100000) (vl : Value) (w : World) (hl : RulesAt w vl l) :
    Calls Tryz.prog 20 #[vl] w fun e w' => (∃ v, e = .returned v ∧ w'.ownsRow w.heap.size 39 28 v (trimT l).length (gcells ruleV (trimT l))) ∧ Below w.heap.size w w' := by
  have WI : Hid (∀ (V M V' M' : List Int) W, Byt V → Byt M → Byt V' → Byt M' → Calls Tryz.prog 39 #[.agg (cv V M), .agg (cv V' M')] W fun e w' => e = .returned (.bool (within V M V' M')) ∧ Below W.heap.size W w') := fun V M V' M' W h1 h2 h3 h4 => within_any V M V' M' h1 h2 h3 h4 W
  obtain ⟨o, cap, rfl, hc1, hc2⟩ := GSl.slice hl
  obtain ⟨n, hn0⟩ : ∃ n, n = l.length := ⟨_, rfl⟩
  have HN : Hid (n = l.length) := hn0
  rw [← hn0] at hl hc1 hn1 ⊢
  have HL : Hid (RulesAt w (.slice o n cap) l) := hl
  have HOK : Hid (∀ r ∈ l, okR8 r) := hl0
  unfold maxLen at hc2
  clear hl hn0 hl0
  go_enter Tryz.func20, Tryz.ntmps20
  go_wp2_with fail
  go_step3
  go_wp2_with fail
  go_step3
  go_wp2_with fail
  go_loopw [3, 10] (fun v i wr => ∃ (k : Nat) (T : List RuleM), k ≤ n ∧ i = .int .i64 (k : Int) ∧ Hid (T = trimO withinR [] (l.take k)) ∧ T.length ≤ k ∧ Hid (∀ r ∈ T, okR8 r) ∧ wr.ownsRow w.heap.size 39 28 v T.length (gcells ruleV T) ∧ Below w.heap.size w wr) (fun _ i _ => n - (intOf i).toNat)
  case atStart => exact ⟨0, [], Nat.zero_le _, rfl, rfl, Nat.le_refl _, fun r hr => by simp at hr, World.ownsRow_nil _ _ _ _, Below.refl _ _⟩
  case round =>
    obtain ⟨k, T, hk, rfl, HT, hTk, HTO, hown, hb⟩ := hrel
    have HO : Hid (wr.ownsRow w.heap.size 39 28 u3 T.length (gcells ruleV T)) := hown
    have HB : Hid (Below w.heap.size w wr) := hb
    obtain ⟨oT, cT, rfl⟩ := gown_slice hown
    clear hown hb
    by_cases hlt : k < n
    · have hlt' : (k : Int) < (n : Int) := by omega
      obtain ⟨g, off, cur, ty, fr, r, rfl, hg, hc, hxk⟩ := (GSl.below HL.out HB.out).at k hlt
      have hr : okR8 r := HOK.out r (List.mem_of_getElem? hxk)
      have HR : Hid (okR8 r) := hr
      have hsz := ruleV_size hr
      have K1 : Hid (wr.heap[g]? = some (.cells cur ty fr)) := hg
      have H1 : Hid (∀ j, j < 28 → cur[off + k * 28 + j]? = (ruleV r)[j]?) := hc
      have KN : Hid ((wr.alloc (.cells (ruleV r) 39)).heap[wr.heap.size]? = some (.cells (ruleV r) 39 (0, 0))) := heap_new _ _ _ rfl
      have BN : Hid (Below w.heap.size w (wr.alloc (.cells (ruleV r) 39))) := HB.out.alloc HB.out.size _
      have ON : Hid ((wr.alloc (.cells (ruleV r) 39)).ownsRow w.heap.size 39 28 (.slice oT T.length cT) T.length (gcells ruleV T)) := HO.out.alloc _
      have HNX : Hid (trimO withinR [] (l.take (k + 1)) = if T.any (withinR r) then T else T ++ [r]) := by
        show _ = _
        rw [HT.out]
        exact trimO_take withinR l k r hxk []
      clear hg hc hxk hr
      obtain ⟨nT, hnT⟩ : ∃ nT, nT = T.length := ⟨_, rfl⟩
      have HNT : Hid (nT = T.length) := hnT
      rw [← hnT] at hTk HO ON ⊢
      have hN : wr.heap.size < (wr.alloc (.cells (ruleV r) 39)).heap.size := by simp
      clear hnT
      go_wp2_with (first
        | (refine wl_loadE (E := RuleE) RuleOk rfl _ rfl g (off + k * 28) rfl cur ty fr (ruleV r) hsz K1.out H1.out ?_)
        | (refine wl_storeE (E := RuleE) RuleOk rfl _ _ rfl wr.heap.size (ruleV r) (rule_fits HR.out) rfl rfl _ (heap_new _ _ _ rfl) rfl _ (setRow_new _ _ _ _ _ rfl) ?_))
      obtain ⟨wo, hwo⟩ : ∃ wo : World, wo = wr.alloc (.cells (ruleV r) 39) := ⟨_, rfl⟩
      obtain ⟨gx, hgx⟩ : ∃ gx, gx = wr.heap.size := ⟨_, rfl⟩
      rw [← hwo, ← hgx] at KN
      rw [← hwo] at BN ON ⊢
      rw [← hgx]
      clear hwo hgx HO HB hN K1
      go_loopw [16] (fun i w2 => ∃ j : Nat, j ≤ nT ∧ i = .int .i64 (j : Int) ∧ Hid ((T.take j).any (withinR r) = false) ∧ w2.heap[gx]? = some (.cells (ruleV r) 39 (0, 0)) ∧ w2.ownsRow w.heap.size 39 28 (.slice oT nT cT) nT (gcells ruleV T) ∧ Below w.heap.size w w2) (fun i _ => nT - (intOf i).toNat)
      case atStart => exact ⟨0, Nat.zero_le _, rfl, rfl, KN.out, ON.out, BN.out⟩
      case round =>
        clear KN ON BN
        obtain ⟨j, hj, rfl, HJ, hkn, hon, hbn⟩ := hrel
        have KX : Hid (wr.heap[gx]? = some (.cells (ruleV r) 39 (0, 0))) := hkn
        have OX : Hid (wr.ownsRow w.heap.size 39 28 (.slice oT nT cT) nT (gcells ruleV T)) := hon
        have BX : Hid (Below w.heap.size w wr) := hbn
        clear hkn hon hbn
        by_cases hjt : j < nT
        · have hjt' : (j : Int) < (nT : Int) := by omega
          have hsl : RulesAt wr (.slice oT nT cT) T := by
            have := OX.out
            rw [HNT.out] at this ⊢
            exact gsl_of (E := RuleE) this fun c hc => ruleV_size (HTO.out c hc)
          obtain ⟨g2, off2, cur2, ty2, fr2, a, rfl, hg2, hc2', haj⟩ := hsl.at j hjt
          have ha : okR8 a := HTO.out a (List.mem_of_getElem? haj)
          have HAO : Hid (okR8 a) := ha
          have hsa := ruleV_size ha
          have K2 : Hid (wr.heap[g2]? = some (.cells cur2 ty2 fr2)) := hg2
          have H2 : Hid (∀ q, q < 28 → cur2[off2 + j * 28 + q]? = (ruleV a)[q]?) := hc2'
          have HAJ : Hid (T[j]? = some a) := haj
          have KA : Hid ((wr.alloc (.cells (ruleV a) 39)).heap[wr.heap.size]? = some (.cells (ruleV a) 39 (0, 0))) := heap_new _ _ _ rfl
          have KY : Hid ((wr.alloc (.cells (ruleV a) 39)).heap[gx]? = some (.cells (ruleV r) 39 (0, 0))) := heap_past _ _ _ _ KX.out
          have BY : Hid (Below w.heap.size w (wr.alloc (.cells (ruleV a) 39))) := BX.out.alloc BX.out.size _
          have OY : Hid ((wr.alloc (.cells (ruleV a) 39)).ownsRow w.heap.size 39 28 (.slice (some ⟨g2, off2, none⟩) nT cT) nT (gcells ruleV T)) := OX.out.alloc _
          clear hsl hg2 hc2' haj ha
          go_wp2_with (first
            | (refine wl_loadE (E := RuleE) RuleOk rfl _ rfl g2 (off2 + j * 28) rfl cur2 ty2 fr2 (ruleV a) hsa K2.out H2.out ?_)
            | (refine wl_storeE (E := RuleE) RuleOk rfl _ _ rfl wr.heap.size (ruleV a) (rule_fits HAO.out) rfl rfl _ (heap_new _ _ _ rfl) rfl _ (setRow_new _ _ _ _ _ rfl) ?_)
            | (refine wl_loadE (E := CubE) CubOk rfl _ rfl wr.heap.size 1 rfl _ _ _ (cv a.cube.1 a.cube.2) (cv_size _ _ HAO.out.1.1 HAO.out.2.1) KA.out (rule_at HAO.out).2.1 ?_)
            | (refine wl_loadE (E := CubE) CubOk rfl _ rfl gx 1 rfl _ _ _ (cv r.cube.1 r.cube.2) (cv_size _ _ HR.out.1.1 HR.out.2.1) KY.out (rule_at HR.out).2.1 ?_))
          refine (WI.out _ _ _ _ _ HR.out.1 HR.out.2 HAO.out.1 HAO.out.2).mono ?_
          rintro e w1 ⟨rfl, hb1⟩
          have BZ : Hid (Below w.heap.size w w1) := BY.out.trans (hb1.mono BY.out.size)
          have KZ : Hid (w1.heap[gx]? = some (.cells (ruleV r) 39 (0, 0))) := (hb1.block _ (Array.getElem?_eq_some_iff.1 KY.out).1).trans KY.out
          have OZ : Hid (w1.ownsRow w.heap.size 39 28 (.slice (some ⟨g2, off2, none⟩) nT cT) nT (gcells ruleV T)) := gown_below OY.out hb1
          clear hb1
          cases hwi : within r.cube.1 r.cube.2 a.cube.1 a.cube.2 with
          | true =>
            have HE : Hid (T = trimO withinR [] (l.take (k + 1))) := by
              show _ = _
              rw [HNX.out, if_pos (any_take_yes HAJ.out hwi)]
            clear hwi
            go_wp2_with fail
            go_roundw
            case rel => exact ⟨k + 1, T, by omega, by go_num, HE.out, by have := HNT.out; omega, HTO, by have := OZ.out; rw [HNT.out] at this ⊢; exact this, BZ.out⟩
            case measure => simp [intOf]; omega
          | false =>
            have HJ2 : Hid ((T.take (j + 1)).any (withinR r) = false) := any_take_no HJ.out HAJ.out hwi
            clear hwi
            go_wp2_with fail
            go_roundw
            case rel => exact ⟨j + 1, by omega, by go_num, HJ2, KZ.out, OZ.out, BZ.out⟩
            case measure => simp [intOf]; omega
        · have hjt' : ¬ (j : Int) < (nT : Int) := by omega
          have HE : Hid (T ++ [r] = trimO withinR [] (l.take (k + 1))) := by
            have h1 := HNT.out
            have h2 := HJ.out
            rw [List.take_of_length_le (by omega)] at h2
            show _ = _
            rw [HNX.out, h2]
            rfl
          have ON2 : Hid ((wr.alloc (.cells (ruleV r) 39)).ownsRow w.heap.size 39 28 (.slice oT nT cT) T.length (gcells ruleV T)) := by
            have := OX.out.alloc (.cells (ruleV r) 39)
            rw [HNT.out] at this ⊢; exact this
          go_wp2_with (first
            | (refine wl_loadE (E := RuleE) RuleOk rfl _ rfl gx 0 rfl _ _ _ (ruleV r) hsz KX.out (own_cells _ _) ?_)
            | (refine wl_buildE (E := RuleE) RuleOk rfl _ rfl (ruleV r) hsz rfl ?_)
            | (at_builtin; refine of_stopT ?_))
          unfold StopT
          refine wl_appendE (E := RuleE) RuleOk ruleV rfl _ _ rfl w.heap.size (.slice oT nT cT) T r (rule_fits HR.out) rfl ON2.out wr.heap.size 1 rfl (heap_new _ _ _ rfl) (by have := HNT.out; omega) (by have := BX.out.size; simp; omega) ?_
          intro v' w3 hown3 hgr3 _
          have B3 : Hid (Below w.heap.size w w3) := (BX.out.alloc BX.out.size _).trans ((Below.refl _ _).grown hgr3 (BX.out.alloc BX.out.size _).size fun k hk => (ON2.out.lt k hk).1)
          have O3 : Hid (w3.ownsRow w.heap.size 39 28 v' (T ++ [r]).length (gcells ruleV (T ++ [r]))) := hown3
          clear hown3 hgr3
          simp only [Act.put, List.setIfInBounds_toArray, List.set_cons_succ, List.set_cons_zero]
          go_wp2_with fail
          go_roundw
          case rel => exact ⟨k + 1, T ++ [r], by omega, by go_num, HE.out, by have := HNT.out; simp; omega, fun q hq => by
              rcases List.mem_append.1 hq with hq | hq
              · exact HTO.out q hq
              · obtain rfl : q = r := by simpa using hq
                exact HR.out, O3.out, B3.out⟩
          case measure => simp [intOf]; omega
    · have hlt' : ¬ (k : Int) < (n : Int) := by omega
      have HE : Hid (T = trimT l) := by
        have e := HN.out
        show _ = _
        rw [HT.out, List.take_of_length_le (by omega)]
        rfl
      go_wp2_with fail
      go_ret
      exact ⟨⟨_, rfl, by rw [← HE.out]; exact HO.out⟩, HB.out⟩
end Go.Proofs.YthddlchkbnmcaaaGreatDoor
namespace Go.Proofs.YthddlchkbnmcaaaGreatDoor
open Go Go.RowKit
set_option maxRecDepth 20000

theorem wl_build0R {ops : Array Oper} {rest : List Oper} {o : Oper} {a : Act} {w : World} {Q : Exit → Act → World → Prop} {E : El} (H : E.Ok) (hg : o.guard = none) (ho : o.op = .buildSlice E.slice 0 #[])
    (h : wpList Tryz.prog ops Q rest (a.put o.dst (.slice (some ⟨w.heap.size, 0, none⟩) 0 0)) (w.alloc (.cells #[] E.elem))) : wpList Tryz.prog ops Q (o :: rest) a w := by
  obtain ⟨ie, hie, hz, hs, _⟩ := H.info
  refine wpList_plain hg fun _ hK => ?_
  unfold Oper.wp execOp
  have hrun : (Instr.buildSlice E.slice 0 #[]).run Tryz.prog w = .ok (.slice (some ⟨w.heap.size, 0, none⟩) 0 0) (w.alloc (.cells #[] E.elem)) := by
    have h0 : Array.range 0 = #[] := Array.eq_empty_of_size_eq_zero (by simp)
    simp [Instr.buildSlice, run_underlying H.hs, sizeOf, typeInfo, hie, Instr.fill, newRow, h0]
  simp only [ho, Sem.run_bind, List.map_toArray, List.map_nil, hrun, Result.andThen_ok]
  exact hK _ _ h
theorem own0R (w : World) (e : TypeId) (s : Nat) : (w.alloc (.cells #[] e)).ownsRow w.heap.size e s (.slice (some ⟨w.heap.size, 0, none⟩) 0 0) 0 [] := ⟨by simp, .inr ⟨_, 0, #[], rfl, Nat.le_refl _, heap_new _ _ _ rfl, Nat.le_refl _, Nat.zero_le _, by simp, by simp⟩⟩

set_option maxHeartbeats 8000000 in
/-- Two lists alike. -/
theorem rsame8_any (C : List RuleM) (hC : ∀ r ∈ C, okR8 r) (va vb : Value) (w : World) (ha : RulesAt w va C) (hb : RulesAt w vb C) :
    Calls Tryz.prog 8 #[va, vb] w fun e w' => e = .returned (.bool true) ∧ Below w.heap.size w w' := by
  obtain ⟨oa, capa, rfl, hca, hma⟩ := GSl.slice ha
  obtain ⟨ob, capb, rfl, hcb, hmb⟩ := GSl.slice hb
  obtain ⟨n, hn⟩ : ∃ n, n = C.length := ⟨_, rfl⟩
  rw [← hn] at ha hb hca hcb ⊢
  have HA : Hid (RulesAt w (.slice oa n capa) C) := ha
  have HBB : Hid (RulesAt w (.slice ob n capb) C) := hb
  have HOK : Hid (∀ r ∈ C, okR8 r) := hC
  unfold maxLen at hma hmb
  clear ha hb hn hC
  go_enter Tryz.func8, Tryz.ntmps8
  go_wp2_with fail
  go_loopw [5] (fun i wr => ∃ k : Nat, k ≤ n ∧ i = .int .i64 (k : Int) ∧ Below w.heap.size w wr) (fun i _ => n - (intOf i).toNat)
  case atStart => exact ⟨0, Nat.zero_le _, rfl, Below.refl _ _⟩
  case round =>
    obtain ⟨k, hk, rfl, hb⟩ := hrel
    have HB : Hid (Below w.heap.size w wr) := hb
    clear hb
    by_cases hlt : k < n
    · have hlt' : (k : Int) < (n : Int) := by omega
      obtain ⟨g, off, cur, ty, fr, x, rfl, hg, hc, hxk⟩ := (GSl.below HA.out HB.out).at k hlt
      obtain ⟨g2, off2, cur2, ty2, fr2, y, rfl, hg2, hc2, hyk⟩ := (GSl.below HBB.out HB.out).at k hlt
      rw [hxk] at hyk
      obtain rfl := Option.some.inj hyk
      have hx : okR8 x := HOK.out x (List.mem_of_getElem? hxk)
      have e1 : ∀ w, (Op.equalIn 10000 39 (.agg (ruleV x)) (.agg (ruleV x))).run Tryz.prog w = .ok true w := eqR_same hx
      have e2 : ∀ op p q w, (eqGuard op 39 p q (.agg (ruleV x)) (.agg (ruleV x))).run Tryz.prog w = .ok () w := fun op p q w => egR op p q _ _ w
      have hsz := ruleV_size hx
      have K1 : Hid (wr.heap[g]? = some (.cells cur ty fr)) := hg
      have K2 : Hid (wr.heap[g2]? = some (.cells cur2 ty2 fr2)) := hg2
      have H1 : Hid (∀ i, i < 28 → cur[off + k * 28 + i]? = (ruleV x)[i]?) := hc
      have H2 : Hid (∀ i, i < 28 → cur2[off2 + k * 28 + i]? = (ruleV x)[i]?) := hc2
      clear hg hg2 hc hc2 hxk hyk hx
      go_wp2_with fail
      have ne1 := Later.ne wr
      refine wp_region_later (by kernel_rfl) (by kernel_rfl) ?_
      go_big_quiet_step (fail)
      go_big_quiet_step (fail)
      go_big_quiet_step (fail)
      refine qlE (E := RuleE) RuleOk rfl _ rfl g (off + k * 28) rfl cur ty fr (ruleV x) hsz (later_block K1.out) H1.out ?_
      simp only [Act.put, List.setIfInBounds_toArray, List.set_cons_succ, List.set_cons_zero]
      go_big_quiet_step (fail)
      go_big_quiet_step (fail)
      go_big_quiet_step (fail)
      refine qlE (E := RuleE) RuleOk rfl _ rfl g2 (off2 + k * 28) rfl cur2 ty2 fr2 (ruleV x) hsz (later_block K2.out) H2.out ?_
      simp only [Act.put, List.setIfInBounds_toArray, List.set_cons_succ, List.set_cons_zero]
      go_big_quiet_step (fail)
      refine wpQuiet_nil ?_
      rintro w1 ⟨v5, rfl⟩
      have B1 : Hid (Below w.heap.size w v5.world) := HB.out.trans (v5.below.mono HB.out.size)
      go_wp2_with fail
      go_roundw
      case rel => exact ⟨k + 1, by omega, by go_num, B1.out⟩
      case measure => simp [intOf]; omega
    · have hlt' : ¬ (k : Int) < (n : Int) := by omega
      go_wp2_with fail
      go_ret
      exact ⟨rfl, HB.out⟩
/-! The reference's trimming is the same. -/
theorem trimGo_snoc {α : Type} (q : α → α → Bool) : ∀ (t A : List α) (x : α), trimGo q A (t ++ [x]) = trimGo q A t ++ (if (A ++ t).any (q x) then [] else [x])
  | [], A, x => by
    rw [List.nil_append, trimGo, trimGo, trimGo, List.append_nil, List.nil_append]
  | y :: t, A, x => by
    rw [List.cons_append, trimGo, trimGo]
    have e : A ++ y :: t = (A ++ [y]) ++ t := by simp
    split
    · rw [trimGo_snoc q t (A ++ [y]) x, e]
    · rw [trimGo_snoc q t (A ++ [y]) x, e]
      rfl
theorem trim_same {α : Type} (q : α → α → Bool) (hr : ∀ a, q a a = true) (ht : ∀ a b c, q a b = true → q b c = true → q a c = true) : ∀ (l A out : List α), (∀ a ∈ A, ∃ b ∈ out, q a b = true) → (∀ b ∈ out, b ∈ A) → trimO q out l = out ++ trimGo q A l
  | [], A, out, _, _ => by simp [trimO, trimGo]
  | x :: l, A, out, h1, h2 => by
    have e : A.any (q x) = out.any (q x) := by
      rw [Bool.eq_iff_iff, List.any_eq_true, List.any_eq_true]
      constructor
      · rintro ⟨a, ha, hq⟩
        obtain ⟨b, hb, hq2⟩ := h1 a ha
        exact ⟨b, hb, ht _ _ _ hq hq2⟩
      · rintro ⟨b, hb, hq⟩
        exact ⟨b, h2 b hb, hq⟩
    rw [trimO, trimGo, e]
    split
    · rename_i hc
      refine trim_same q hr ht l (A ++ [x]) out (fun a ha => ?_) (fun b hb => List.mem_append_left _ (h2 b hb))
      rcases List.mem_append.1 ha with ha | ha
      · exact h1 a ha
      · obtain rfl : a = x := by simpa using ha
        obtain ⟨b, hb, hq⟩ := List.any_eq_true.1 hc
        exact ⟨b, hb, hq⟩
    · rw [trim_same q hr ht l (A ++ [x]) (out ++ [x]) (fun a ha => ?_) (fun b hb => ?_), List.append_assoc]
      · rfl
      · rcases List.mem_append.1 ha with ha | ha
        · obtain ⟨b, hb, hq⟩ := h1 a ha
          exact ⟨b, List.mem_append_left _ hb, hq⟩
        · obtain rfl : a = x := by simpa using ha
          exact ⟨a, by simp, hr a⟩
      · rcases List.mem_append.1 hb with hb | hb
        · exact List.mem_append_left _ (h2 b hb)
        · exact List.mem_append_right _ hb
theorem withinR_refl (a : RuleM) : withinR a a = true := (within_iff _ _ _ _).2 fun _ _ h => ⟨h, rfl⟩
theorem withinR_trans (a b c : RuleM) (h1 : withinR a b = true) (h2 : withinR b c = true) : withinR a c = true := by
  unfold withinR at h1 h2 ⊢
  rw [within_iff] at h1 h2 ⊢
  intro i hi h
  obtain ⟨k1, k2⟩ := h2 i hi h
  obtain ⟨k3, k4⟩ := h1 i hi k1
  exact ⟨k3, k4.trans k2⟩
theorem trimT_go (l : List RuleM) : trimT l = trimGo withinR [] l := by
  unfold trimT
  rw [trim_same withinR withinR_refl withinR_trans l [] [] (fun a ha => by simp at ha) (fun b hb => by simp at hb)]
  rfl
theorem trimT_take {l : List RuleM} {k : Nat} {r : RuleM} (h : l[k]? = some r) : trimT (l.take (k + 1)) = trimT (l.take k) ++ (if (l.take k).any (withinR r) then [] else [r]) := by
  rw [trimT_go, trimT_go, List.take_add_one, h]
  exact trimGo_snoc withinR _ [] r

set_option maxHeartbeats 8000000 in
set_option maxRecDepth 100000 in
theorem rshut_any (l : List RuleM) (hl0 : ∀ r ∈ l, okR8 r) (vl : Value) (i : Nat) (r : RuleM) (hi : l[i]? = some r) (w : World) (hl : RulesAt w vl l) :
    Calls Tryz.prog 40 #[vl, .int .i64 (i : Int)] w fun e w' => e = .returned (.bool ((l.take i).any (withinR r))) ∧ Below w.heap.size w w' := by
  have WI : Hid (∀ (V M V' M' : List Int) W, Byt V → Byt M → Byt V' → Byt M' → Calls Tryz.prog 64 #[.agg (cv V M), .agg (cv V' M')] W fun e w' => e = .returned (.bool (within V M V' M')) ∧ Below W.heap.size W w') := fun V M V' M' W h1 h2 h3 h4 => rwithin_any V M V' M' h1 h2 h3 h4 W
  obtain ⟨o, cap, rfl, hc1, hc2⟩ := GSl.slice hl
  obtain ⟨n, hn0⟩ : ∃ n, n = l.length := ⟨_, rfl⟩
  have hin : i < n := by rw [hn0]; exact (List.getElem?_eq_some_iff.1 hi).1
  rw [← hn0] at hl hc1 ⊢
  have hr : okR8 r := hl0 r (List.mem_of_getElem? hi)
  have HR : Hid (okR8 r) := hr
  obtain ⟨g, off, cur, ty, fr, r', rfl, hg, hc, hxi⟩ := hl.at i hin
  obtain rfl : r' = r := by rw [hi] at hxi; exact (Option.some.inj hxi).symm
  have KG : Hid (w.heap[g]? = some (.cells cur ty fr)) := hg
  have HL : Hid (RulesAt w (.slice (some ⟨g, off, none⟩) n cap) l) := hl
  have HI : Hid (∀ j, j < 26 → cur[off + i * 28 + 1 + j]? = (cv r'.cube.1 r'.cube.2)[j]?) := fun j hj => by
    have h3 := hc (1 + j) (by show 1 + j < 28; omega)
    rw [(rule_at hr).2.1 j hj] at h3
    rw [← h3]
    congr 1
    show off + i * 28 + 1 + j = off + i * 28 + (1 + j)
    omega
  have HOK : Hid (∀ r ∈ l, okR8 r) := hl0
  unfold maxLen at hc2
  obtain ⟨b, hb⟩ : ∃ b, b = (l.take i).any (withinR r') := ⟨_, rfl⟩
  have HBE : Hid (b = (l.take i).any (withinR r')) := hb
  rw [← hb]
  have iz : (i : Int) < (n : Int) := by omega
  clear hl hn0 hl0 hg hc hxi hr hb hi
  go_enter Tryz.func40, Tryz.ntmps40
  go_wp2_with fail
  go_loopw [5] (fun s wr => ∃ k : Nat, k ≤ i ∧ s = .int .i64 (k : Int) ∧ Hid ((l.take k).any (withinR r') = false) ∧ Below w.heap.size w wr) (fun s _ => i - (intOf s).toNat)
  case atStart => exact ⟨0, Nat.zero_le _, rfl, rfl, Below.refl _ _⟩
  case round =>
    obtain ⟨k, hk, rfl, HF, hb⟩ := hrel
    have HB : Hid (Below w.heap.size w wr) := hb
    clear hb
    by_cases hlt : k < i
    · have hlt' : (k : Int) < (i : Int) := by omega
      have kz : (k : Int) < (n : Int) := by omega
      obtain ⟨g2, off2, cur2, ty2, fr2, a, hadr, hg2, hc2', hak⟩ := (GSl.below HL.out HB.out).at k (by omega)
      simp only [Option.some.injEq, Addr.mk.injEq] at hadr
      obtain ⟨rfl, rfl, _⟩ := hadr
      have ha : okR8 a := HOK.out a (List.mem_of_getElem? hak)
      have HAO : Hid (okR8 a) := ha
      have K2 : Hid (wr.heap[g]? = some (.cells cur2 ty2 fr2)) := hg2
      have K1 : Hid (wr.heap[g]? = some (.cells cur ty fr)) := (HB.out.block _ (Array.getElem?_eq_some_iff.1 KG.out).1).trans KG.out
      have H2 : Hid (∀ j, j < 26 → cur2[off + k * 28 + 1 + j]? = (cv a.cube.1 a.cube.2)[j]?) := fun j hj => by
        have h3 := hc2' (1 + j) (by show 1 + j < 28; omega)
        rw [(rule_at ha).2.1 j hj] at h3
        rw [← h3]
        congr 1
        show off + k * 28 + 1 + j = off + k * 28 + (1 + j)
        omega
      have HAK : Hid (l[k]? = some a) := hak
      clear hg2 hc2' hak ha
      go_wp2_with fail
      have ne1 := Later.ne wr
      refine wp_region_later (by kernel_rfl) (by kernel_rfl) ?_
      go_big_quiet_step (fail)
      go_big_quiet_step (fail)
      go_big_quiet_step (fail)
      go_big_quiet_step (fail)
      refine qlE (E := CubE) CubOk rfl _ rfl g (off + i * 28 + 1) rfl cur ty fr (cv r'.cube.1 r'.cube.2) (cv_size _ _ HR.out.1.1 HR.out.2.1) (later_block K1.out) HI.out ?_
      simp only [Act.put, List.setIfInBounds_toArray, List.set_cons_succ, List.set_cons_zero]
      go_big_quiet_step (fail)
      go_big_quiet_step (fail)
      go_big_quiet_step (fail)
      go_big_quiet_step (fail)
      refine qlE (E := CubE) CubOk rfl _ rfl g (off + k * 28 + 1) rfl cur2 ty2 fr2 (cv a.cube.1 a.cube.2) (cv_size _ _ HAO.out.1.1 HAO.out.2.1) (later_block K2.out) H2.out ?_
      simp only [Act.put, List.setIfInBounds_toArray, List.set_cons_succ, List.set_cons_zero]
      go_big_quiet_want; go_big_quiet_op
      refine ⟨_, fun u => Calls.later_of (WI.out _ _ _ _ u.world HR.out.1 HR.out.2 HAO.out.1 HAO.out.2), ?_⟩
      go_big_quiet_on
      refine wpQuiet_nil ?_
      rintro w1 ⟨v5, rfl⟩
      have B1 : Hid (Below w.heap.size w v5.world) := HB.out.trans (v5.below.mono HB.out.size)
      cases hwi : within r'.cube.1 r'.cube.2 a.cube.1 a.cube.2 with
      | true =>
        have HE : Hid (b = true) := by
          show _ = _
          rw [HBE.out]
          exact any_take_yes (l := l.take i) (k := k) (x := a) (by rw [List.getElem?_take_of_lt hlt]; exact HAK.out) hwi
        clear hwi
        go_wp2_with fail
        go_ret
        exact ⟨by rw [HE.out]; rfl, B1.out⟩
      | false =>
        have HF2 : Hid ((l.take (k + 1)).any (withinR r') = false) := any_take_no HF.out HAK.out hwi
        clear hwi
        go_wp2_with fail
        go_roundw
        case rel => exact ⟨k + 1, by omega, by go_num, HF2, B1.out⟩
        case measure => simp [intOf]; omega
    · have hlt' : ¬ (k : Int) < (i : Int) := by omega
      have HE : Hid (b = false) := by
        show _ = _
        rw [HBE.out]
        have := HF.out
        rwa [show k = i by omega] at this
      go_wp2_with fail
      go_ret
      exact ⟨by rw [HE.out]; rfl, HB.out⟩

set_option maxHeartbeats 8000000 in
set_option maxRecDepth 100000 in
theorem rtrim_any (l : List RuleM) (hl0 : ∀ r ∈ l, okR8 r) (hn1 : l.length ≤ 100000) (vl : Value) (w : World) (hl : RulesAt w vl l) :
    Calls Tryz.prog 21 #[vl] w fun e w' => (∃ v, e = .returned v ∧ w'.ownsRow w.heap.size 39 28 v (trimT l).length (gcells ruleV (trimT l))) ∧ Below w.heap.size w w' := by
  obtain ⟨o, cap, rfl, hc1, hc2⟩ := GSl.slice hl
  obtain ⟨n, hn0⟩ : ∃ n, n = l.length := ⟨_, rfl⟩
  have HN : Hid (n = l.length) := hn0
  rw [← hn0] at hl hc1 hn1 ⊢
  have SH : Hid (∀ (i : Nat) (r : RuleM) W, l[i]? = some r → Below w.heap.size w W → Calls Tryz.prog 40 #[.slice o n cap, .int .i64 (i : Int)] W fun e w' => e = .returned (.bool ((l.take i).any (withinR r))) ∧ Below W.heap.size W w') := fun i r W h1 h2 => rshut_any l hl0 _ i r h1 W (GSl.below hl h2)
  have HL : Hid (RulesAt w (.slice o n cap) l) := hl
  have HOK : Hid (∀ r ∈ l, okR8 r) := hl0
  unfold maxLen at hc2
  clear hl hn0 hl0
  go_enter Tryz.func21, Tryz.ntmps21
  go_wp2_with (refine wl_build0R (E := RuleE) RuleOk rfl rfl ?_)
  go_loopw [3, 4] (fun v i wr => ∃ (k : Nat) (T : List RuleM), k ≤ n ∧ i = .int .i64 (k : Int) ∧ Hid (T = trimT (l.take k)) ∧ T.length ≤ k ∧ wr.ownsRow w.heap.size 39 28 v T.length (gcells ruleV T) ∧ Below w.heap.size w wr) (fun _ i _ => n - (intOf i).toNat)
  case atStart => exact ⟨0, [], Nat.zero_le _, rfl, rfl, Nat.le_refl _, own0R _ _ _, (Below.refl _ _).alloc (Nat.le_refl _) _⟩
  case round =>
    obtain ⟨k, T, hk, rfl, HT, hTk, hown, hb⟩ := hrel
    have HO : Hid (wr.ownsRow w.heap.size 39 28 u3 T.length (gcells ruleV T)) := hown
    have HB : Hid (Below w.heap.size w wr) := hb
    clear hown hb
    by_cases hlt : k < n
    · have hlt' : (k : Int) < (n : Int) := by omega
      obtain ⟨r, hr0⟩ : ∃ r, l[k]? = some r := ⟨_, List.getElem?_eq_getElem (by rw [← HN.out]; exact hlt)⟩
      have hr : okR8 r := HOK.out r (List.mem_of_getElem? hr0)
      have HR : Hid (okR8 r) := hr
      have hsz := ruleV_size hr
      have HNX := trimT_take hr0
      obtain ⟨g, off, cur, ty, fr, r', rfl, hg, hc, hxi⟩ := (GSl.below HL.out HB.out).at k hlt
      obtain rfl : r' = r := by rw [hr0] at hxi; exact (Option.some.inj hxi).symm
      have KG : Hid (wr.heap[g]? = some (.cells cur ty fr)) := hg
      have H1 : Hid (∀ j, j < 28 → cur[off + k * 28 + j]? = (ruleV r')[j]?) := hc
      have HR0 : Hid (l[k]? = some r') := hr0
      obtain ⟨b, hbe⟩ : ∃ b, b = (l.take k).any (withinR r') := ⟨_, rfl⟩
      have HBE : Hid (b = (l.take k).any (withinR r')) := hbe
      rw [← hbe, ← HT.out] at HNX
      have HX : Hid (trimT (l.take (k + 1)) = T ++ (if b = true then [] else [r'])) := HNX
      clear hg hc hxi hr hr0 hbe HNX
      go_wp2_with fail
      refine (SH.out k r' _ HR0.out HB.out).mono ?_
      rw [← HBE.out]
      rintro e w1 ⟨rfl, hb1⟩
      have B1 : Hid (Below w.heap.size w w1) := HB.out.trans (hb1.mono HB.out.size)
      have K1 : Hid (w1.heap[g]? = some (.cells cur ty fr)) := (hb1.block _ (Array.getElem?_eq_some_iff.1 KG.out).1).trans KG.out
      have O1 : Hid (w1.ownsRow w.heap.size 39 28 u3 T.length (gcells ruleV T)) := gown_below HO.out hb1
      clear hb1
      cases b with
      | true =>
        go_wp2_with fail
        go_roundw
        case rel => exact ⟨k + 1, T, by omega, by go_num, by show _ = _; rw [HX.out]; simp, by omega, O1.out, B1.out⟩
        case measure => simp [intOf]; omega
      | false =>
        have ON2 : Hid ((w1.alloc (.cells (ruleV r') 39)).ownsRow w.heap.size 39 28 u3 T.length (gcells ruleV T)) := O1.out.alloc _
        go_wp2_with (first
          | (refine wl_loadE (E := RuleE) RuleOk rfl _ rfl g (off + k * 28) rfl cur ty fr (ruleV r') hsz K1.out H1.out ?_)
          | (refine wl_buildE (E := RuleE) RuleOk rfl _ rfl (ruleV r') hsz rfl ?_)
          | (at_builtin; refine of_stopT ?_))
        unfold StopT
        refine wl_appendE (E := RuleE) RuleOk ruleV rfl _ _ rfl w.heap.size u3 T r' (rule_fits HR.out) rfl ON2.out w1.heap.size 1 rfl (heap_new _ _ _ rfl) (by omega) (by have := B1.out.size; simp; omega) ?_
        intro v' w3 hown3 hgr3 _
        have B3 : Hid (Below w.heap.size w w3) := (B1.out.alloc B1.out.size _).trans ((Below.refl _ _).grown hgr3 (B1.out.alloc B1.out.size _).size fun k hk => (ON2.out.lt k hk).1)
        have O3 : Hid (w3.ownsRow w.heap.size 39 28 v' (T ++ [r']).length (gcells ruleV (T ++ [r']))) := hown3
        clear hown3 hgr3
        simp only [Act.put, List.setIfInBounds_toArray, List.set_cons_succ, List.set_cons_zero]
        go_wp2_with fail
        go_roundw
        case rel => exact ⟨k + 1, T ++ [r'], by omega, by go_num, by show _ = _; rw [HX.out]; simp, by simp; omega, O3.out, B3.out⟩
        case measure => simp [intOf]; omega
    · have hlt' : ¬ (k : Int) < (n : Int) := by omega
      have HE : Hid (T = trimT l) := by
        have e := HN.out
        show _ = _
        rw [HT.out, List.take_of_length_le (by omega)]
      go_wp2_with fail
      go_ret
      exact ⟨⟨_, rfl, by rw [← HE.out]; exact HO.out⟩, HB.out⟩
end Go.Proofs.YthddlchkbnmcaaaGreatDoor
