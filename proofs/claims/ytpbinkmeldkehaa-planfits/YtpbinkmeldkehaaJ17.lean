import Derived.Test.YtpbinkmeldkehaaJ16
import Derived.Test.YtpbinkmeldkehaaJ3
namespace Go.Proofs.Ytpbinkmeldkehaa
open Go Go.RowKit
set_option maxRecDepth 20000

theorem wl_build0R {ops : Array Oper} {rest : List Oper} {o : Oper} {a : Act} {w : World} {Q : Exit → Act → World → Prop} {E : El} (H : E.Ok) (hg : o.guard = none) (ho : o.op = .buildSlice E.slice 0 #[])
    (h : wpList Try.prog ops Q rest (a.put o.dst (.slice (some ⟨w.heap.size, 0, none⟩) 0 0)) (w.alloc (.cells #[] E.elem))) : wpList Try.prog ops Q (o :: rest) a w := by
  obtain ⟨ie, hie, hz, hs, _⟩ := H.info
  refine wpList_plain hg fun _ hK => ?_
  unfold Oper.wp execOp
  have hrun : (Instr.buildSlice E.slice 0 #[]).run Try.prog w = .ok (.slice (some ⟨w.heap.size, 0, none⟩) 0 0) (w.alloc (.cells #[] E.elem)) := by
    have h0 : Array.range 0 = #[] := Array.eq_empty_of_size_eq_zero (by simp)
    simp [Instr.buildSlice, run_underlying H.hs, sizeOf, typeInfo, hie, Instr.fill, newRow, h0]
  simp only [ho, Sem.run_bind, List.map_toArray, List.map_nil, hrun, Result.andThen_ok]
  exact hK _ _ h
theorem own0R (w : World) (e : TypeId) (s : Nat) : (w.alloc (.cells #[] e)).ownsRow w.heap.size e s (.slice (some ⟨w.heap.size, 0, none⟩) 0 0) 0 [] := ⟨by simp, .inr ⟨_, 0, #[], rfl, Nat.le_refl _, heap_new _ _ _ rfl, Nat.le_refl _, Nat.zero_le _, by simp, by simp⟩⟩

set_option maxHeartbeats 8000000 in
/-- Two lists alike. -/
theorem rsame8_any (C : List RuleM) (hC : ∀ r ∈ C, okR8 r) (va vb : Value) (w : World) (ha : RulesAt w va C) (hb : RulesAt w vb C) :
    Calls Try.prog 32 #[va, vb] w fun e w' => e = .returned (.bool true) ∧ Below w.heap.size w w' := by
  obtain ⟨oa, capa, rfl, hca, hma⟩ := GSl.slice ha
  obtain ⟨ob, capb, rfl, hcb, hmb⟩ := GSl.slice hb
  obtain ⟨n, hn⟩ : ∃ n, n = C.length := ⟨_, rfl⟩
  rw [← hn] at ha hb hca hcb ⊢
  have HA : Hid (RulesAt w (.slice oa n capa) C) := ha
  have HBB : Hid (RulesAt w (.slice ob n capb) C) := hb
  have HOK : Hid (∀ r ∈ C, okR8 r) := hC
  unfold maxLen at hma hmb
  clear ha hb hn hC
  go_enter Try.func32, Try.ntmps32
  go_wp2_with fail
  go_loopw [5] (fun i wr => ∃ k : Nat, k ≤ n ∧ i = .int .i64 (k : Int) ∧ Below w.heap.size w wr) (fun i _ => n - (intOf i).toNat)
  case atStart => exact ⟨0, Nat.zero_le _, rfl, Below.refl _ _⟩
  case round =>
    obtain ⟨k, hk, rfl, hb⟩ := hrel
    have HB : Hid (Below w.heap.size w wr) := hb
    clear hb
    by_cases hlt : k < n
    · have hlt' : (k : Int) < (n : Int) := by omega
      obtain ⟨g, off, cur, ty, fr, x, rfl, hg, hc, hxk⟩ := (GSl.below HA.out HB.out).at k hlt
      obtain ⟨g2, off2, cur2, ty2, fr2, y, rfl, hg2, hc2, hyk⟩ := (GSl.below HBB.out HB.out).at k hlt
      rw [hxk] at hyk
      obtain rfl := Option.some.inj hyk
      have hx : okR8 x := HOK.out x (List.mem_of_getElem? hxk)
      have e1 : ∀ w, (Op.equalIn 10000 44 (.agg (ruleV x)) (.agg (ruleV x))).run Try.prog w = .ok true w := eqR_same hx
      have e2 : ∀ op p q w, (eqGuard op 44 p q (.agg (ruleV x)) (.agg (ruleV x))).run Try.prog w = .ok () w := fun op p q w => egR op p q _ _ w
      have hsz := ruleV_size hx
      have K1 : Hid (wr.heap[g]? = some (.cells cur ty fr)) := hg
      have K2 : Hid (wr.heap[g2]? = some (.cells cur2 ty2 fr2)) := hg2
      have H1 : Hid (∀ i, i < 28 → cur[off + k * 28 + i]? = (ruleV x)[i]?) := hc
      have H2 : Hid (∀ i, i < 28 → cur2[off2 + k * 28 + i]? = (ruleV x)[i]?) := hc2
      clear hg hg2 hc hc2 hxk hyk hx
      go_wp2_with fail
      have ne1 := Later.ne wr
      refine wp_region_later (by kernel_rfl) (by kernel_rfl) ?_
      go_big_quiet_step (fail)
      go_big_quiet_step (fail)
      go_big_quiet_step (fail)
      refine qlE (E := RuleE) RuleOk rfl _ rfl g (off + k * 28) rfl cur ty fr (ruleV x) hsz (later_block K1.out) H1.out ?_
      simp only [Act.put, List.setIfInBounds_toArray, List.set_cons_succ, List.set_cons_zero]
      go_big_quiet_step (fail)
      go_big_quiet_step (fail)
      go_big_quiet_step (fail)
      refine qlE (E := RuleE) RuleOk rfl _ rfl g2 (off2 + k * 28) rfl cur2 ty2 fr2 (ruleV x) hsz (later_block K2.out) H2.out ?_
      simp only [Act.put, List.setIfInBounds_toArray, List.set_cons_succ, List.set_cons_zero]
      go_big_quiet_step (fail)
      refine wpQuiet_nil ?_
      rintro w1 ⟨v5, rfl⟩
      have B1 : Hid (Below w.heap.size w v5.world) := HB.out.trans (v5.below.mono HB.out.size)
      go_wp2_with fail
      go_roundw
      case rel => exact ⟨k + 1, by omega, by go_num, B1.out⟩
      case measure => simp [intOf]; omega
    · have hlt' : ¬ (k : Int) < (n : Int) := by omega
      go_wp2_with fail
      go_ret
      exact ⟨rfl, HB.out⟩
/-! The reference's trimming is the same. -/
theorem trimGo_snoc {α : Type} (q : α → α → Bool) : ∀ (t A : List α) (x : α), trimGo q A (t ++ [x]) = trimGo q A t ++ (if (A ++ t).any (q x) then [] else [x])
  | [], A, x => by
    rw [List.nil_append, trimGo, trimGo, trimGo, List.append_nil, List.nil_append]
  | y :: t, A, x => by
    rw [List.cons_append, trimGo, trimGo]
    have e : A ++ y :: t = (A ++ [y]) ++ t := by simp
    split
    · rw [trimGo_snoc q t (A ++ [y]) x, e]
    · rw [trimGo_snoc q t (A ++ [y]) x, e]
      rfl
theorem trim_same {α : Type} (q : α → α → Bool) (hr : ∀ a, q a a = true) (ht : ∀ a b c, q a b = true → q b c = true → q a c = true) : ∀ (l A out : List α), (∀ a ∈ A, ∃ b ∈ out, q a b = true) → (∀ b ∈ out, b ∈ A) → trimO q out l = out ++ trimGo q A l
  | [], A, out, _, _ => by simp [trimO, trimGo]
  | x :: l, A, out, h1, h2 => by
    have e : A.any (q x) = out.any (q x) := by
      rw [Bool.eq_iff_iff, List.any_eq_true, List.any_eq_true]
      constructor
      · rintro ⟨a, ha, hq⟩
        obtain ⟨b, hb, hq2⟩ := h1 a ha
        exact ⟨b, hb, ht _ _ _ hq hq2⟩
      · rintro ⟨b, hb, hq⟩
        exact ⟨b, h2 b hb, hq⟩
    rw [trimO, trimGo, e]
    split
    · rename_i hc
      refine trim_same q hr ht l (A ++ [x]) out (fun a ha => ?_) (fun b hb => List.mem_append_left _ (h2 b hb))
      rcases List.mem_append.1 ha with ha | ha
      · exact h1 a ha
      · obtain rfl : a = x := by simpa using ha
        obtain ⟨b, hb, hq⟩ := List.any_eq_true.1 hc
        exact ⟨b, hb, hq⟩
    · rw [trim_same q hr ht l (A ++ [x]) (out ++ [x]) (fun a ha => ?_) (fun b hb => ?_), List.append_assoc]
      · rfl
      · rcases List.mem_append.1 ha with ha | ha
        · obtain ⟨b, hb, hq⟩ := h1 a ha
          exact ⟨b, List.mem_append_left _ hb, hq⟩
        · obtain rfl : a = x := by simpa using ha
          exact ⟨a, by simp, hr a⟩
      · rcases List.mem_append.1 hb with hb | hb
        · exact List.mem_append_left _ (h2 b hb)
        · exact List.mem_append_right _ hb
theorem withinR_refl (a : RuleM) : withinR a a = true := (within_iff _ _ _ _).2 fun _ _ h => ⟨h, rfl⟩
theorem withinR_trans (a b c : RuleM) (h1 : withinR a b = true) (h2 : withinR b c = true) : withinR a c = true := by
  unfold withinR at h1 h2 ⊢
  rw [within_iff] at h1 h2 ⊢
  intro i hi h
  obtain ⟨k1, k2⟩ := h2 i hi h
  obtain ⟨k3, k4⟩ := h1 i hi k1
  exact ⟨k3, k4.trans k2⟩
theorem trimT_go (l : List RuleM) : trimT l = trimGo withinR [] l := by
  unfold trimT
  rw [trim_same withinR withinR_refl withinR_trans l [] [] (fun a ha => by simp at ha) (fun b hb => by simp at hb)]
  rfl
theorem trimT_take {l : List RuleM} {k : Nat} {r : RuleM} (h : l[k]? = some r) : trimT (l.take (k + 1)) = trimT (l.take k) ++ (if (l.take k).any (withinR r) then [] else [r]) := by
  rw [trimT_go, trimT_go, List.take_add_one, h]
  exact trimGo_snoc withinR _ [] r

set_option maxHeartbeats 8000000 in
set_option maxRecDepth 100000 in
theorem rshut_any (l : List RuleM) (hl0 : ∀ r ∈ l, okR8 r) (vl : Value) (i : Nat) (r : RuleM) (hi : l[i]? = some r) (w : World) (hl : RulesAt w vl l) :
    Calls Try.prog 84 #[vl, .int .i64 (i : Int)] w fun e w' => e = .returned (.bool ((l.take i).any (withinR r))) ∧ Below w.heap.size w w' := by
  have WI : Hid (∀ (V M V' M' : List Int) W, Byt V → Byt M → Byt V' → Byt M' → Calls Try.prog 88 #[.agg (cv V M), .agg (cv V' M')] W fun e w' => e = .returned (.bool (within V M V' M')) ∧ Below W.heap.size W w') := fun V M V' M' W h1 h2 h3 h4 => rwithin_any V M V' M' h1 h2 h3 h4 W
  obtain ⟨o, cap, rfl, hc1, hc2⟩ := GSl.slice hl
  obtain ⟨n, hn0⟩ : ∃ n, n = l.length := ⟨_, rfl⟩
  have hin : i < n := by rw [hn0]; exact (List.getElem?_eq_some_iff.1 hi).1
  rw [← hn0] at hl hc1 ⊢
  have hr : okR8 r := hl0 r (List.mem_of_getElem? hi)
  have HR : Hid (okR8 r) := hr
  obtain ⟨g, off, cur, ty, fr, r', rfl, hg, hc, hxi⟩ := hl.at i hin
  obtain rfl : r' = r := by rw [hi] at hxi; exact (Option.some.inj hxi).symm
  have KG : Hid (w.heap[g]? = some (.cells cur ty fr)) := hg
  have HL : Hid (RulesAt w (.slice (some ⟨g, off, none⟩) n cap) l) := hl
  have HI : Hid (∀ j, j < 26 → cur[off + i * 28 + 1 + j]? = (cv r'.cube.1 r'.cube.2)[j]?) := fun j hj => by
    have h3 := hc (1 + j) (by show 1 + j < 28; omega)
    rw [(rule_at hr).2.1 j hj] at h3
    rw [← h3]
    congr 1
    show off + i * 28 + 1 + j = off + i * 28 + (1 + j)
    omega
  have HOK : Hid (∀ r ∈ l, okR8 r) := hl0
  unfold maxLen at hc2
  obtain ⟨b, hb⟩ : ∃ b, b = (l.take i).any (withinR r') := ⟨_, rfl⟩
  have HBE : Hid (b = (l.take i).any (withinR r')) := hb
  rw [← hb]
  have iz : (i : Int) < (n : Int) := by omega
  clear hl hn0 hl0 hg hc hxi hr hb hi
  go_enter Try.func84, Try.ntmps84
  go_wp2_with fail
  go_loopw [5] (fun s wr => ∃ k : Nat, k ≤ i ∧ s = .int .i64 (k : Int) ∧ Hid ((l.take k).any (withinR r') = false) ∧ Below w.heap.size w wr) (fun s _ => i - (intOf s).toNat)
  case atStart => exact ⟨0, Nat.zero_le _, rfl, rfl, Below.refl _ _⟩
  case round =>
    obtain ⟨k, hk, rfl, HF, hb⟩ := hrel
    have HB : Hid (Below w.heap.size w wr) := hb
    clear hb
    by_cases hlt : k < i
    · have hlt' : (k : Int) < (i : Int) := by omega
      have kz : (k : Int) < (n : Int) := by omega
      obtain ⟨g2, off2, cur2, ty2, fr2, a, hadr, hg2, hc2', hak⟩ := (GSl.below HL.out HB.out).at k (by omega)
      simp only [Option.some.injEq, Addr.mk.injEq] at hadr
      obtain ⟨rfl, rfl, _⟩ := hadr
      have ha : okR8 a := HOK.out a (List.mem_of_getElem? hak)
      have HAO : Hid (okR8 a) := ha
      have K2 : Hid (wr.heap[g]? = some (.cells cur2 ty2 fr2)) := hg2
      have K1 : Hid (wr.heap[g]? = some (.cells cur ty fr)) := (HB.out.block _ (Array.getElem?_eq_some_iff.1 KG.out).1).trans KG.out
      have H2 : Hid (∀ j, j < 26 → cur2[off + k * 28 + 1 + j]? = (cv a.cube.1 a.cube.2)[j]?) := fun j hj => by
        have h3 := hc2' (1 + j) (by show 1 + j < 28; omega)
        rw [(rule_at ha).2.1 j hj] at h3
        rw [← h3]
        congr 1
        show off + k * 28 + 1 + j = off + k * 28 + (1 + j)
        omega
      have HAK : Hid (l[k]? = some a) := hak
      clear hg2 hc2' hak ha
      go_wp2_with fail
      have ne1 := Later.ne wr
      refine wp_region_later (by kernel_rfl) (by kernel_rfl) ?_
      go_big_quiet_step (fail)
      go_big_quiet_step (fail)
      go_big_quiet_step (fail)
      go_big_quiet_step (fail)
      refine qlCw rfl _ rfl g (off + i * 28 + 1) rfl cur ty fr r'.cube.1 r'.cube.2 HR.out.1.1 HR.out.2.1 (later_block K1.out) HI.out ?_
      simp only [Act.put, List.setIfInBounds_toArray, List.set_cons_succ, List.set_cons_zero]
      go_big_quiet_step (fail)
      go_big_quiet_step (fail)
      go_big_quiet_step (fail)
      go_big_quiet_step (fail)
      refine qlCw rfl _ rfl g (off + k * 28 + 1) rfl cur2 ty2 fr2 a.cube.1 a.cube.2 HAO.out.1.1 HAO.out.2.1 (later_block K2.out) H2.out ?_
      simp only [Act.put, List.setIfInBounds_toArray, List.set_cons_succ, List.set_cons_zero]
      go_big_quiet_want; go_big_quiet_op
      refine ⟨_, fun u => Calls.later_of (WI.out _ _ _ _ u.world HR.out.1 HR.out.2 HAO.out.1 HAO.out.2), ?_⟩
      go_big_quiet_on
      refine wpQuiet_nil ?_
      rintro w1 ⟨v5, rfl⟩
      have B1 : Hid (Below w.heap.size w v5.world) := HB.out.trans (v5.below.mono HB.out.size)
      cases hwi : within r'.cube.1 r'.cube.2 a.cube.1 a.cube.2 with
      | true =>
        have HE : Hid (b = true) := by
          show _ = _
          rw [HBE.out]
          exact any_take_yes (l := l.take i) (k := k) (x := a) (by rw [List.getElem?_take_of_lt hlt]; exact HAK.out) hwi
        clear hwi
        go_wp2_with fail
        go_ret
        exact ⟨by rw [HE.out]; rfl, B1.out⟩
      | false =>
        have HF2 : Hid ((l.take (k + 1)).any (withinR r') = false) := any_take_no HF.out HAK.out hwi
        clear hwi
        go_wp2_with fail
        go_roundw
        case rel => exact ⟨k + 1, by omega, by go_num, HF2, B1.out⟩
        case measure => simp [intOf]; omega
    · have hlt' : ¬ (k : Int) < (i : Int) := by omega
      have HE : Hid (b = false) := by
        show _ = _
        rw [HBE.out]
        have := HF.out
        rwa [show k = i by omega] at this
      go_wp2_with fail
      go_ret
      exact ⟨by rw [HE.out]; rfl, HB.out⟩

set_option maxHeartbeats 8000000 in
set_option maxRecDepth 100000 in
theorem rtrim_any (l : List RuleM) (hl0 : ∀ r ∈ l, okR8 r) (hn1 : l.length ≤ 100000) (vl : Value) (w : World) (hl : RulesAt w vl l) :
    Calls Try.prog 66 #[vl] w fun e w' => (∃ v, e = .returned v ∧ w'.ownsRow w.heap.size 44 28 v (trimT l).length (gcells ruleV (trimT l))) ∧ Below w.heap.size w w' := by
  obtain ⟨o, cap, rfl, hc1, hc2⟩ := GSl.slice hl
  obtain ⟨n, hn0⟩ : ∃ n, n = l.length := ⟨_, rfl⟩
  have HN : Hid (n = l.length) := hn0
  rw [← hn0] at hl hc1 hn1 ⊢
  have SH : Hid (∀ (i : Nat) (r : RuleM) W, l[i]? = some r → Below w.heap.size w W → Calls Try.prog 84 #[.slice o n cap, .int .i64 (i : Int)] W fun e w' => e = .returned (.bool ((l.take i).any (withinR r))) ∧ Below W.heap.size W w') := fun i r W h1 h2 => rshut_any l hl0 _ i r h1 W (GSl.below hl h2)
  have HL : Hid (RulesAt w (.slice o n cap) l) := hl
  have HOK : Hid (∀ r ∈ l, okR8 r) := hl0
  unfold maxLen at hc2
  clear hl hn0 hl0
  go_enter Try.func66, Try.ntmps66
  go_wp2_with (refine wl_build0R (E := RuleE) RuleOk rfl rfl ?_)
  go_loopw [3, 4] (fun v i wr => ∃ (k : Nat) (T : List RuleM), k ≤ n ∧ i = .int .i64 (k : Int) ∧ Hid (T = trimT (l.take k)) ∧ T.length ≤ k ∧ wr.ownsRow w.heap.size 44 28 v T.length (gcells ruleV T) ∧ Below w.heap.size w wr) (fun _ i _ => n - (intOf i).toNat)
  case atStart => exact ⟨0, [], Nat.zero_le _, rfl, rfl, Nat.le_refl _, own0R _ _ _, (Below.refl _ _).alloc (Nat.le_refl _) _⟩
  case round =>
    obtain ⟨k, T, hk, rfl, HT, hTk, hown, hb⟩ := hrel
    have HO : Hid (wr.ownsRow w.heap.size 44 28 u3 T.length (gcells ruleV T)) := hown
    have HB : Hid (Below w.heap.size w wr) := hb
    clear hown hb
    by_cases hlt : k < n
    · have hlt' : (k : Int) < (n : Int) := by omega
      obtain ⟨r, hr0⟩ : ∃ r, l[k]? = some r := ⟨_, List.getElem?_eq_getElem (by rw [← HN.out]; exact hlt)⟩
      have hr : okR8 r := HOK.out r (List.mem_of_getElem? hr0)
      have HR : Hid (okR8 r) := hr
      have hsz := ruleV_size hr
      have HNX := trimT_take hr0
      obtain ⟨g, off, cur, ty, fr, r', rfl, hg, hc, hxi⟩ := (GSl.below HL.out HB.out).at k hlt
      obtain rfl : r' = r := by rw [hr0] at hxi; exact (Option.some.inj hxi).symm
      have KG : Hid (wr.heap[g]? = some (.cells cur ty fr)) := hg
      have H1 : Hid (∀ j, j < 28 → cur[off + k * 28 + j]? = (ruleV r')[j]?) := hc
      have HR0 : Hid (l[k]? = some r') := hr0
      obtain ⟨b, hbe⟩ : ∃ b, b = (l.take k).any (withinR r') := ⟨_, rfl⟩
      have HBE : Hid (b = (l.take k).any (withinR r')) := hbe
      rw [← hbe, ← HT.out] at HNX
      have HX : Hid (trimT (l.take (k + 1)) = T ++ (if b = true then [] else [r'])) := HNX
      clear hg hc hxi hr hr0 hbe HNX
      go_wp2_with fail
      refine (SH.out k r' _ HR0.out HB.out).mono ?_
      rw [← HBE.out]
      rintro e w1 ⟨rfl, hb1⟩
      have B1 : Hid (Below w.heap.size w w1) := HB.out.trans (hb1.mono HB.out.size)
      have K1 : Hid (w1.heap[g]? = some (.cells cur ty fr)) := (hb1.block _ (Array.getElem?_eq_some_iff.1 KG.out).1).trans KG.out
      have O1 : Hid (w1.ownsRow w.heap.size 44 28 u3 T.length (gcells ruleV T)) := gown_below HO.out hb1
      clear hb1
      cases b with
      | true =>
        go_wp2_with fail
        go_roundw
        case rel => exact ⟨k + 1, T, by omega, by go_num, by show _ = _; rw [HX.out]; simp, by omega, O1.out, B1.out⟩
        case measure => simp [intOf]; omega
      | false =>
        have ON2 : Hid ((w1.alloc (.cells (ruleV r') 44)).ownsRow w.heap.size 44 28 u3 T.length (gcells ruleV T)) := O1.out.alloc _
        go_wp2_with (first
          | (refine wl_loadE (E := RuleE) RuleOk rfl _ rfl g (off + k * 28) rfl cur ty fr (ruleV r') hsz K1.out H1.out ?_)
          | (refine wl_buildE (E := RuleE) RuleOk rfl _ rfl (ruleV r') hsz rfl ?_)
          | (at_builtin; refine of_stopT ?_))
        unfold StopT
        refine wl_appendE (E := RuleE) RuleOk ruleV rfl _ _ rfl w.heap.size u3 T r' (rule_fits HR.out) rfl ON2.out w1.heap.size 1 rfl (heap_new _ _ _ rfl) (by omega) (by have := B1.out.size; simp; omega) ?_
        intro v' w3 hown3 hgr3 _
        have B3 : Hid (Below w.heap.size w w3) := (B1.out.alloc B1.out.size _).trans ((Below.refl _ _).grown hgr3 (B1.out.alloc B1.out.size _).size fun k hk => (ON2.out.lt k hk).1)
        have O3 : Hid (w3.ownsRow w.heap.size 44 28 v' (T ++ [r']).length (gcells ruleV (T ++ [r']))) := hown3
        clear hown3 hgr3
        simp only [Act.put, List.setIfInBounds_toArray, List.set_cons_succ, List.set_cons_zero]
        go_wp2_with fail
        go_roundw
        case rel => exact ⟨k + 1, T ++ [r'], by omega, by go_num, by show _ = _; rw [HX.out]; simp, by simp; omega, O3.out, B3.out⟩
        case measure => simp [intOf]; omega
    · have hlt' : ¬ (k : Int) < (n : Int) := by omega
      have HE : Hid (T = trimT l) := by
        have e := HN.out
        show _ = _
        rw [HT.out, List.take_of_length_le (by omega)]
      go_wp2_with fail
      go_ret
      exact ⟨⟨_, rfl, by rw [← HE.out]; exact HO.out⟩, HB.out⟩
end Go.Proofs.Ytpbinkmeldkehaa
namespace Go.Proofs.Ytpbinkmeldkehaa
open Go Go.RowKit
set_option maxRecDepth 20000

/-- A rule's part within a cube. -/
def cutR (V M : List Int) (r : RuleM) : Option RuleM := if meets r.cube.1 r.cube.2 V M then some ⟨r.order, (meetV r.cube.1 r.cube.2 V M, meetM r.cube.2 M), r.action⟩ else none
def meetL (V M : List Int) (l : List RuleM) : List RuleM := l.filterMap (cutR V M)
def clipT (V M : List Int) (l : List RuleM) : List RuleM := trimT (meetL V M l)
theorem cutR_yes {V M : List Int} {r : RuleM} (h : meets r.cube.1 r.cube.2 V M = true) : cutR V M r = some ⟨r.order, (meetV r.cube.1 r.cube.2 V M, meetM r.cube.2 M), r.action⟩ := by unfold cutR; rw [if_pos h]
theorem cutR_no {V M : List Int} {r : RuleM} (h : meets r.cube.1 r.cube.2 V M = false) : cutR V M r = none := by unfold cutR; rw [h]; rfl
theorem meet_ok (V M V' M' : List Int) (n a : Int) : okR8 ⟨n, (meetV V M V' M', meetM M M'), a⟩ := by
  constructor
  · show Byt (meetV V M V' M')
    unfold meetV
    exact mk_byt _
  · show Byt (meetM M M')
    unfold meetM
    exact mk_byt _
theorem cutR_ok {V M : List Int} {r s : RuleM} (h : cutR V M r = some s) : okR8 s := by
  rcases Bool.eq_false_or_eq_true (meets r.cube.1 r.cube.2 V M) with hm | hm
  · rw [cutR_yes hm] at h
    obtain rfl := Option.some.inj h
    exact meet_ok _ _ _ _ _ _
  · rw [cutR_no hm] at h
    exact absurd h (by simp)
theorem meetL_ok {V M : List Int} {l : List RuleM} : ∀ r ∈ meetL V M l, okR8 r := fun r hr => by
  obtain ⟨a, _, h⟩ := List.mem_filterMap.1 hr
  exact cutR_ok h
theorem meetL_len (V M : List Int) (l : List RuleM) : (meetL V M l).length ≤ l.length := List.length_filterMap_le _ _
theorem meetL_take {V M : List Int} {l : List RuleM} {k : Nat} {r : RuleM} (h : l[k]? = some r) : meetL V M (l.take (k + 1)) = meetL V M (l.take k) ++ (cutR V M r).toList := by
  unfold meetL
  rw [List.take_add_one, h, List.filterMap_append]
  cases hc : cutR V M r <;> simp [hc]
theorem below_stepR {B : Nat} {w wr w' : World} (hb : Below B w wr) (hB : B ≤ wr.heap.size) (h : Below wr.heap.size wr w') : Below B w w' := hb.trans (h.mono hB)
theorem wl_gC12 {P : Program} {ops : Array Oper} {Q : Exit → Act → World → Prop} {o : Oper} {rest : List Oper} {a : Act} {w : World} (x : Operand) (_ : o.op = .load 42 x) (h : wpList P ops Q (o :: rest) a w) : wpList P ops Q (o :: rest) a w := h
theorem wl_gR12 {P : Program} {ops : Array Oper} {Q : Exit → Act → World → Prop} {o : Oper} {rest : List Oper} {a : Act} {w : World} (x : Operand) (_ : o.op = .load 44 x) (h : wpList P ops Q (o :: rest) a w) : wpList P ops Q (o :: rest) a w := h
theorem wl_gSC12 {P : Program} {ops : Array Oper} {Q : Exit → Act → World → Prop} {o : Oper} {rest : List Oper} {a : Act} {w : World} (x y : Operand) (_ : o.op = .store 42 x y) (h : wpList P ops Q (o :: rest) a w) : wpList P ops Q (o :: rest) a w := h
theorem wl_gSR12 {P : Program} {ops : Array Oper} {Q : Exit → Act → World → Prop} {o : Oper} {rest : List Oper} {a : Act} {w : World} (x y : Operand) (_ : o.op = .store 44 x y) (h : wpList P ops Q (o :: rest) a w) : wpList P ops Q (o :: rest) a w := h
theorem wl_gBS12 {P : Program} {ops : Array Oper} {Q : Exit → Act → World → Prop} {o : Oper} {rest : List Oper} {a : Act} {w : World} (x : Operand) (_ : o.op = .buildSlice 27 1 #[(0, x)]) (h : wpList P ops Q (o :: rest) a w) : wpList P ops Q (o :: rest) a w := h
theorem own_setRow12 {w : World} {B : Nat} {e : TypeId} {s : Nat} {v : Value} {n : Nat} {xs : List Value} {q : Nat} (h : w.ownsRow B e s v n xs) (hq : ∀ j, v.ownBlock = some j → j ≠ q) (cs : Array Value) : (w.setRow q cs).ownsRow B e s v n xs := by
  obtain ⟨h1, h2 | ⟨g, cap, cur, rfl, hB, hcur, h3⟩⟩ := h
  · exact ⟨h1, .inl h2⟩
  · exact ⟨h1, .inr ⟨g, cap, cur, rfl, hB, (setRow_other _ _ _ _ (hq g rfl)).trans hcur, h3⟩⟩
/-- A rule's cube is stored. -/
theorem storeCubR_run {w : World} {q : Nat} {r : RuleM} (hr : okR8 r) {V M : List Int} (hV : V.length = 13) (hM : M.length = 13) (hg : w.heap[q]? = some (.cells (ruleV r) 44 (0, 0))) :
    (Instr.storeAt 42 (.pointer (some ⟨q, 1, none⟩)) (.agg (cv V M))).run Try.prog w = .ok () (w.setRow q (ruleV ⟨r.order, (V, M), r.action⟩)) := by
  have hl : (cv V M).toList.length = 26 := by rw [Array.length_toList, cv_size _ _ hV hM]
  have hst := run_storeCells_at Try.prog q 1 44 (cv V M).toList 0 (ruleV r) w hg (by rw [hl, ruleV_size hr]; decide) (fun u hu => (Array.all_eq_true_iff_forall_mem.1 (cv_one _ _)) u (by simpa using hu))
  rw [Nat.add_zero, hl] at hst
  have hl2 : (cv r.cube.1 r.cube.2).toList.length = 26 := by rw [Array.length_toList, cv_size _ _ hr.1.1 hr.2.1]
  have hz : ∀ w, (sizeOf 42).run Try.prog w = .ok 26 w := fun w => by kernel_rfl
  have e : ((ruleV r).toList.take 1 ++ (cv V M).toList ++ (ruleV r).toList.drop (1 + 26)).toArray = ruleV ⟨r.order, (V, M), r.action⟩ := by
    apply Array.ext'
    unfold ruleV
    simp only [Array.toList_append]
    rw [List.take_append_of_le_length (by simp), List.append_assoc, List.drop_append, List.drop_of_length_le (by simp), List.nil_append]
    have e1 : (1 + 26 - #[Value.int .i64 r.order].toList.length) = 26 := rfl
    rw [e1, List.drop_append, List.drop_of_length_le (by omega), hl2]
    simp
  rw [e] at hst
  simp [Instr.storeAt, Instr.sureAddr, storeVar, Sem.run_bind, Value.cells, hst, hz, cv_size _ _ hV hM]
theorem wl_storeCubR {ops : Array Oper} {rest : List Oper} {o : Oper} {a : Act} {w : World} {Q : Exit → Act → World → Prop} (hgd : o.guard = none) (x y : Operand) (ho : o.op = .store 42 x y)
    (q : Nat) (r : RuleM) (hr : okR8 r) (V M : List Int) (hV : V.length = 13) (hM : M.length = 13) (hx : a.eval x = .pointer (some ⟨q, 1, none⟩)) (hy : a.eval y = .agg (cv V M)) (hg : w.heap[q]? = some (.cells (ruleV r) 44 (0, 0))) (w4 : World) (hw4 : w.setRow q (ruleV ⟨r.order, (V, M), r.action⟩) = w4)
    (h : wpList Try.prog ops Q rest (a.put o.dst undef) w4) : wpList Try.prog ops Q (o :: rest) a w := by
  subst hw4
  refine wpList_plain hgd fun K hK => ?_
  unfold Oper.wp execOp
  simp only [ho, hx, hy, Sem.run_bind, Sem.run_pure, Result.andThen_ok, storeCubR_run hr hV hM hg]
  exact hK _ _ h
theorem RulesAt.own {B : Nat} {w : World} {v : Value} {T : List RuleM} (hT : ∀ r ∈ T, okR8 r) (h : w.ownsRow B 44 28 v T.length (gcells ruleV T)) : RulesAt w v T := gsl_of (E := RuleE) h fun c hc => ruleV_size (hT c hc)
set_option maxHeartbeats 16000000 in
theorem clip_any (l : List RuleM) (hl0 : ∀ r ∈ l, okR8 r) (hn1 : l.length ≤ 100000) (vl : Value) (V M : List Int) (hV : Byt V) (hM : Byt M) (w : World) (hl : RulesAt w vl l) :
    Calls Try.prog 45 #[vl, .agg (cv V M)] w fun e w' => (∃ v, e = .returned v ∧ w'.ownsRow w.heap.size 44 28 v (clipT V M l).length (gcells ruleV (clipT V M l))) ∧ Below w.heap.size w w' := by
  have ME : Hid (∀ (r : RuleM) W, okR8 r → Calls Try.prog 59 #[.agg (cv r.cube.1 r.cube.2), .agg (cv V M)] W fun e w' => e = .returned (meetR r.cube.1 r.cube.2 V M) ∧ Below W.heap.size W w') := fun r W hr => meet_any r.cube.1 r.cube.2 V M hr.1 hr.2 hV hM W
  have TR : Hid (∀ (T : List RuleM) v W, (∀ r ∈ T, okR8 r) → T.length ≤ 100000 → RulesAt W v T → Calls Try.prog 60 #[v] W fun e w' => (∃ v, e = .returned v ∧ w'.ownsRow W.heap.size 44 28 v (trimT T).length (gcells ruleV (trimT T))) ∧ Below W.heap.size W w') := fun T v W h1 h2 h3 => trim_any T h1 h2 v W h3
  have hVl := hV.1
  have hMl := hM.1
  obtain ⟨o, cap, rfl, hc1, hc2⟩ := GSl.slice hl
  obtain ⟨n, hn0⟩ : ∃ n, n = l.length := ⟨_, rfl⟩
  have HN : Hid (n = l.length) := hn0
  rw [← hn0] at hl hc1 hn1 ⊢
  have HL : Hid (RulesAt w (.slice o n cap) l) := hl
  have HOK : Hid (∀ r ∈ l, okR8 r) := hl0
  unfold maxLen at hc2
  clear hl hn0 hl0 hV hM
  go_enter Try.func45, Try.ntmps45
  go_wp2_with fail
  go_loopw [5, 12] (fun v i wr => ∃ (k : Nat) (T : List RuleM), k ≤ n ∧ i = .int .i64 (k : Int) ∧ Hid (T = meetL V M (l.take k)) ∧ T.length ≤ k ∧ Hid (wr.ownsRow w.heap.size 44 28 v T.length (gcells ruleV T)) ∧ Hid (wr.heap[w.heap.size]? = some (.cells (cv V M) 42 (0, 0))) ∧ Hid (∀ j, v.ownBlock = some j → j ≠ w.heap.size) ∧ Hid (Below w.heap.size w wr)) (fun _ i _ => n - (intOf i).toNat)
  case atStart => exact ⟨0, [], Nat.zero_le _, rfl, rfl, Nat.le_refl _, World.ownsRow_nil _ _ _ _, heap_new _ _ _ rfl, fun j hj => (by cases hj), (Below.refl _ _).alloc (Nat.le_refl _) _⟩
  case round =>
    obtain ⟨k, T, hk, rfl, HT, hTk, HO, HC, HX, HB⟩ := hrel
    by_cases hlt : k < n
    · have hlt' : (k : Int) < (n : Int) := by omega
      obtain ⟨g, off, cur, ty, fr, r, rfl, hg, hc, hxk⟩ := (GSl.below HL.out HB.out).at k hlt
      have hr : okR8 r := HOK.out r (List.mem_of_getElem? hxk)
      have HR : Hid (okR8 r) := hr
      have hsz := ruleV_size hr
      have K1 : Hid (wr.heap[g]? = some (.cells cur ty fr)) := hg
      have H1 : Hid (∀ j, j < 28 → cur[off + k * 28 + j]? = (ruleV r)[j]?) := hc
      have HNX : Hid (meetL V M (l.take (k + 1)) = T ++ (cutR V M r).toList) := by show _ = _; rw [HT.out]; exact meetL_take hxk
      obtain ⟨w1, hw1⟩ : ∃ w1, w1 = wr.alloc (.cells (ruleV r) 44) := ⟨_, rfl⟩
      have B1 : Hid (Below wr.heap.size wr w1) := by show Below _ _ _; rw [hw1]; exact (Below.refl _ _).alloc (Nat.le_refl _) _
      have X1 : Hid (w1.heap[wr.heap.size]? = some (.cells (ruleV r) 44 (0, 0))) := by show _ = _; rw [hw1]; exact heap_new _ _ _ rfl
      have C1 : Hid (w1.heap[w.heap.size]? = some (.cells (cv V M) 42 (0, 0))) := (B1.out.block _ (Array.getElem?_eq_some_iff.1 HC.out).1).trans HC.out
      have hme := ME.out r w1 hr
      clear hg hc hxk hr
      go_wp2_with (first | ((with_reducible refine wl_gR12 _ rfl ?_); refine wl_loadE (E := RuleE) RuleOk rfl _ rfl g (off + k * 28) rfl cur ty fr (ruleV r) hsz K1.out H1.out ?_) | ((with_reducible refine wl_gSR12 _ _ rfl ?_); refine wl_storeE (E := RuleE) RuleOk rfl _ _ rfl wr.heap.size (ruleV r) (rule_fits HR.out) rfl rfl _ (heap_new _ _ _ rfl) rfl _ (setRow_new _ _ _ _ _ rfl) ?_; refine of_stopT ?_))
      unfold StopT
      rw [← hw1]
      clear hw1
      obtain ⟨q, hq⟩ : ∃ q, q = wr.heap.size := ⟨_, rfl⟩
      rw [← hq] at X1
      rw [← hq]
      have NQ : Hid (w.heap.size < q) := by show _ < _; rw [hq]; exact (Array.getElem?_eq_some_iff.1 HC.out).1
      have OQ : Hid (∀ j, u5.ownBlock = some j → j < q) := fun j hj => by rw [hq]; exact (World.ownsRow.lt HO.out j hj).2
      clear hq
      go_wp2_with (first | ((with_reducible refine wl_gC12 _ rfl ?_); (first | refine wl_loadCw rfl _ rfl q 1 rfl _ _ _ r.cube.1 r.cube.2 HR.out.1.1 HR.out.2.1 X1.out (rule_at HR.out).2.1 ?_ | refine wl_loadCw rfl _ rfl w.heap.size 0 rfl _ _ _ V M hVl hMl C1.out (own_cells _ _) ?_)) | (go_at_call 59; refine hme.mono ?_; rintro e w2 ⟨rfl, hb2⟩; refine of_stopT ?_))
      unfold StopT
      have BR2 : Hid (Below wr.heap.size wr w2) := below_stepR B1.out B1.out.size hb2
      have X2 : Hid (w2.heap[q]? = some (.cells (ruleV r) 44 (0, 0))) := (hb2.block _ (Array.getElem?_eq_some_iff.1 X1.out).1).trans X1.out
      clear hb2 hme
      rcases Bool.eq_false_or_eq_true (meets r.cube.1 r.cube.2 V M) with hm | hm
      · have ECU : Hid (cutR V M r = some ⟨r.order, (meetV r.cube.1 r.cube.2 V M, meetM r.cube.2 M), r.action⟩) := cutR_yes hm
        rw [meetR_yes _ _ _ _ hm]
        have hok := meet_ok r.cube.1 r.cube.2 V M r.order r.action
        obtain ⟨V2, hV2⟩ : ∃ V2, V2 = meetV r.cube.1 r.cube.2 V M := ⟨_, rfl⟩
        obtain ⟨M2, hM2⟩ : ∃ M2, M2 = meetM r.cube.2 M := ⟨_, rfl⟩
        rw [← hV2, ← hM2] at ECU hok
        rw [← hV2, ← hM2]
        have HOK2 : Hid (okR8 ⟨r.order, (V2, M2), r.action⟩) := hok
        have lv : V2.length = 13 := hok.1.1
        have lm : M2.length = 13 := hok.2.1
        clear hV2 hM2 hm hok
        obtain ⟨w3, hw3⟩ : ∃ w3, w3 = w2.alloc (.cells (cv V2 M2) 42) := ⟨_, rfl⟩
        have B3 : Hid (Below w2.heap.size w2 w3) := by show Below _ _ _; rw [hw3]; exact (Below.refl _ _).alloc (Nat.le_refl _) _
        have Y3 : Hid (w3.heap[w2.heap.size]? = some (.cells (cv V2 M2) 42 (0, 0))) := by show _ = _; rw [hw3]; exact heap_new _ _ _ rfl
        have X3 : Hid (w3.heap[q]? = some (.cells (ruleV r) 44 (0, 0))) := (B3.out.block _ (Array.getElem?_eq_some_iff.1 X2.out).1).trans X2.out
        go_wp2_with (first | ((with_reducible refine wl_gSC12 _ _ rfl ?_); refine wl_storeC rfl _ _ rfl w2.heap.size V2 M2 rfl rfl _ (heap_new _ _ _ rfl) rfl lv lm _ (setRow_new _ _ _ _ _ rfl) ?_; refine of_stopT ?_))
        unfold StopT
        rw [← hw3]
        clear hw3
        obtain ⟨w4, hw4⟩ : ∃ w4, w3.setRow q (ruleV ⟨r.order, (V2, M2), r.action⟩) = w4 := ⟨_, rfl⟩
        have X4 : Hid (w4.heap[q]? = some (.cells (ruleV ⟨r.order, (V2, M2), r.action⟩) 44 (0, 0))) := by show _ = _; rw [← hw4]; exact setRow_heap _ _ _ _ _ _ X3.out
        have BR3 : Hid (Below wr.heap.size wr w3) := below_stepR BR2.out BR2.out.size B3.out
        have HW4 : Hid (_ = w4) := hw4
        have BW4 : Hid (Below w.heap.size w w4) := by show Below _ _ _; rw [← hw4]; exact below_setRow (below_stepR HB.out HB.out.size BR3.out) (Nat.le_of_lt NQ.out) _
        have C4 : Hid (w4.heap[w.heap.size]? = some (.cells (cv V M) 42 (0, 0))) := by show _ = _; rw [← hw4]; exact (setRow_other _ _ _ _ (by have := NQ.out; omega)).trans ((BR3.out.block _ (Array.getElem?_eq_some_iff.1 HC.out).1).trans HC.out)
        have O4 : Hid (w4.ownsRow w.heap.size 44 28 u5 T.length (gcells ruleV T)) := by
          show World.ownsRow _ _ _ _ _ _ _
          have h1 := gown_below HO.out BR3.out
          rw [← hw4]
          exact own_setRow12 h1 (fun j hj => by have := OQ.out j hj; omega) _
        clear hw4
        obtain ⟨r2, hr2⟩ : ∃ r2 : RuleM, r2 = ⟨r.order, (V2, M2), r.action⟩ := ⟨_, rfl⟩
        rw [← hr2] at X4 ECU HOK2
        have hs2 := ruleV_size HOK2.out
        have HW4' : Hid (w3.setRow q (ruleV ⟨r.order, (V2, M2), r.action⟩) = w4) := HW4.out
        clear hr2 HW4
        have O5 : Hid ((w4.alloc (.cells (ruleV r2) 44)).ownsRow w.heap.size 44 28 u5 T.length (gcells ruleV T)) := O4.out.alloc _
        have BW5 : Hid (Below w.heap.size w (w4.alloc (.cells (ruleV r2) 44))) := BW4.out.alloc BW4.out.size _
        go_wp2_with (first | ((with_reducible refine wl_gC12 _ rfl ?_); refine wl_loadCw rfl _ rfl w2.heap.size 0 rfl _ _ _ V2 M2 lv lm Y3.out (own_cells _ _) ?_) | ((with_reducible refine wl_gSC12 _ _ rfl ?_); refine wl_storeCubR rfl _ _ rfl q r HR.out V2 M2 lv lm rfl rfl X3.out w4 HW4'.out ?_) | ((with_reducible refine wl_gR12 _ rfl ?_); refine wl_loadE (E := RuleE) RuleOk rfl _ rfl q 0 rfl _ _ _ (ruleV r2) hs2 X4.out (own_cells _ _) ?_) | ((with_reducible refine wl_gBS12 _ rfl ?_); refine wl_buildE (E := RuleE) RuleOk rfl _ rfl (ruleV r2) hs2 rfl ?_) | (at_builtin; refine of_stopT ?_))
        unfold StopT
        refine wl_appendE (E := RuleE) RuleOk ruleV rfl _ _ rfl w.heap.size u5 T r2 (rule_fits HOK2.out) rfl O5.out w4.heap.size 1 rfl (heap_new _ _ _ rfl) (by omega) (by have := BW4.out.size; simp; omega) ?_
        intro v' w6 hown6 hgr6 hat6
        have B6 : Hid (Below w.heap.size w w6) := BW5.out.trans ((Below.refl _ _).grown hgr6 BW5.out.size fun k hk => (O5.out.lt k hk).1)
        have O6 : Hid (w6.ownsRow w.heap.size 44 28 v' (T ++ [r2]).length (gcells ruleV (T ++ [r2]))) := hown6
        have C6 : Hid (w6.heap[w.heap.size]? = some (.cells (cv V M) 42 (0, 0))) := by
          have h1 := heap_past w4 (.cells (ruleV r2) 44) _ _ C4.out
          have h2 := (Array.getElem?_eq_some_iff.1 h1).1
          exact (hgr6.block _ h2 (fun e => HX.out _ e.symm rfl)).trans h1
        have X6 : Hid (∀ j, v'.ownBlock = some j → j ≠ w.heap.size) := by
          intro j hj
          rcases hat6 with e | e
          · rw [e] at hj; exact HX.out j hj
          · rw [e] at hj
            simp only [Option.some.injEq] at hj
            have h3 := BW5.out.size
            have h4 := (Array.getElem?_eq_some_iff.1 C4.out).1
            simp at hj
            omega
        have HT6 : Hid (T ++ [r2] = meetL V M (l.take (k + 1))) := by show _ = _; rw [HNX.out, ECU.out]; rfl
        clear hown6 hgr6 hat6
        simp only [Act.put, List.setIfInBounds_toArray, List.set_cons_succ, List.set_cons_zero]
        go_wp2_with fail
        go_roundw
        case rel => exact ⟨k + 1, T ++ [r2], by omega, by go_num, HT6, by simp; omega, O6, C6, X6, B6⟩
        case measure => simp [intOf]; omega
      · have ECU : Hid (cutR V M r = none) := cutR_no hm
        rw [meetR_no _ _ _ _ hm]
        clear hm
        have BW2 : Hid (Below w.heap.size w w2) := below_stepR HB.out HB.out.size BR2.out
        have C2 : Hid (w2.heap[w.heap.size]? = some (.cells (cv V M) 42 (0, 0))) := (BR2.out.block _ (Array.getElem?_eq_some_iff.1 HC.out).1).trans HC.out
        have O2 : Hid (w2.ownsRow w.heap.size 44 28 u5 T.length (gcells ruleV T)) := gown_below HO.out BR2.out
        have HT2 : Hid (T = meetL V M (l.take (k + 1))) := by show _ = _; rw [HNX.out, ECU.out]; simp
        go_wp2_with (first | ((with_reducible refine wl_gSC12 _ _ rfl ?_); refine wl_storeC rfl _ _ rfl w2.heap.size Z Z rfl rfl _ (heap_new _ _ _ rfl) rfl Z_byt.1 Z_byt.1 _ (setRow_new _ _ _ _ _ rfl) ?_))
        go_roundw
        case rel => exact ⟨k + 1, T, by omega, by go_num, HT2, by omega, O2.out.alloc _, heap_past _ _ _ _ C2.out, HX, BW2.out.alloc BW2.out.size _⟩
        case measure => simp [intOf]; omega
    · have hlt' : ¬ (k : Int) < (n : Int) := by omega
      have HE : Hid (T = meetL V M l) := by
        have e := HN.out
        show _ = _
        rw [HT.out, List.take_of_length_le (by omega)]
      have OKT : Hid (∀ r ∈ T, okR8 r) := by intro r hr; rw [HE.out] at hr; exact meetL_ok r hr
      have htr := TR.out T u5 wr OKT.out (by omega) (RulesAt.own OKT.out HO.out)
      go_wp2_with (go_at_call 60; refine htr.mono ?_; rintro e w2 ⟨⟨v2, rfl, hv2⟩, hb2⟩; refine of_stopT ?_)
      unfold StopT
      have O2 : Hid (w2.ownsRow wr.heap.size 44 28 v2 (trimT T).length (gcells ruleV (trimT T))) := hv2
      have B2 : Hid (Below w.heap.size w w2) := below_stepR HB.out HB.out.size hb2
      have SZ : Hid (w.heap.size ≤ wr.heap.size) := HB.out.size
      clear hv2 hb2 htr
      go_wp2_with fail
      go_ret
      refine ⟨⟨_, rfl, ?_⟩, B2.out⟩
      have h9 := gown_base O2.out SZ.out
      rw [HE.out] at h9
      exact h9
end Go.Proofs.Ytpbinkmeldkehaa
