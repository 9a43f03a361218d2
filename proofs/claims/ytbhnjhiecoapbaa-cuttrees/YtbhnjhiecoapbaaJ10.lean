import Derived.Test.YtbhnjhiecoapbaaJ7
import Derived.Test.YtbhnjhiecoapbaaJ9
import Derived.Test.YtbhnjhiecoapbaaJ6
import Derived.WalkMore
namespace Go.Proofs.Ytbhnjhiecoapbaa
open Go Go.RowKit
set_option maxRecDepth 20000

def withinR (r a : RuleM) : Bool := within r.cube.1 r.cube.2 a.cube.1 a.cube.2
/-- Rules that lie within one that was kept are left out. -/
def trimO {α : Type} (q : α → α → Bool) : List α → List α → List α
  | out, [] => out
  | out, x :: l => if out.any (q x) then trimO q out l else trimO q (out ++ [x]) l
def trimT (l : List RuleM) : List RuleM := trimO withinR [] l
theorem trimO_take {α : Type} (q : α → α → Bool) (l : List α) (k : Nat) (x : α) (h : l[k]? = some x) : ∀ out, trimO q out (l.take (k + 1)) = if (trimO q out (l.take k)).any (q x) then trimO q out (l.take k) else trimO q out (l.take k) ++ [x] := by
  obtain ⟨hk, rfl⟩ := List.getElem?_eq_some_iff.1 h
  rw [List.take_succ_eq_append_getElem hk]
  generalize l.take k = t
  generalize l[k] = x
  induction t with
  | nil => intro out; simp [trimO]
  | cons y t ih =>
    intro out
    rw [List.cons_append, trimO, trimO]
    split
    · exact ih out
    · exact ih _
theorem trimO_sub {α : Type} (q : α → α → Bool) : ∀ (l out : List α) (x : α), x ∈ trimO q out l → x ∈ out ∨ x ∈ l
  | [], out, x, h => .inl h
  | y :: l, out, x, h => by
    rw [trimO] at h
    split at h
    · rcases trimO_sub q l out x h with h | h
      · exact .inl h
      · exact .inr (by simp [h])
    · rcases trimO_sub q l (out ++ [y]) x h with h | h
      · rcases List.mem_append.1 h with h | h
        · exact .inl h
        · exact .inr (by simp at h; simp [h])
      · exact .inr (by simp [h])
theorem trimO_len {α : Type} (q : α → α → Bool) : ∀ (l out : List α), (trimO q out l).length ≤ out.length + l.length
  | [], out => by simp [trimO]
  | y :: l, out => by
    rw [trimO]
    split
    · have := trimO_len q l out; simp; omega
    · have := trimO_len q l (out ++ [y]); simp at this ⊢; omega
theorem any_take_no {α : Type} {p : α → Bool} {l : List α} {k : Nat} {x : α} (h : (l.take k).any p = false) (hx : l[k]? = some x) (hp : p x = false) : (l.take (k + 1)).any p = false := by
  rw [List.take_add_one, hx, List.any_append, h]
  simp [hp]
theorem any_take_yes {α : Type} {p : α → Bool} {l : List α} {k : Nat} {x : α} (hx : l[k]? = some x) (hp : p x = true) : l.any p = true := List.any_eq_true.2 ⟨x, List.mem_of_getElem? hx, hp⟩

set_option maxHeartbeats 8000000 in
set_option maxRecDepth 100000 in
theorem trim_any (l : List RuleM) (hl0 : ∀ r ∈ l, okR8 r) (hn1 : l.length ≤ 100000) (vl : Value) (w : World) (hl : RulesAt w vl l) :
    Calls Try.prog 24 #[vl] w fun e w' => (∃ v, e = .returned v ∧ w'.ownsRow w.heap.size 30 28 v (trimT l).length (gcells ruleV (trimT l))) ∧ Below w.heap.size w w' := by
  have WI : Hid (∀ (V M V' M' : List Int) W, Byt V → Byt M → Byt V' → Byt M' → Calls Try.prog 42 #[.agg (cv V M), .agg (cv V' M')] W fun e w' => e = .returned (.bool (within V M V' M')) ∧ Below W.heap.size W w') := fun V M V' M' W h1 h2 h3 h4 => within_any V M V' M' h1 h2 h3 h4 W
  obtain ⟨o, cap, rfl, hc1, hc2⟩ := GSl.slice hl
  obtain ⟨n, hn0⟩ : ∃ n, n = l.length := ⟨_, rfl⟩
  have HN : Hid (n = l.length) := hn0
  rw [← hn0] at hl hc1 hn1 ⊢
  have HL : Hid (RulesAt w (.slice o n cap) l) := hl
  have HOK : Hid (∀ r ∈ l, okR8 r) := hl0
  unfold maxLen at hc2
  clear hl hn0 hl0
  go_enter Try.func24, Try.ntmps24
  go_wp2_with fail
  go_step3
  go_wp2_with fail
  go_step3
  go_wp2_with fail
  go_loopw [3, 10] (fun v i wr => ∃ (k : Nat) (T : List RuleM), k ≤ n ∧ i = .int .i64 (k : Int) ∧ Hid (T = trimO withinR [] (l.take k)) ∧ T.length ≤ k ∧ Hid (∀ r ∈ T, okR8 r) ∧ wr.ownsRow w.heap.size 30 28 v T.length (gcells ruleV T) ∧ Below w.heap.size w wr) (fun _ i _ => n - (intOf i).toNat)
  case atStart => exact ⟨0, [], Nat.zero_le _, rfl, rfl, Nat.le_refl _, fun r hr => by simp at hr, World.ownsRow_nil _ _ _ _, Below.refl _ _⟩
  case round =>
    obtain ⟨k, T, hk, rfl, HT, hTk, HTO, hown, hb⟩ := hrel
    have HO : Hid (wr.ownsRow w.heap.size 30 28 u3 T.length (gcells ruleV T)) := hown
    have HB : Hid (Below w.heap.size w wr) := hb
    obtain ⟨oT, cT, rfl⟩ := gown_slice hown
    clear hown hb
    by_cases hlt : k < n
    · have hlt' : (k : Int) < (n : Int) := by omega
      obtain ⟨g, off, cur, ty, fr, r, rfl, hg, hc, hxk⟩ := (GSl.below HL.out HB.out).at k hlt
      have hr : okR8 r := HOK.out r (List.mem_of_getElem? hxk)
      have HR : Hid (okR8 r) := hr
      have hsz := ruleV_size hr
      have K1 : Hid (wr.heap[g]? = some (.cells cur ty fr)) := hg
      have H1 : Hid (∀ j, j < 28 → cur[off + k * 28 + j]? = (ruleV r)[j]?) := hc
      have KN : Hid ((wr.alloc (.cells (ruleV r) 30)).heap[wr.heap.size]? = some (.cells (ruleV r) 30 (0, 0))) := heap_new _ _ _ rfl
      have BN : Hid (Below w.heap.size w (wr.alloc (.cells (ruleV r) 30))) := HB.out.alloc HB.out.size _
      have ON : Hid ((wr.alloc (.cells (ruleV r) 30)).ownsRow w.heap.size 30 28 (.slice oT T.length cT) T.length (gcells ruleV T)) := HO.out.alloc _
      have HNX : Hid (trimO withinR [] (l.take (k + 1)) = if T.any (withinR r) then T else T ++ [r]) := by
        show _ = _
        rw [HT.out]
        exact trimO_take withinR l k r hxk []
      clear hg hc hxk hr
      obtain ⟨nT, hnT⟩ : ∃ nT, nT = T.length := ⟨_, rfl⟩
      have HNT : Hid (nT = T.length) := hnT
      rw [← hnT] at hTk HO ON ⊢
      have hN : wr.heap.size < (wr.alloc (.cells (ruleV r) 30)).heap.size := by simp
      clear hnT
      go_wp2_with (first
        | (refine wl_loadE (E := RuleE) RuleOk rfl _ rfl g (off + k * 28) rfl cur ty fr (ruleV r) hsz K1.out H1.out ?_)
        | (refine wl_storeE (E := RuleE) RuleOk rfl _ _ rfl wr.heap.size (ruleV r) (rule_fits HR.out) rfl rfl _ (heap_new _ _ _ rfl) rfl _ (setRow_new _ _ _ _ _ rfl) ?_))
      obtain ⟨wo, hwo⟩ : ∃ wo : World, wo = wr.alloc (.cells (ruleV r) 30) := ⟨_, rfl⟩
      obtain ⟨gx, hgx⟩ : ∃ gx, gx = wr.heap.size := ⟨_, rfl⟩
      rw [← hwo, ← hgx] at KN
      rw [← hwo] at BN ON ⊢
      rw [← hgx]
      clear hwo hgx HO HB hN K1
      go_loopw [16] (fun i w2 => ∃ j : Nat, j ≤ nT ∧ i = .int .i64 (j : Int) ∧ Hid ((T.take j).any (withinR r) = false) ∧ w2.heap[gx]? = some (.cells (ruleV r) 30 (0, 0)) ∧ w2.ownsRow w.heap.size 30 28 (.slice oT nT cT) nT (gcells ruleV T) ∧ Below w.heap.size w w2) (fun i _ => nT - (intOf i).toNat)
      case atStart => exact ⟨0, Nat.zero_le _, rfl, rfl, KN.out, ON.out, BN.out⟩
      case round =>
        clear KN ON BN
        obtain ⟨j, hj, rfl, HJ, hkn, hon, hbn⟩ := hrel
        have KX : Hid (wr.heap[gx]? = some (.cells (ruleV r) 30 (0, 0))) := hkn
        have OX : Hid (wr.ownsRow w.heap.size 30 28 (.slice oT nT cT) nT (gcells ruleV T)) := hon
        have BX : Hid (Below w.heap.size w wr) := hbn
        clear hkn hon hbn
        by_cases hjt : j < nT
        · have hjt' : (j : Int) < (nT : Int) := by omega
          have hsl : RulesAt wr (.slice oT nT cT) T := by
            have := OX.out
            rw [HNT.out] at this ⊢
            exact gsl_of (E := RuleE) this fun c hc => ruleV_size (HTO.out c hc)
          obtain ⟨g2, off2, cur2, ty2, fr2, a, rfl, hg2, hc2', haj⟩ := hsl.at j hjt
          have ha : okR8 a := HTO.out a (List.mem_of_getElem? haj)
          have HAO : Hid (okR8 a) := ha
          have hsa := ruleV_size ha
          have K2 : Hid (wr.heap[g2]? = some (.cells cur2 ty2 fr2)) := hg2
          have H2 : Hid (∀ q, q < 28 → cur2[off2 + j * 28 + q]? = (ruleV a)[q]?) := hc2'
          have HAJ : Hid (T[j]? = some a) := haj
          have KA : Hid ((wr.alloc (.cells (ruleV a) 30)).heap[wr.heap.size]? = some (.cells (ruleV a) 30 (0, 0))) := heap_new _ _ _ rfl
          have KY : Hid ((wr.alloc (.cells (ruleV a) 30)).heap[gx]? = some (.cells (ruleV r) 30 (0, 0))) := heap_past _ _ _ _ KX.out
          have BY : Hid (Below w.heap.size w (wr.alloc (.cells (ruleV a) 30))) := BX.out.alloc BX.out.size _
          have OY : Hid ((wr.alloc (.cells (ruleV a) 30)).ownsRow w.heap.size 30 28 (.slice (some ⟨g2, off2, none⟩) nT cT) nT (gcells ruleV T)) := OX.out.alloc _
          clear hsl hg2 hc2' haj ha
          go_wp2_with (first
            | (refine wl_loadE (E := RuleE) RuleOk rfl _ rfl g2 (off2 + j * 28) rfl cur2 ty2 fr2 (ruleV a) hsa K2.out H2.out ?_)
            | (refine wl_storeE (E := RuleE) RuleOk rfl _ _ rfl wr.heap.size (ruleV a) (rule_fits HAO.out) rfl rfl _ (heap_new _ _ _ rfl) rfl _ (setRow_new _ _ _ _ _ rfl) ?_)
            | (refine wl_loadCw rfl _ rfl wr.heap.size 1 rfl _ _ _ a.cube.1 a.cube.2 HAO.out.1.1 HAO.out.2.1 KA.out (rule_at HAO.out).2.1 ?_)
            | (refine wl_loadCw rfl _ rfl gx 1 rfl _ _ _ r.cube.1 r.cube.2 HR.out.1.1 HR.out.2.1 KY.out (rule_at HR.out).2.1 ?_))
          refine (WI.out _ _ _ _ _ HR.out.1 HR.out.2 HAO.out.1 HAO.out.2).mono ?_
          rintro e w1 ⟨rfl, hb1⟩
          have BZ : Hid (Below w.heap.size w w1) := BY.out.trans (hb1.mono BY.out.size)
          have KZ : Hid (w1.heap[gx]? = some (.cells (ruleV r) 30 (0, 0))) := (hb1.block _ (Array.getElem?_eq_some_iff.1 KY.out).1).trans KY.out
          have OZ : Hid (w1.ownsRow w.heap.size 30 28 (.slice (some ⟨g2, off2, none⟩) nT cT) nT (gcells ruleV T)) := gown_below OY.out hb1
          clear hb1
          cases hwi : within r.cube.1 r.cube.2 a.cube.1 a.cube.2 with
          | true =>
            have HE : Hid (T = trimO withinR [] (l.take (k + 1))) := by
              show _ = _
              rw [HNX.out, if_pos (any_take_yes HAJ.out hwi)]
            clear hwi
            go_wp2_with fail
            go_roundw
            case rel => exact ⟨k + 1, T, by omega, by go_num, HE.out, by have := HNT.out; omega, HTO, by have := OZ.out; rw [HNT.out] at this ⊢; exact this, BZ.out⟩
            case measure => simp [intOf]; omega
          | false =>
            have HJ2 : Hid ((T.take (j + 1)).any (withinR r) = false) := any_take_no HJ.out HAJ.out hwi
            clear hwi
            go_wp2_with fail
            go_roundw
            case rel => exact ⟨j + 1, by omega, by go_num, HJ2, KZ.out, OZ.out, BZ.out⟩
            case measure => simp [intOf]; omega
        · have hjt' : ¬ (j : Int) < (nT : Int) := by omega
          have HE : Hid (T ++ [r] = trimO withinR [] (l.take (k + 1))) := by
            have h1 := HNT.out
            have h2 := HJ.out
            rw [List.take_of_length_le (by omega)] at h2
            show _ = _
            rw [HNX.out, h2]
            rfl
          have ON2 : Hid ((wr.alloc (.cells (ruleV r) 30)).ownsRow w.heap.size 30 28 (.slice oT nT cT) T.length (gcells ruleV T)) := by
            have := OX.out.alloc (.cells (ruleV r) 30)
            rw [HNT.out] at this ⊢; exact this
          go_wp2_with (first
            | (refine wl_loadE (E := RuleE) RuleOk rfl _ rfl gx 0 rfl _ _ _ (ruleV r) hsz KX.out (own_cells _ _) ?_)
            | (refine wl_buildE (E := RuleE) RuleOk rfl _ rfl (ruleV r) hsz rfl ?_)
            | (at_builtin; refine of_stopT ?_))
          unfold StopT
          refine wl_appendE (E := RuleE) RuleOk ruleV rfl _ _ rfl w.heap.size (.slice oT nT cT) T r (rule_fits HR.out) rfl ON2.out wr.heap.size 1 rfl (heap_new _ _ _ rfl) (by have := HNT.out; omega) (by have := BX.out.size; simp; omega) ?_
          intro v' w3 hown3 hgr3 _
          have B3 : Hid (Below w.heap.size w w3) := (BX.out.alloc BX.out.size _).trans ((Below.refl _ _).grown hgr3 (BX.out.alloc BX.out.size _).size fun k hk => (ON2.out.lt k hk).1)
          have O3 : Hid (w3.ownsRow w.heap.size 30 28 v' (T ++ [r]).length (gcells ruleV (T ++ [r]))) := hown3
          clear hown3 hgr3
          simp only [Act.put, List.setIfInBounds_toArray, List.set_cons_succ, List.set_cons_zero]
          go_wp2_with fail
          go_roundw
          case rel => exact ⟨k + 1, T ++ [r], by omega, by go_num, HE.out, by have := HNT.out; simp; omega, fun q hq => by
              rcases List.mem_append.1 hq with hq | hq
              · exact HTO.out q hq
              · obtain rfl : q = r := by simpa using hq
                exact HR.out, O3.out, B3.out⟩
          case measure => simp [intOf]; omega
    · have hlt' : ¬ (k : Int) < (n : Int) := by omega
      have HE : Hid (T = trimT l) := by
        have e := HN.out
        show _ = _
        rw [HT.out, List.take_of_length_le (by omega)]
        rfl
      go_wp2_with fail
      go_ret
      exact ⟨⟨_, rfl, by rw [← HE.out]; exact HO.out⟩, HB.out⟩
end Go.Proofs.Ytbhnjhiecoapbaa
namespace Go.Proofs.Ytbhnjhiecoapbaa
open Go Go.RowKit
set_option maxRecDepth 20000

theorem wl_zeroC {ops : Array Oper} {rest : List Oper} {o : Oper} {a : Act} {w : World} {Q : Exit → Act → World → Prop} (hg : o.guard = none) (ho : o.op = .build 26 #[])
    (h : wpList Try.prog ops Q rest (a.put o.dst (.agg (cv Z Z))) w) : wpList Try.prog ops Q (o :: rest) a w :=
  wpList_plain hg fun _ hK => by
    unfold Oper.wp execOp
    have e : ((#[] : Array (Nat × Operand)).map (fun (i, x) => (i, a.eval x))) = #[] := by simp
    have hb : (Instr.build 26 #[]).run Try.prog w = .ok (.agg (cv Z Z)) w := by
      rw [← zeroC_eq]; kernel_rfl
    simp only [ho, Sem.run_bind]
    rw [e, hb]
    exact hK _ _ h

set_option maxHeartbeats 2000000 in
theorem rcanon_any (V M : List Int) (hV : Byt V) (hM : Byt M) (w : World) :
    Calls Try.prog 51 #[.agg (cv V M)] w fun e w' => e = .returned (.agg (cv (can V M) M)) ∧ Below w.heap.size w w' := by
  have hVl := hV.1
  have hMl := hM.1
  have hzl := Z_byt.1
  obtain ⟨fV, hfV⟩ : ∃ f : Nat → Bool, f = fun i => bt V i && bt M i := ⟨_, rfl⟩
  obtain ⟨fM, hfM⟩ : ∃ f : Nat → Bool, f = bt M := ⟨_, rfl⟩
  have CA : Hid (∀ k : Nat, k < 104 → ∀ W, Calls Try.prog 30 #[.agg (cv V M), .int .i64 (k : Int)] W fun e w' => e = .returned (.int .i64 (atI V M k)) ∧ Below W.heap.size W w') := fun k hk => at_any V M hV hM k hk
  have CS : Hid (∀ k : Nat, k < 104 → ∀ W, Calls Try.prog 50 #[.agg (cv (upto k fV) (upto k fM)), .int .i64 (k : Int), .int .i64 (atI V M k)] W fun e w' => e = .returned (.agg (cv (upto (k + 1) fV) (upto (k + 1) fM))) ∧ Below W.heap.size W w') := fun k hk => by
    have := rset_any _ _ (upto_byt k fV) (upto_byt k fM) k hk (atI V M k)
    rwa [at_ne2, at_eq1, show (bt V k && bt M k) = fV k by rw [hfV], show bt M k = fM k by rw [hfM], upto_succ, upto_succ] at this
  have HE : Hid (upto 104 fV = can V M ∧ upto 104 fM = M) := by
    show _ ∧ _
    rw [upto_all, upto_all, hfV, hfM]; exact ⟨rfl, mk_of M hM⟩
  clear hV hM hfV hfM
  have lV : ∀ k, (upto k fV).length = 13 := fun k => (upto_byt k fV).1
  have lM : ∀ k, (upto k fM).length = 13 := fun k => (upto_byt k fM).1
  go_enter Try.func51, Try.ntmps51
  go_wp2_with (first
    | (refine wl_zeroC rfl rfl ?_)
    | (refine wl_storeC rfl _ _ rfl (w.heap.size + 2) Z Z rfl rfl _ (heap_new _ _ _ (by simp)) rfl hzl hzl _ (setRow_new _ _ _ _ _ (by simp)) ?_))
  go_loopw [4] (fun i wr => ∃ k : Nat, k ≤ 104 ∧ i = .int .i64 k ∧ wr.heap[w.heap.size]? = some (.cells (cv V M) 26 (0, 0)) ∧ wr.heap[w.heap.size + 1]? = some (.cells zeroC 26 (0, 0)) ∧ wr.heap[w.heap.size + 2]? = some (.cells (cv (upto k fV) (upto k fM)) 26 (0, 0)) ∧ Below w.heap.size w wr) (fun i _ => 104 - (intOf i).toNat)
  case atStart => exact ⟨0, Nat.zero_le _, rfl, heap_past _ _ _ _ (heap_past _ _ _ _ (heap_new _ _ _ rfl)), heap_past _ _ _ _ (heap_new _ _ _ (by simp)), by rw [upto_zero, upto_zero]; exact heap_new _ _ _ (by simp), (((Below.refl _ _).alloc (Nat.le_refl _) _).alloc (by simp) _).alloc (by simp; omega) _⟩
  case round =>
    obtain ⟨k, hk, rfl, g0, g1, g2, hb⟩ := hrel
    have l1 := lV k
    have l2 := lM k
    have l3 := lV (k + 1)
    have l4 := lM (k + 1)
    by_cases hlt : k < 104
    · have C1 : Hid (∀ W, Calls Try.prog 30 #[.agg (cv V M), .int .i64 (k : Int)] W fun e w' => e = .returned (.int .i64 (atI V M k)) ∧ Below W.heap.size W w') := CA.out k hlt
      have C2 : Hid (∀ W, Calls Try.prog 50 #[.agg (cv (upto k fV) (upto k fM)), .int .i64 (k : Int), .int .i64 (atI V M k)] W fun e w' => e = .returned (.agg (cv (upto (k + 1) fV) (upto (k + 1) fM))) ∧ Below W.heap.size W w') := CS.out k hlt
      go_wp2_with fail
      have ne1 := Later.ne wr
      refine wp_region_latertail 6 (by kernel_rfl) (by kernel_rfl) ?_
      simp only [List.take_succ_cons, List.take_zero, List.drop_succ_cons, List.drop_zero]
      refine qlC rfl _ rfl (w.heap.size + 2) rfl (upto k fV) (upto k fM) g2 l1 l2 ?_
      simp only [Act.put, List.setIfInBounds_toArray, List.set_cons_succ, List.set_cons_zero]
      go_big_quiet_step (fail)
      refine qlC rfl _ rfl w.heap.size rfl V M g0 hVl hMl ?_
      simp only [Act.put, List.setIfInBounds_toArray, List.set_cons_succ, List.set_cons_zero]
      go_big_quiet_step (fail)
      go_big_quiet_want; go_big_quiet_op
      refine ⟨_, fun u => Calls.later_of (C1.out u.world), ?_⟩
      go_big_quiet_on
      go_big_quiet_want; go_big_quiet_op
      refine ⟨_, fun u => Calls.later_of (C2.out u.world), ?_⟩
      go_big_quiet_on
      refine wpQuiet_nil ?_
      rintro w' ⟨u, rfl⟩
      have k0 := later_block g0 _ ⟨u, rfl⟩
      have k1 := later_block g1 _ ⟨u, rfl⟩
      have k2 := later_block g2 _ ⟨u, rfl⟩
      have hb2 := hb.trans (u.below.mono hb.size)
      clear g0 g1 g2 hb ne1 C1 C2
      go_wp2_with (first
        | (refine wl_storeC rfl _ _ rfl (w.heap.size + 2) (upto (k + 1) fV) (upto (k + 1) fM) rfl rfl _ k2 (cv_size _ _ l1 l2) l3 l4 _ rfl ?_))
      go_roundw
      case rel =>
        exact ⟨k + 1, by omega, by go_num, (setRow_other _ _ _ _ (by omega)).trans k0, (setRow_other _ _ _ _ (by omega)).trans k1, setRow_heap _ _ _ _ _ _ k2, below_setRow hb2 (by omega) _⟩
      case measure => simp [intOf]; omega
    · obtain rfl : k = 104 := by omega
      rw [HE.out.1, HE.out.2] at g2
      have hCl := (can_byt V M).1
      go_wp2_with (first
        | (refine wl_loadC rfl _ rfl (w.heap.size + 2) rfl (can V M) M g2 hCl hMl ?_)
        | (refine wl_storeC rfl _ _ rfl (w.heap.size + 1) (can V M) M rfl rfl _ g1 rfl hCl hMl _ rfl ?_))
      refine retC (p := 2) rfl rfl (w.heap.size + 1) rfl (can V M) M hCl hMl (setRow_heap _ _ _ _ _ _ g1) ⟨rfl, ?_⟩
      exact below_setRow hb (by omega) _

end Go.Proofs.Ytbhnjhiecoapbaa
namespace Go.Proofs.Ytbhnjhiecoapbaa
open Go
set_option maxRecDepth 20000

/-- A number in a text, and where it begins. -/
structure Fig where
  n : Int
  pos : Int
/-- A word and its numbers. -/
structure Cla where
  word : List UInt8
  pos : Int
  nums : List Fig
  slash : Bool
  dash : Bool
/-- A line. -/
structure Raw where
  pos : Int
  dflt : Bool
  prio : Fig
  clauses : List Cla
  drop : Bool
  port : Fig

def wSrc : List UInt8 := [115, 114, 99]
def wDst : List UInt8 := [100, 115, 116]
def wSport : List UInt8 := [115, 112, 111, 114, 116]
def wDport : List UInt8 := [100, 112, 111, 114, 116]
def wProto : List UInt8 := [112, 114, 111, 116, 111]
def wDefault : List UInt8 := [100, 101, 102, 97, 117, 108, 116]
def wDrop : List UInt8 := [100, 114, 111, 112]
def wPort : List UInt8 := [112, 111, 114, 116]
def isAddrW (w : List UInt8) : Bool := w == wSrc || w == wDst
def isPortW (w : List UInt8) : Bool := w == wSport || w == wDport

abbrev Res (α : Type) := Except (Nat × Nat) α

/-- Where the token at hand begins, or the text ends. -/
def posOf (E : Nat) : List Tok → Nat
  | [] => E
  | t :: _ => t.pos
/-- A token of a kind. -/
def takeK (E k : Nat) : List Tok → Res (Tok × List Tok)
  | [] => .error (8, E)
  | t :: T => if t.kind = k then .ok (t, T) else .error (8, t.pos)
/-- A number. -/
def takeF (E : Nat) (T : List Tok) : Res (Fig × List Tok) := (takeK E 2 T).map fun x => (⟨(x.1.num : Int), (x.1.pos : Int)⟩, x.2)
/-- So many numbers more, with a Dot ahead of each. -/
def takeD (E : Nat) : Nat → List Tok → Res (List Fig × List Tok)
  | 0, T => .ok ([], T)
  | n + 1, T => (takeK E 3 T).bind fun x => (takeF E x.2).bind fun y => (takeD E n y.2).map fun z => (y.1 :: z.1, z.2)
/-- Perhaps a sign and a number. -/
def takeO (E k : Nat) : List Tok → Res (Option Fig × List Tok)
  | [] => .ok (none, [])
  | t :: T => if t.kind = k then (takeF E T).map fun y => (some y.1, y.2) else .ok (none, t :: T)
/-- A clause, its word being the token at hand. -/
def takeC (E : Nat) (had : List Cla) (t : Tok) (T : List Tok) : Res (Cla × List Tok) :=
  if !(isAddrW t.text) && !(isPortW t.text) && !(t.text == wProto) then .error (8, t.pos)
  else if had.any (fun c => c.word == t.text) then .error (9, t.pos)
  else (takeF E T).bind fun x =>
    if isAddrW t.text then (takeD E 3 x.2).bind fun y => (takeO E 4 y.2).map fun z => (⟨t.text, (t.pos : Int), x.1 :: y.1 ++ z.1.toList, z.1.isSome, false⟩, z.2)
    else if isPortW t.text then (takeO E 5 x.2).map fun z => (⟨t.text, (t.pos : Int), x.1 :: z.1.toList, false, z.1.isSome⟩, z.2)
    else .ok (⟨t.text, (t.pos : Int), [x.1], false, false⟩, x.2)
/-- Clauses, as many as there are (so many at most). -/
def takeCs (E : Nat) : Nat → List Cla → List Tok → Res (List Cla × List Tok)
  | 0, had, T => .ok (had, T)
  | _ + 1, had, [] => .ok (had, [])
  | f + 1, had, t :: T => if t.kind = 1 then (takeC E had t T).bind fun x => takeCs E f (had ++ [x.1]) x.2 else .ok (had, t :: T)
/-- What is done: the word 'drop', or 'port' and a number. -/
def takeA (E : Nat) : List Tok → Res ((Bool × Fig) × List Tok)
  | [] => .error (8, E)
  | t :: T => if t.kind = 1 ∧ t.text = wDrop then .ok ((true, ⟨0, 0⟩), T) else if t.kind = 1 ∧ t.text = wPort then (takeF E T).map fun x => ((false, x.1), x.2) else .error (8, t.pos)
/-- The end of a line, which is not taken. -/
def takeE : List Tok → Res (List Tok)
  | [] => .ok []
  | t :: T => if t.kind = 7 then .ok (t :: T) else .error (8, t.pos)
/-- What stands ahead of the Arrow. -/
def takeH (E : Nat) : List Tok → Res ((Bool × Fig × List Cla) × List Tok)
  | [] => .error (8, E)
  | t :: T => if t.kind = 1 ∧ t.text = wDefault then .ok ((true, ⟨0, 0⟩, []), T) else (takeF E (t :: T)).bind fun x => (takeCs E x.2.length [] x.2).map fun y => ((false, x.1, y.1), y.2)
/-- A line. -/
def takeR (E : Nat) (T : List Tok) : Res (Raw × List Tok) :=
  (takeH E T).bind fun x => (takeK E 6 x.2).bind fun y => (takeA E y.2).bind fun z => (takeE z.2).map fun u => (⟨(posOf E T : Int), x.1.1, x.1.2.1, x.1.2.2, z.1.1, z.1.2⟩, u)
/-- Lines (so many steps at most). -/
def takeL (E : Nat) : Nat → List Raw → List Tok → Res (List Raw)
  | 0, had, _ => .ok had
  | _ + 1, had, [] => .ok had
  | f + 1, had, t :: T => if t.kind = 7 then takeL E f had T else if had.length = 64 then .error (4, t.pos) else (takeR E (t :: T)).bind fun x => takeL E f (had ++ [x.1]) x.2
/-- A text's lines. -/
def parseT (S : List UInt8) : Res (List Raw) :=
  if 4096 < S.length then .error (5, 4096) else match lexW 0 S with
    | .error x => .error x
    | .ok T => takeL S.length (T.length + 1) [] T

/-- A number's digits. -/
def decF : Nat → Nat → List UInt8
  | 0, n => [UInt8.ofNat (48 + n % 10)]
  | f + 1, n => if n < 10 then [UInt8.ofNat (48 + n)] else decF f (n / 10) ++ [UInt8.ofNat (48 + n % 10)]
def dec (n : Nat) : List UInt8 := decF n n
def decI (n : Int) : List UInt8 := if 0 ≤ n then dec n.toNat else 45 :: dec (-n).toNat
/-- Numbers with a sign between. -/
def numsP (last : UInt8) : List Fig → List UInt8
  | [] => []
  | [x] => last :: decI x.n
  | x :: y :: l => 46 :: decI x.n ++ numsP last (y :: l)
def lastSign (c : Cla) : UInt8 := if c.slash then 47 else if c.dash then 45 else 46
def numsAll (c : Cla) : List UInt8 := match c.nums with
  | [] => []
  | x :: l => decI x.n ++ numsP (lastSign c) l
def claP (c : Cla) : List UInt8 := 32 :: c.word ++ (32 :: numsAll c)
def headP (x : Raw) : List UInt8 := (if x.dflt then wDefault else decI x.prio.n) ++ x.clauses.flatMap claP
def actP (x : Raw) : List UInt8 := if x.drop then wDrop else wPort ++ (32 :: decI x.port.n)
def rowP (x : Raw) : List UInt8 := headP x ++ ([32, 45, 62, 32] ++ (actP x ++ [10]))
def printT (l : List Raw) : List UInt8 := l.flatMap rowP
end Go.Proofs.Ytbhnjhiecoapbaa
namespace Go.Proofs.Ytbhnjhiecoapbaa
open Go
set_option maxRecDepth 20000

/-- A token but for its place. -/
def st (t : Tok) : Nat × List UInt8 × Nat := (t.kind, t.text, t.num)
abbrev St := Nat × List UInt8 × Nat
def Any (_ : List UInt8) : Prop := True
/-- What doesn't go on with a word or a number. -/
def sepY (Y : List UInt8) : Prop := ∀ y, Y.head? = some y → isLet y = false ∧ isDig y = false
def no62 (Y : List UInt8) : Prop := (Y.head? == some 62) = false
/-- Bytes that come to these tokens, ahead of what is fit. -/
def Lexes (X : List UInt8) (ts : List St) (ok : List UInt8 → Prop) : Prop := ∀ (p : Nat) (Y : List UInt8), ok Y → ∃ T, T.map st = ts ∧ lexW p (X ++ Y) = glue T (lexW (p + X.length) Y)
theorem Lexes.append {A B : List UInt8} {ta tb : List St} {okA okB : List UInt8 → Prop} (h1 : Lexes A ta okA) (h2 : Lexes B tb okB) (h : ∀ Y, okB Y → okA (B ++ Y)) : Lexes (A ++ B) (ta ++ tb) okB := by
  intro p Y hY
  obtain ⟨T1, e1, g1⟩ := h1 p (B ++ Y) (h Y hY)
  obtain ⟨T2, e2, g2⟩ := h2 (p + A.length) Y hY
  refine ⟨T1 ++ T2, by rw [List.map_append, e1, e2], ?_⟩
  rw [List.append_assoc, g1, g2, glue_glue, List.length_append, Nat.add_assoc]
theorem Lexes.nil (ok : List UInt8 → Prop) : Lexes [] [] ok := fun p Y _ => ⟨[], rfl, by rw [glue_nil]; rfl⟩
theorem Lexes.weaken {A : List UInt8} {ta : List St} {ok ok' : List UInt8 → Prop} (h : Lexes A ta ok) (hw : ∀ Y, ok' Y → ok Y) : Lexes A ta ok' := fun p Y hY => h p Y (hw Y hY)

theorem takeWhile_none (q : UInt8 → Bool) (Y : List UInt8) (h : ∀ y, Y.head? = some y → q y = false) : Y.takeWhile q = [] := by
  cases Y with
  | nil => rfl
  | cons y Y => rw [List.takeWhile_cons, if_neg (by rw [h y rfl]; decide)]
theorem let_not {c : UInt8} (h : isLet c = true) : isBlank c = false := by
  unfold isLet at h
  simp only [Bool.and_eq_true, decide_eq_true_eq] at h
  unfold isBlank
  simp only [Bool.or_eq_false_iff, beq_eq_false_iff_ne]
  refine ⟨⟨?_, ?_⟩, ?_⟩ <;> rintro rfl <;> simp at h
theorem dig_not {c : UInt8} (h : isDig c = true) : isBlank c = false ∧ isLet c = false := by
  unfold isDig at h
  simp only [Bool.and_eq_true, decide_eq_true_eq] at h
  refine ⟨?_, ?_⟩
  · unfold isBlank
    simp only [Bool.or_eq_false_iff, beq_eq_false_iff_ne]
    refine ⟨⟨?_, ?_⟩, ?_⟩ <;> rintro rfl <;> simp at h
  · unfold isLet
    simp only [Bool.and_eq_false_iff, decide_eq_false_iff_not]
    omega

theorem lx_word (w : List UInt8) (hw : ∀ c ∈ w, isLet c = true) (hne : w ≠ []) : Lexes w [(1, w, 0)] sepY := by
  intro p Y hY
  cases w with
  | nil => exact absurd rfl hne
  | cons c r =>
    have hc := hw c (by simp)
    have ht : (r ++ Y).takeWhile isLet = r := takeWhile_append_stop isLet Y (fun y hy => (hY y hy).1) r fun x hx => hw x (by simp [hx])
    have hx : lexeme c (r ++ Y) = (Lx.tok 1 (c :: r) 0, r.length) := by
      unfold lexeme
      rw [if_neg (by rw [let_not hc]; decide), if_pos hc, ht]
    refine ⟨[⟨1, p, c :: r, 0⟩], rfl, ?_⟩
    rw [List.cons_append, lexW_tok hx, List.drop_left, List.length_cons]
    congr 2; omega
theorem lx_blank : Lexes [32] [] Any := fun p Y _ => ⟨[], rfl, by
  rw [List.singleton_append, lexW_none (lexeme_blank (by decide) Y), glue_nil]; rfl⟩
theorem lx_one (c : UInt8) (k : Nat) (h : ∀ r, lexeme c r = (Lx.tok k [] 0, 0)) : Lexes [c] [(k, [], 0)] Any := fun p Y _ => ⟨[⟨k, p, [], 0⟩], rfl, by
  rw [List.singleton_append, lexW_tok (h Y)]; rfl⟩
theorem lx_dot : Lexes [46] [(3, [], 0)] Any := lx_one 46 3 fun r => by
  unfold lexeme
  rw [if_neg (by decide), if_neg (by decide), if_neg (by decide), if_pos (by decide)]
theorem lx_slash : Lexes [47] [(4, [], 0)] Any := lx_one 47 4 fun r => by
  unfold lexeme
  rw [if_neg (by decide), if_neg (by decide), if_neg (by decide), if_neg (by decide), if_pos (by decide)]
theorem lx_line : Lexes [10] [(7, [], 0)] Any := lx_one 10 7 lexeme_line
theorem lx_dash : Lexes [45] [(5, [], 0)] no62 := fun p Y hY => ⟨[⟨5, p, [], 0⟩], rfl, by
  have hx : lexeme 45 Y = (Lx.tok 5 [] 0, 0) := by
    unfold lexeme
    rw [if_neg (by decide), if_neg (by decide), if_neg (by decide), if_neg (by decide), if_neg (by decide), if_pos (by decide), if_neg (by rw [hY]; decide)]
  rw [List.singleton_append, lexW_tok hx]; rfl⟩
theorem lx_arrow : Lexes [45, 62] [(6, [], 0)] Any := fun p Y _ => ⟨[⟨6, p, [], 0⟩], rfl, by
  have hx : lexeme 45 (62 :: Y) = (Lx.tok 6 [] 0, 1) := by
    unfold lexeme
    rw [if_neg (by decide), if_neg (by decide), if_neg (by decide), if_neg (by decide), if_neg (by decide), if_pos (by decide), if_pos (by simp)]
  rw [List.cons_append, List.singleton_append, lexW_tok hx]; rfl⟩

/-! Digits. -/
theorem dig_of (k : Nat) (h : k < 10) : isDig (UInt8.ofNat (48 + k)) = true ∧ (UInt8.ofNat (48 + k)).toNat - 48 = k ∧ (UInt8.ofNat (48 + k) == 48) = decide (k = 0) := by
  rcases (show k = 0 ∨ k = 1 ∨ k = 2 ∨ k = 3 ∨ k = 4 ∨ k = 5 ∨ k = 6 ∨ k = 7 ∨ k = 8 ∨ k = 9 by omega) with e | e | e | e | e | e | e | e | e | e <;> subst e <;> decide
theorem val_append (A : List UInt8) (c : UInt8) : val (A ++ [c]) = val A * 10 + (c.toNat - 48) := by simp [val]
theorem decF_facts : ∀ (f n : Nat), n ≤ f → (∀ c ∈ decF f n, isDig c = true) ∧ decF f n ≠ [] ∧ val (decF f n) = n ∧ (n ≠ 0 → (decF f n).head? ≠ some 48) ∧ (n = 0 → (decF f n).length = 1)
  | 0, n, h => by
    obtain rfl : n = 0 := by omega
    refine ⟨?_, ?_, ?_, ?_, ?_⟩ <;> decide
  | f + 1, n, h => by
    rw [decF]
    by_cases hn : n < 10
    · rw [if_pos hn]
      obtain ⟨h1, h2, h3⟩ := dig_of n hn
      refine ⟨fun c hc => by rw [List.mem_singleton.1 hc]; exact h1, by simp, by simp [val]; exact h2, fun h0 => ?_, fun _ => rfl⟩
      rw [List.head?_cons]
      intro he
      rw [Option.some.inj he] at h3
      simp at h3
      exact h0 h3
    · rw [if_neg hn]
      obtain ⟨g1, g2, g3, g4, g5⟩ := decF_facts f (n / 10) (by omega)
      obtain ⟨h1, h2, _⟩ := dig_of (n % 10) (by omega)
      refine ⟨fun c hc => ?_, by simp, ?_, fun _ => ?_, fun h0 => by omega⟩
      · rcases List.mem_append.1 hc with hc | hc
        · exact g1 c hc
        · rw [List.mem_singleton.1 hc]; exact h1
      · rw [val_append, g3, h2]; omega
      · have := g4 (by omega)
        cases hd : decF f (n / 10) with
        | nil => exact absurd hd g2
        | cons c r => rw [hd] at this; simpa using this
theorem dec_facts (n : Nat) : (∀ c ∈ dec n, isDig c = true) ∧ dec n ≠ [] ∧ val (dec n) = n ∧ (n ≠ 0 → (dec n).head? ≠ some 48) ∧ (n = 0 → (dec n).length = 1) := decF_facts n n (Nat.le_refl _)
theorem numOf_dec (n : Nat) (h : n ≤ 4294967295) : numOf (dec n) = some n := by
  obtain ⟨_, _, h3, h4, h5⟩ := dec_facts n
  unfold numOf
  rw [h3, if_neg]
  simp only [Bool.or_eq_true, decide_eq_true_eq, Bool.and_eq_true, beq_iff_eq]
  rintro (h6 | ⟨h6, h7⟩)
  · omega
  · by_cases h0 : n = 0
    · have := h5 h0; omega
    · exact h4 h0 h7
theorem lx_num (n : Nat) (h : n ≤ 4294967295) : Lexes (dec n) [(2, [], n)] sepY := by
  intro p Y hY
  have hn := numOf_dec n h
  obtain ⟨h1, h2, _⟩ := dec_facts n
  cases hd : dec n with
  | nil => exact absurd hd h2
  | cons c r =>
    rw [hd] at h1 hn
    have hc := h1 c (by simp)
    have ht : (r ++ Y).takeWhile isDig = r := takeWhile_append_stop isDig Y (fun y hy => (hY y hy).2) r fun x hx => h1 x (by simp [hx])
    have hx : lexeme c (r ++ Y) = (Lx.tok 2 [] n, r.length) := by
      unfold lexeme
      rw [if_neg (by rw [(dig_not hc).1]; decide), if_neg (by rw [(dig_not hc).2]; decide), if_pos hc, ht, hn]
    refine ⟨[⟨2, p, [], n⟩], rfl, ?_⟩
    rw [List.cons_append, lexW_tok hx, List.drop_left, List.length_cons]
    congr 2; omega

/-- A number that a text may hold. -/
def okF (x : Fig) : Prop := 0 ≤ x.n ∧ x.n ≤ 4294967295
theorem lx_fig (x : Fig) (h : okF x) : Lexes (decI x.n) [(2, [], x.n.toNat)] sepY := by
  unfold decI
  rw [if_pos h.1]
  exact lx_num _ (by have := h.2; omega)
theorem decI_head (x : Fig) (h : okF x) (Y : List UInt8) : no62 (decI x.n ++ Y) := by
  unfold decI no62
  rw [if_pos h.1]
  obtain ⟨h1, h2, _⟩ := dec_facts x.n.toNat
  cases hd : dec x.n.toNat with
  | nil => exact absurd hd h2
  | cons c r =>
    rw [hd] at h1
    have hc := h1 c (by simp)
    simp only [List.cons_append, List.head?_cons]
    cases e : ((some c : Option UInt8) == some 62) with
    | false => rfl
    | true =>
      obtain rfl : c = 62 := by simpa using e
      exact absurd hc (by decide)
def signT (s : UInt8) : St := (if s = 47 then 4 else if s = 45 then 5 else 3, [], 0)
/-- The tokens of numbers with a sign between. -/
def numsT (s : UInt8) : List Fig → List St
  | [] => []
  | [x] => [signT s, (2, [], x.n.toNat)]
  | x :: y :: l => (3, [], 0) :: (2, [], x.n.toNat) :: numsT s (y :: l)
theorem sep_cons {c : UInt8} (h : isLet c = false ∧ isDig c = false) (Y : List UInt8) : sepY (c :: Y) := fun y hy => by
  obtain rfl : c = y := by simpa using hy
  exact h
theorem lx_sign (s : UInt8) (hs : s = 47 ∨ s = 45 ∨ s = 46) (x : Fig) (hx : okF x) : Lexes (s :: decI x.n) [signT s, (2, [], x.n.toNat)] sepY := by
  rcases hs with rfl | rfl | rfl
  · exact lx_slash.append (lx_fig x hx) (fun _ _ => trivial)
  · exact lx_dash.append (lx_fig x hx) (fun Y _ => decI_head x hx Y)
  · exact lx_dot.append (lx_fig x hx) (fun _ _ => trivial)
theorem numsP_sep (s : UInt8) (hs : s = 47 ∨ s = 45 ∨ s = 46) : ∀ (l : List Fig) (Y : List UInt8), sepY Y → sepY (numsP s l ++ Y)
  | [], Y, hY => hY
  | [x], Y, _ => by rcases hs with rfl | rfl | rfl <;> exact sep_cons (by decide) _
  | x :: y :: l, Y, _ => sep_cons (by decide) _
theorem lx_nums (s : UInt8) (hs : s = 47 ∨ s = 45 ∨ s = 46) : ∀ l : List Fig, (∀ x ∈ l, okF x) → Lexes (numsP s l) (numsT s l) sepY
  | [], _ => Lexes.nil _
  | [x], h => lx_sign s hs x (h x (by simp))
  | x :: y :: l, h => by
    have h1 := lx_dot.append (lx_fig x (h x (by simp))) (fun _ _ => trivial)
    exact h1.append (lx_nums s hs (y :: l) fun z hz => h z (by simp [hz])) (fun Y hY => numsP_sep s hs (y :: l) Y hY)
theorem lastSign_ok (c : Cla) : lastSign c = 47 ∨ lastSign c = 45 ∨ lastSign c = 46 := by
  unfold lastSign
  cases c.slash <;> cases c.dash <;> simp
end Go.Proofs.Ytbhnjhiecoapbaa
