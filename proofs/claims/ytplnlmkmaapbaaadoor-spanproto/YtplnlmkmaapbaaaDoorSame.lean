import Derived.Test.YtplnlmkmaapbaaaDoorRefMinus
namespace Go.Proofs.YtplnlmkmaapbaaaDoor
open Go Go.RowKit

/-- All cubes of a list have their bytes. -/
def Byts (C : List (List Int × List Int)) : Prop := ∀ c ∈ C, Byt c.1 ∧ Byt c.2
theorem byts_rGo (M V' M' : List Int) : ∀ (f i : Nat) (RV RM : List Int), Byts (rGo M V' M' f i RV RM)
  | 0, _, _, _ => fun c hc => by simp [rGo] at hc
  | f + 1, i, RV, RM => by
    rw [rGo]
    split
    · intro c hc
      rcases List.mem_cons.1 hc with h | h
      · rw [h]; exact ⟨setb_byt _ _ _, setb_byt _ _ _⟩
      · exact byts_rGo M V' M' f (i + 1) _ _ c h
    · exact byts_rGo M V' M' f (i + 1) _ _
theorem byts_minus (V M V' M' : List Int) (hM : Byt M) : Byts (minusC V M V' M') := by
  cases h : meets V M V' M'
  · rw [minusC_no _ _ _ _ h]
    intro c hc
    have : c = (can V M, M) := by simpa using hc
    rw [this]; exact ⟨can_byt _ _, hM⟩
  · rw [minus_rGo _ _ _ _ h]; exact byts_rGo _ _ _ _ _ _ _
theorem len_rGo (M V' M' : List Int) : ∀ (f i : Nat) (RV RM : List Int), (rGo M V' M' f i RV RM).length ≤ f
  | 0, _, _, _ => by simp [rGo]
  | f + 1, i, RV, RM => by
    rw [rGo]
    split
    · rw [List.length_cons]; exact Nat.succ_le_succ (len_rGo M V' M' f (i + 1) _ _)
    · exact Nat.le_succ_of_le (len_rGo M V' M' f (i + 1) _ _)
theorem len_minus (V M V' M' : List Int) : (minusC V M V' M').length ≤ 104 := by
  cases h : meets V M V' M'
  · rw [minusC_no _ _ _ _ h]; simp
  · rw [minus_rGo _ _ _ _ h]; exact len_rGo _ _ _ _ _ _ _

theorem ccells_at : ∀ (C : List (List Int × List Int)), Byts C → ∀ (i : Nat) (hi : i < C.length) (j : Nat), j < 26 → (ccells C)[26 * i + j]? = (cv C[i].1 C[i].2)[j]?
  | [], _, i, hi, _, _ => by simp at hi
  | c :: C, hC, i, hi, j, hj => by
    have h1 := hC c (by simp)
    have hl : (cv c.1 c.2).toList.length = 26 := by rw [Array.length_toList, cv_size _ _ h1.1.1 h1.2.1]
    have e : ccells (c :: C) = (cv c.1 c.2).toList ++ ccells C := by simp [ccells]
    rw [e]
    match i, hi with
    | 0, _ =>
      rw [List.getElem?_append_left (by omega)]
      simp
    | i + 1, hi =>
      rw [List.getElem?_append_right (by omega), hl, show 26 * (i + 1) + j - 26 = 26 * i + j by omega, ccells_at C (fun c hc => hC c (by simp [hc])) i (by simpa using hi) j hj]
      rfl

/-- A slice whose elements are these cubes. -/
def Row (w : World) (v : Value) (C : List (List Int × List Int)) : Prop :=
  ∃ (o : Option Addr) (cap : Nat), v = .slice o C.length cap ∧ ∀ (i : Nat) (hi : i < C.length), ∃ g cur, o = some ⟨g, 0, none⟩ ∧ w.heap[g]? = some (.cells cur 37 (0, 0)) ∧ ∀ j, j < 26 → cur[26 * i + j]? = (cv C[i].1 C[i].2)[j]?
theorem row_of {w : World} {B : Nat} {v : Value} {C : List (List Int × List Int)} (h : w.ownsRow B 37 26 v C.length (ccells C)) (hC : Byts C) : Row w v C := by
  obtain ⟨h1, ⟨rfl, h2⟩ | ⟨g, cap, cur, rfl, hB, hcur, _, _, _, h4⟩⟩ := h
  · exact ⟨none, 0, by rw [h2], fun i hi => by omega⟩
  · refine ⟨_, cap, rfl, fun i hi => ⟨g, cur, rfl, hcur, fun j hj => ?_⟩⟩
    rw [← ccells_at C hC i hi j hj, ← h4, List.getElem?_take_of_lt (by omega)]
    simp
theorem Row.below {w w' : World} {v : Value} {C : List (List Int × List Int)} (h : Row w v C) (hb : Below w.heap.size w w') : Row w' v C := by
  obtain ⟨o, cap, rfl, h2⟩ := h
  refine ⟨o, cap, rfl, fun i hi => ?_⟩
  obtain ⟨g, cur, h3, h4, h5⟩ := h2 i hi
  exact ⟨g, cur, h3, (hb.block g (Array.getElem?_eq_some_iff.1 h4).1).trans h4, h5⟩

theorem qlCat {W : World} {ops : Array Oper} {Q : Act → Prop} {rest : List Oper} {o : Oper} {a : Act} (hw : Region.wanted o (yielded ops a.tmps) = true) (x : Operand) (ho : o.op = .load 37 x)
    (g off : Nat) (hx : a.eval x = .pointer (some ⟨g, off, none⟩)) (cs : Array Value) (t : TypeId) (V M : List Int) (hV : V.length = 13) (hM : M.length = 13) (hg : W.heap[g]? = some (.cells cs t (0, 0))) (hc : ∀ j, j < 26 → cs[off + j]? = (cv V M)[j]?)
    (h : wpQuiet Tryd.prog ops (fun w' => ∃ u : Later W, w' = u.world) Q rest (a.put o.dst (.agg (cv V M)))) : wpQuiet Tryd.prog ops (fun w' => ∃ u : Later W, w' = u.world) Q (o :: rest) a := by
  refine BigFrame.wpQuiet_want hw fun K hK => ⟨.agg (cv V M), fun w hC => ?_, hK _ h⟩
  unfold Oper.quietAt execOp
  simp only [ho, hx, Instr.loadAt, Instr.sureAddr, Sem.run_bind, Sem.run_pure, Result.andThen_ok, load_cube w g off cs t (0, 0) V M hV hM (later_block hg w hC) hc]
  exact ⟨rfl, rfl⟩

set_option maxHeartbeats 2000000 in
theorem same_any (C : List (List Int × List Int)) (hC : Byts C) (hn : C.length ≤ 104) (va vb : Value) (w : World) (ha : Row w va C) (hb : Row w vb C) :
    Calls Tryd.prog 9 #[va, vb] w fun e w' => e = .returned (.bool true) ∧ Below w.heap.size w w' := by
  obtain ⟨oa, ca, rfl, ha⟩ := ha
  obtain ⟨ob, cb, rfl, hb⟩ := hb
  obtain ⟨n, hne⟩ : ∃ n, n = C.length := ⟨_, rfl⟩
  have HA : Hid (∀ (i : Nat) (hi : i < C.length), ∃ g cur, oa = some ⟨g, 0, none⟩ ∧ w.heap[g]? = some (.cells cur 37 (0, 0)) ∧ ∀ j, j < 26 → cur[26 * i + j]? = (cv C[i].1 C[i].2)[j]?) := ha
  have HB : Hid (∀ (i : Nat) (hi : i < C.length), ∃ g cur, ob = some ⟨g, 0, none⟩ ∧ w.heap[g]? = some (.cells cur 37 (0, 0)) ∧ ∀ j, j < 26 → cur[26 * i + j]? = (cv C[i].1 C[i].2)[j]?) := hb
  have HC : Hid (Byts C) := hC
  have HN : Hid (n = C.length) := hne
  have hn2 : n ≤ 104 := by omega
  have eg : ∀ op x y (xs ys : Array Value) w, (eqGuard op 37 x y (.agg xs) (.agg ys)).run Tryd.prog w = .ok () w := egC
  rw [← hne]
  clear ha hb hC hn hne
  go_enter Tryd.func9, Tryd.ntmps9
  go_wp2_with fail
  go_loopw [5] (fun i wr => ∃ k : Nat, k ≤ n ∧ i = .int .i64 k ∧ Below w.heap.size w wr) (fun i _ => n - (intOf i).toNat)
  case atStart => exact ⟨0, Nat.zero_le _, rfl, Below.refl _ _⟩
  case round =>
    obtain ⟨k, hk, rfl, hbw⟩ := hrel
    by_cases hlt : k < n
    · obtain ⟨ga, cura, rfl, hga, hca⟩ := HA.out k (by rw [← HN.out]; exact hlt)
      obtain ⟨gb, curb, rfl, hgb, hcb⟩ := HB.out k (by rw [← HN.out]; exact hlt)
      obtain ⟨U, N, hUN⟩ : ∃ U N, (U, N) = C[k]'(by rw [← HN.out]; exact hlt) := ⟨_, _, rfl⟩
      have hby := HC.out (C[k]'(by rw [← HN.out]; exact hlt)) (List.getElem_mem _)
      rw [← hUN] at hca hcb hby
      have hUl : U.length = 13 := hby.1.1
      have hNl : N.length = 13 := hby.2.1
      have e1 : ∀ w, (Op.equalIn 10000 37 (.agg (cv U N)) (.agg (cv U N))).run Tryd.prog w = .ok true w := fun w => by rw [eqC _ _ _ _ hUl hNl hUl hNl]; simp
      have hga' : wr.heap[ga]? = some (.cells cura 37 (0, 0)) := (hbw.block ga (Array.getElem?_eq_some_iff.1 hga).1).trans hga
      have hgb' : wr.heap[gb]? = some (.cells curb 37 (0, 0)) := (hbw.block gb (Array.getElem?_eq_some_iff.1 hgb).1).trans hgb
      have HCA : Hid (∀ j, j < 26 → cura[k * 26 + j]? = (cv U N)[j]?) := fun j hj => by rw [Nat.mul_comm]; exact hca j hj
      have HCB : Hid (∀ j, j < 26 → curb[k * 26 + j]? = (cv U N)[j]?) := fun j hj => by rw [Nat.mul_comm]; exact hcb j hj
      clear hUN hby hga hgb hca hcb
      go_wp2_with fail
      have ne1 := Later.ne wr
      refine wp_region_later (by kernel_rfl) (by kernel_rfl) ?_
      go_big_quiet_step (fail)
      go_big_quiet_step (fail)
      go_big_quiet_step (fail)
      refine qlCat rfl _ rfl ga (k * 26) rfl cura _ U N hUl hNl hga' HCA.out ?_
      simp only [Act.put, List.setIfInBounds_toArray, List.set_cons_succ, List.set_cons_zero]
      go_big_quiet_step (fail)
      go_big_quiet_step (fail)
      go_big_quiet_step (fail)
      refine qlCat rfl _ rfl gb (k * 26) rfl curb _ U N hUl hNl hgb' HCB.out ?_
      simp only [Act.put, List.setIfInBounds_toArray, List.set_cons_succ, List.set_cons_zero]
      go_big_quiet_step (fail)
      refine wpQuiet_nil ?_
      rintro w' ⟨u, rfl⟩
      go_wp2_with fail
      go_roundw
      case rel => exact ⟨k + 1, by omega, by go_num, hbw.trans (u.below.mono hbw.size)⟩
      case measure => simp [intOf]; omega
    · obtain rfl : k = n := by omega
      go_wp2_with fail
      go_ret
      exact ⟨rfl, hbw⟩
end Go.Proofs.YtplnlmkmaapbaaaDoor
