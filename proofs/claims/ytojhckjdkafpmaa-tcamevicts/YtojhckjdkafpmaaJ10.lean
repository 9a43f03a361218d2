import Derived.Test.YtojhckjdkafpmaaJ9
import Derived.Laws.Cover3
namespace Go.Proofs.Ytojhckjdkafpmaa
open Go Go.RowKit
set_option maxRecDepth 20000

def hsC (c : Cub) (h : List Int) : Bool := has (pad c.1) (pad c.2) h
theorem qlCw {K : World → Prop} {ops : Array Oper} {Q : Act → Prop} {rest : List Oper} {o : Oper} {a : Act} (hw : Region.wanted o (yielded ops a.tmps) = true) (x : Operand) (ho : o.op = .load 36 x)
    (g off : Nat) (hx : a.eval x = .pointer (some ⟨g, off, none⟩)) (cur : Array Value) (t : TypeId) (fr : Nat × Nat) (V M : List Int) (hV : V.length = 13) (hM : M.length = 13) (hg : ∀ w', K w' → w'.heap[g]? = some (.cells cur t fr)) (hc : ∀ j, j < 26 → cur[off + j]? = (cv V M)[j]?)
    (h : wpQuiet Try.prog ops K Q rest (a.put o.dst (.agg (cv V M)))) : wpQuiet Try.prog ops K Q (o :: rest) a := by
  refine BigFrame.wpQuiet_want hw fun K' hK => ⟨.agg (cv V M), fun w hC => ?_, hK _ h⟩
  unfold Oper.quietAt execOp
  simp only [ho, hx, Instr.loadAt, Instr.sureAddr, Sem.run_bind, Sem.run_pure, Result.andThen_ok, cub_load hV hM (hg w hC) hc]
  exact ⟨rfl, rfl⟩
theorem q_valT {C : World → Prop} {ops : Array Oper} {Q : Act → Prop} {rest : List Oper} {o : Oper} {a : Act} (hw : Region.wanted o (yielded ops a.tmps) = true) (v : Value) (hx : ∀ w, C w → (execOp a.eval o).run Try.prog w = .ok (.value v) w) (h : wpQuiet Try.prog ops C Q rest (a.put o.dst v)) : wpQuiet Try.prog ops C Q (o :: rest) a := by
  refine BigFrame.wpQuiet_want hw fun K hK => ⟨v, fun w hC => ?_, hK _ h⟩
  unfold Oper.quietAt
  rw [hx w hC]
  exact ⟨rfl, rfl⟩
theorem q_nilT {C : World → Prop} {ops : Array Oper} {Q : Act → Prop} {rest : List Oper} {o : Oper} {a : Act} (hw : Region.wanted o (yielded ops a.tmps) = true) (x : Operand) (ho : o.op = .nilCheck x) (ad : Addr) (hx : a.eval x = .pointer (some ad)) (h : wpQuiet Try.prog ops C Q rest (a.put o.dst (.pointer (some ad)))) : wpQuiet Try.prog ops C Q (o :: rest) a := by
  refine q_valT hw _ (fun w _ => ?_) h
  unfold execOp
  simp only [ho, hx]
  simp [go_sem]

theorem pad_byt {c : Cub} (h : OkC c) : Byt (pad c.1) ∧ Byt (pad c.2) := by rw [pad_id h.1.1, pad_id h.2.1]; exact h
theorem hasC_any (c : Cub) (H : List Int) (hc : OkC c) (hH : Byt H) (W : World) : Calls Try.prog 19 #[.agg (cv (pad c.1) (pad c.2)), .agg (hv H)] W fun r w' => r = .returned (.bool (hsC c H)) ∧ Below W.heap.size W w' :=
  has_any (pad c.1) (pad c.2) H (pad_byt hc).1 (pad_byt hc).2 hH W
theorem later_slf {W : World} {g off : Nat} {x : Slt} {cur : Array Value} {t : TypeId} (hg : W.heap[g]? = some (.cells cur t (0, 0))) (h : SlF W g off x) : ∀ u : Later W, SlF u.world g off x := fun u => h.below ((later_block hg _ ⟨u, rfl⟩).trans hg.symm)
/-- What least hands back: nothing, or where the slot lies. -/
def PtrF (m : Slt → Bool) (g : Nat) (C : List Slt) (r : Value) : Prop :=
  (r = .pointer none ∧ leastF m (·.order) C = none) ∨ ∃ (i : Nat) (x : Slt), r = .pointer (some ⟨g, i * 36, none⟩) ∧ i < C.length ∧ C[i]? = some x ∧ leastF m (·.order) C = some (C.take i, x, C.drop (i + 1))
def BestS (m : Slt → Bool) (g : Nat) (C : List Slt) (k : Nat) (r : Value) : Prop :=
  (r = .pointer none ∧ FoundTo m (·.order) C k (-1)) ∨ ∃ (j : Nat) (x : Slt), r = .pointer (some ⟨g, j * 36, none⟩) ∧ C[j]? = some x ∧ FoundTo m (·.order) C k (j : Int)
theorem BestS.all {m : Slt → Bool} {g : Nat} {C : List Slt} {r : Value} (h : BestS m g C C.length r) : PtrF m g C r := by
  rcases h with ⟨e, h⟩ | ⟨j, x, e, hx, h⟩
  · rcases found_all h with ⟨_, h⟩ | ⟨i, x, h, _⟩
    · exact .inl ⟨e, h⟩
    · omega
  · rcases found_all h with ⟨h, _⟩ | ⟨i, z, hi, h1, h2, h3⟩
    · omega
    · obtain rfl : j = i := by omega
      exact .inr ⟨j, z, e, h1, h2, h3⟩
theorem row_at {w : World} {g : Nat} {cur : Array Value} {C : List Slt} (_ : w.heap[g]? = some (.cells cur 38 (0, 0))) (h : cur.toList.take (C.length * 36) = gcells slotV C) (k : Nat) (x : Slt) (hx : C[k]? = some x) : ∀ j, j < 36 → cur[k * 36 + j]? = (slotV x)[j]? := fun j hj => by
  have hk : k < C.length := (List.getElem?_eq_some_iff.1 hx).1
  have h1 := gcells_at slotV 36 C (fun c _ => slotV_size c) k hk j hj
  rw [← h, List.getElem?_take_of_lt (by have := Nat.mul_le_mul_right 36 (show k + 1 ≤ C.length by omega); omega), Array.getElem?_toList] at h1
  rw [Nat.mul_comm k 36, h1, (List.getElem?_eq_some_iff.1 hx).2]
set_option maxHeartbeats 4000000 in
theorem least_nil (w : World) (e : Int) (H : List Int) : Calls Try.prog 64 #[.slice none 0 0, .int .i64 e, .agg (hv H)] w fun r w' => r = .returned (.pointer none) ∧ Below w.heap.size w w' := by
  go_enter Try.func64, Try.ntmps64
  go_wp2_with fail
  go_loopw [7, 12] (fun s7 i wr => i = .int .i64 0 ∧ s7 = .pointer none ∧ Hid (Below w.heap.size w wr)) (fun _ _ _ => 0)
  case atStart => exact ⟨rfl, rfl, (Below.refl _ _).alloc (Nat.le_refl _) _⟩
  case round =>
    obtain ⟨rfl, rfl, HB⟩ := hrel
    go_wp2_with fail
    go_ret
    exact ⟨rfl, HB.out⟩
set_option maxHeartbeats 16000000 in
theorem leastN_any (g n cap : Nat) (C : List Slt) (w : World) (cur : Array Value) (hn0 : n = C.length) (hg : w.heap[g]? = some (.cells cur 38 (0, 0))) (hcap : n ≤ cap) (hcm : cap ≤ maxLen) (htk : cur.toList.take (n * 36) = gcells slotV C) (e : Int) (H : List Int) (hH : Byt H) (hok : ∀ x ∈ C, OkC x.cube) :
    Calls Try.prog 64 #[.slice (some ⟨g, 0, none⟩) n cap, .int .i64 e, .agg (hv H)] w fun r w' => (∃ p, r = .returned p ∧ PtrF (mtS hsC e H) g C p) ∧ Below w.heap.size w w' := by
  have HHl := hH.1
  have HAS : Hid (∀ x : Slt, OkC x.cube → ∀ W, Calls Try.prog 19 #[.agg (cv (pad x.cube.1) (pad x.cube.2)), .agg (hv H)] W fun r w' => r = .returned (.bool (hsC x.cube H)) ∧ Below W.heap.size W w') := by intro x hx W; exact hasC_any x.cube H hx hH W
  have HOK : Hid (∀ x ∈ C, OkC x.cube) := hok
  have HN : Hid (n = C.length) := hn0
  have HR : Hid (∀ wr : World, Below w.heap.size w wr → wr.heap[g]? = some (.cells cur 38 (0, 0))) := fun wr hb => (hb.block g (Array.getElem?_eq_some_iff.1 hg).1).trans hg
  have HT : Hid (∀ (k : Nat) (x : Slt), C[k]? = some x → ∀ j, j < 36 → cur[k * 36 + j]? = (slotV x)[j]?) := fun k x hx => row_at hg (by rw [← hn0]; exact htk) k x hx
  have HE : Hid (∀ p, BestS (mtS hsC e H) g C n p → PtrF (mtS hsC e H) g C p) := fun p hp => by rw [hn0] at hp; exact hp.all
  unfold maxLen at hcm
  clear hg htk hn0 hok hH
  go_enter Try.func64, Try.ntmps64
  go_wp2_with fail
  go_loopw [7, 12] (fun s7 i wr => ∃ k : Nat, k ≤ n ∧ i = .int .i64 (k : Int) ∧ Hid (BestS (mtS hsC e H) g C k s7) ∧ Hid (wr.heap[w.heap.size]? = some (.cells (hv H) 34 (0, 0))) ∧ Hid (Below w.heap.size w wr)) (fun _ i _ => n - (intOf i).toNat)
  case atStart => exact ⟨0, Nat.zero_le _, rfl, .inl ⟨rfl, found_nil _⟩, heap_new _ _ _ rfl, (Below.refl _ _).alloc (Nat.le_refl _) _⟩
  case round =>
    obtain ⟨k, hk, rfl, HS, HH, HB⟩ := hrel
    by_cases hlt : k < n
    · have hlt' : (k : Int) < (n : Int) := by omega
      obtain ⟨y, hy⟩ : ∃ y, C[k]? = some y := ⟨_, List.getElem?_eq_getElem (show k < C.length by have := HN.out; omega)⟩
      have HY : Hid (C[k]? = some y) := hy
      have HYO : Hid (OkC y.cube) := HOK.out y (List.mem_of_getElem? hy)
      have K1 : Hid (wr.heap[g]? = some (.cells cur 38 (0, 0))) := HR.out wr HB.out
      have H1 : Hid (∀ j, j < 36 → cur[k * 36 + j]? = (slotV y)[j]?) := HT.out k y hy
      have HC1 : Hid (∀ j, j < 26 → cur[k * 36 + 4 + j]? = (cv (pad y.cube.1) (pad y.cube.2))[j]?) := cube_row K1.out H1.out
      have d1 : ∀ u : Later wr, u.world.cell? ⟨g, k * 36 + 1, none⟩ = some (.int .i64 y.epoch) := fun u => (later_slf K1.out (slf_of K1.out H1.out) u).c1
      have d3 : ∀ u : Later wr, u.world.cell? ⟨g, k * 36 + 3, none⟩ = some (.int .i64 y.order) := fun u => (later_slf K1.out (slf_of K1.out H1.out) u).c3
      have ne1 := Later.ne wr
      have HM : Hid (mtS hsC e H y = ((y.epoch == e) && hsC y.cube H)) := rfl
      obtain ⟨ye, hye⟩ : ∃ ye, ye = y.epoch := ⟨_, rfl⟩
      obtain ⟨yo, hyo⟩ : ∃ yo, yo = y.order := ⟨_, rfl⟩
      have HYE : Hid (ye = y.epoch) := hye
      have HYQ : Hid (yo = y.order) := hyo
      rw [← hye] at d1
      rw [← hyo] at d3
      clear hy hye hyo
      by_cases he : ye = e
      · subst he
        have hed : (ye == ye) = true := by simp
        rcases HS.out with ⟨rfl, hf⟩ | ⟨j, x, rfl, hxj, hf⟩
        · have HF : Hid (FoundTo (mtS hsC ye H) (·.order) C k (-1)) := hf
          clear hf HS
          rcases Bool.eq_false_or_eq_true (hsC y.cube H) with hh | hh
          · have HMM : Hid (mtS hsC ye H y = true) := by show _ = _; rw [HM.out, ← HYE.out, hh, hed]; rfl
            have hcall : ∀ W, Calls Try.prog 19 #[.agg (cv (pad y.cube.1) (pad y.cube.2)), .agg (hv H)] W fun r w' => r = .returned (.bool true) ∧ Below W.heap.size W w' := by intro W; rw [← hh]; exact HAS.out y HYO.out W
            clear hh HM
            go_wp2_with fail
            refine wp_region_later (by kernel_rfl) (by kernel_rfl) ?_
            go_big_quiet_step (rfl)
            refine q_nilT rfl _ rfl _ rfl ?_
            simp only [Act.put, List.setIfInBounds_toArray, List.set_cons_succ, List.set_cons_zero]
            go_big_quiet_step (rfl)
            go_big_quiet_step (rfl)
            go_big_quiet_step (rfl)
            go_big_quiet_step (rfl)
            go_big_quiet_step (rfl)
            go_big_quiet_step (rfl)
            go_big_quiet_step (rfl)
            go_big_quiet_step (rfl)
            go_big_quiet_step (rfl)
            go_big_quiet_step (rfl)
            go_big_quiet_step (rfl)
            go_big_quiet_step (rfl)
            go_big_quiet_step (rfl)
            go_big_quiet_step (rfl)
            go_big_quiet_step (rfl)
            go_big_quiet_step (rfl)
            go_big_quiet_step (rfl)
            go_big_quiet_step (rfl)
            go_big_quiet_step (rfl)
            go_big_quiet_step (rfl)
            go_big_quiet_step (rfl)
            refine q_nilT rfl _ rfl _ rfl ?_
            simp only [Act.put, List.setIfInBounds_toArray, List.set_cons_succ, List.set_cons_zero]
            go_big_quiet_step (rfl)
            refine qlCw rfl _ rfl g (k * 36 + 4) rfl cur _ _ (pad y.cube.1) (pad y.cube.2) (pad_len _) (pad_len _) (later_block K1.out) HC1.out ?_
            simp only [Act.put, List.setIfInBounds_toArray, List.set_cons_succ, List.set_cons_zero]
            refine qlH rfl _ rfl w.heap.size rfl H HH.out HHl ?_
            simp only [Act.put, List.setIfInBounds_toArray, List.set_cons_succ, List.set_cons_zero]
            go_big_quiet_want; go_big_quiet_op
            refine ⟨_, fun u => Calls.later_of (hcall u.world), ?_⟩
            go_big_quiet_on
            go_big_quiet_step (rfl)
            refine wpQuiet_nil ?_
            rintro w' ⟨u, rfl⟩
            go_wp2_with fail
            go_roundw
            case rel => exact ⟨k + 1, by omega, by go_num, .inr ⟨k, y, rfl, HY.out, found_first HF.out HY.out HMM.out⟩, later_block HH.out _ ⟨u, rfl⟩, below_step HB.out HB.out.size u.below⟩
            case measure => simp [intOf]; omega
          · have HMM : Hid (mtS hsC ye H y = false) := by show _ = _; rw [HM.out, ← HYE.out, hh, hed]; rfl
            have hcall : ∀ W, Calls Try.prog 19 #[.agg (cv (pad y.cube.1) (pad y.cube.2)), .agg (hv H)] W fun r w' => r = .returned (.bool false) ∧ Below W.heap.size W w' := by intro W; rw [← hh]; exact HAS.out y HYO.out W
            clear hh HM
            go_wp2_with fail
            refine wp_region_later (by kernel_rfl) (by kernel_rfl) ?_
            go_big_quiet_step (rfl)
            refine q_nilT rfl _ rfl _ rfl ?_
            simp only [Act.put, List.setIfInBounds_toArray, List.set_cons_succ, List.set_cons_zero]
            go_big_quiet_step (rfl)
            go_big_quiet_step (rfl)
            go_big_quiet_step (rfl)
            go_big_quiet_step (rfl)
            go_big_quiet_step (rfl)
            go_big_quiet_step (rfl)
            go_big_quiet_step (rfl)
            go_big_quiet_step (rfl)
            go_big_quiet_step (rfl)
            go_big_quiet_step (rfl)
            go_big_quiet_step (rfl)
            go_big_quiet_step (rfl)
            go_big_quiet_step (rfl)
            go_big_quiet_step (rfl)
            go_big_quiet_step (rfl)
            go_big_quiet_step (rfl)
            go_big_quiet_step (rfl)
            go_big_quiet_step (rfl)
            go_big_quiet_step (rfl)
            go_big_quiet_step (rfl)
            go_big_quiet_step (rfl)
            refine q_nilT rfl _ rfl _ rfl ?_
            simp only [Act.put, List.setIfInBounds_toArray, List.set_cons_succ, List.set_cons_zero]
            go_big_quiet_step (rfl)
            refine qlCw rfl _ rfl g (k * 36 + 4) rfl cur _ _ (pad y.cube.1) (pad y.cube.2) (pad_len _) (pad_len _) (later_block K1.out) HC1.out ?_
            simp only [Act.put, List.setIfInBounds_toArray, List.set_cons_succ, List.set_cons_zero]
            refine qlH rfl _ rfl w.heap.size rfl H HH.out HHl ?_
            simp only [Act.put, List.setIfInBounds_toArray, List.set_cons_succ, List.set_cons_zero]
            go_big_quiet_want; go_big_quiet_op
            refine ⟨_, fun u => Calls.later_of (hcall u.world), ?_⟩
            go_big_quiet_on
            go_big_quiet_step (rfl)
            refine wpQuiet_nil ?_
            rintro w' ⟨u, rfl⟩
            go_wp2_with fail
            go_roundw
            case rel => exact ⟨k + 1, by omega, by go_num, .inl ⟨rfl, found_skip HF.out HY.out HMM.out⟩, later_block HH.out _ ⟨u, rfl⟩, below_step HB.out HB.out.size u.below⟩
            case measure => simp [intOf]; omega
        · have HF : Hid (FoundTo (mtS hsC ye H) (·.order) C k (j : Int)) := hf
          have HXJ : Hid (C[j]? = some x) := hxj
          have x3 : ∀ u : Later wr, u.world.cell? ⟨g, j * 36 + 3, none⟩ = some (.int .i64 x.order) := fun u => (later_slf K1.out (slf_of K1.out (HT.out j x hxj)) u).c3
          clear hf HS hxj
          obtain ⟨xo, hxo⟩ : ∃ xo, xo = x.order := ⟨_, rfl⟩
          have HXO : Hid (xo = x.order) := hxo
          rw [← hxo] at x3
          clear hxo
          by_cases hlo : yo < xo
          · have hld : decide (yo < xo) = true := decide_eq_true hlo
            have HLO : Hid (y.order < x.order) := by show _ < _; rw [← HYQ.out, ← HXO.out]; exact hlo
            clear hlo
            rcases Bool.eq_false_or_eq_true (hsC y.cube H) with hh | hh
            · have HMM : Hid (mtS hsC ye H y = true) := by show _ = _; rw [HM.out, ← HYE.out, hh, hed]; rfl
              have hcall : ∀ W, Calls Try.prog 19 #[.agg (cv (pad y.cube.1) (pad y.cube.2)), .agg (hv H)] W fun r w' => r = .returned (.bool true) ∧ Below W.heap.size W w' := by intro W; rw [← hh]; exact HAS.out y HYO.out W
              clear hh HM
              go_wp2_with fail
              refine wp_region_later (by kernel_rfl) (by kernel_rfl) ?_
              go_big_quiet_step (rfl)
              refine q_nilT rfl _ rfl _ rfl ?_
              simp only [Act.put, List.setIfInBounds_toArray, List.set_cons_succ, List.set_cons_zero]
              go_big_quiet_step (rfl)
              go_big_quiet_step (rfl)
              go_big_quiet_step (rfl)
              go_big_quiet_step (rfl)
              go_big_quiet_step (rfl)
              go_big_quiet_step (rfl)
              go_big_quiet_step (rfl)
              go_big_quiet_step (rfl)
              go_big_quiet_step (rfl)
              refine q_nilT rfl _ rfl _ rfl ?_
              simp only [Act.put, List.setIfInBounds_toArray, List.set_cons_succ, List.set_cons_zero]
              go_big_quiet_step (rfl)
              go_big_quiet_step (rfl)
              go_big_quiet_step (rfl)
              refine q_nilT rfl _ rfl _ rfl ?_
              simp only [Act.put, List.setIfInBounds_toArray, List.set_cons_succ, List.set_cons_zero]
              go_big_quiet_step (rfl)
              go_big_quiet_step (rfl)
              go_big_quiet_step (rfl)
              go_big_quiet_step (rfl)
              go_big_quiet_step (rfl)
              go_big_quiet_step (rfl)
              go_big_quiet_step (rfl)
              refine q_nilT rfl _ rfl _ rfl ?_
              simp only [Act.put, List.setIfInBounds_toArray, List.set_cons_succ, List.set_cons_zero]
              go_big_quiet_step (rfl)
              refine qlCw rfl _ rfl g (k * 36 + 4) rfl cur _ _ (pad y.cube.1) (pad y.cube.2) (pad_len _) (pad_len _) (later_block K1.out) HC1.out ?_
              simp only [Act.put, List.setIfInBounds_toArray, List.set_cons_succ, List.set_cons_zero]
              refine qlH rfl _ rfl w.heap.size rfl H HH.out HHl ?_
              simp only [Act.put, List.setIfInBounds_toArray, List.set_cons_succ, List.set_cons_zero]
              go_big_quiet_want; go_big_quiet_op
              refine ⟨_, fun u => Calls.later_of (hcall u.world), ?_⟩
              go_big_quiet_on
              go_big_quiet_step (rfl)
              refine wpQuiet_nil ?_
              rintro w' ⟨u, rfl⟩
              go_wp2_with fail
              go_roundw
              case rel => exact ⟨k + 1, by omega, by go_num, .inr ⟨k, y, rfl, HY.out, found_take HF.out HXJ.out HY.out HMM.out HLO.out⟩, later_block HH.out _ ⟨u, rfl⟩, below_step HB.out HB.out.size u.below⟩
              case measure => simp [intOf]; omega
            · have HMM : Hid (mtS hsC ye H y = false) := by show _ = _; rw [HM.out, ← HYE.out, hh, hed]; rfl
              have hcall : ∀ W, Calls Try.prog 19 #[.agg (cv (pad y.cube.1) (pad y.cube.2)), .agg (hv H)] W fun r w' => r = .returned (.bool false) ∧ Below W.heap.size W w' := by intro W; rw [← hh]; exact HAS.out y HYO.out W
              clear hh HM
              go_wp2_with fail
              refine wp_region_later (by kernel_rfl) (by kernel_rfl) ?_
              go_big_quiet_step (rfl)
              refine q_nilT rfl _ rfl _ rfl ?_
              simp only [Act.put, List.setIfInBounds_toArray, List.set_cons_succ, List.set_cons_zero]
              go_big_quiet_step (rfl)
              go_big_quiet_step (rfl)
              go_big_quiet_step (rfl)
              go_big_quiet_step (rfl)
              go_big_quiet_step (rfl)
              go_big_quiet_step (rfl)
              go_big_quiet_step (rfl)
              go_big_quiet_step (rfl)
              go_big_quiet_step (rfl)
              refine q_nilT rfl _ rfl _ rfl ?_
              simp only [Act.put, List.setIfInBounds_toArray, List.set_cons_succ, List.set_cons_zero]
              go_big_quiet_step (rfl)
              go_big_quiet_step (rfl)
              go_big_quiet_step (rfl)
              refine q_nilT rfl _ rfl _ rfl ?_
              simp only [Act.put, List.setIfInBounds_toArray, List.set_cons_succ, List.set_cons_zero]
              go_big_quiet_step (rfl)
              go_big_quiet_step (rfl)
              go_big_quiet_step (rfl)
              go_big_quiet_step (rfl)
              go_big_quiet_step (rfl)
              go_big_quiet_step (rfl)
              go_big_quiet_step (rfl)
              refine q_nilT rfl _ rfl _ rfl ?_
              simp only [Act.put, List.setIfInBounds_toArray, List.set_cons_succ, List.set_cons_zero]
              go_big_quiet_step (rfl)
              refine qlCw rfl _ rfl g (k * 36 + 4) rfl cur _ _ (pad y.cube.1) (pad y.cube.2) (pad_len _) (pad_len _) (later_block K1.out) HC1.out ?_
              simp only [Act.put, List.setIfInBounds_toArray, List.set_cons_succ, List.set_cons_zero]
              refine qlH rfl _ rfl w.heap.size rfl H HH.out HHl ?_
              simp only [Act.put, List.setIfInBounds_toArray, List.set_cons_succ, List.set_cons_zero]
              go_big_quiet_want; go_big_quiet_op
              refine ⟨_, fun u => Calls.later_of (hcall u.world), ?_⟩
              go_big_quiet_on
              go_big_quiet_step (rfl)
              refine wpQuiet_nil ?_
              rintro w' ⟨u, rfl⟩
              go_wp2_with fail
              go_roundw
              case rel => exact ⟨k + 1, by omega, by go_num, .inr ⟨j, x, rfl, HXJ.out, found_skip HF.out HY.out HMM.out⟩, later_block HH.out _ ⟨u, rfl⟩, below_step HB.out HB.out.size u.below⟩
              case measure => simp [intOf]; omega
          · have hld : decide (yo < xo) = false := decide_eq_false hlo
            have HLO : Hid (¬ y.order < x.order) := by show ¬ _ < _; rw [← HYQ.out, ← HXO.out]; exact hlo
            clear hlo HM
            go_wp2_with fail
            refine wp_region_later (by kernel_rfl) (by kernel_rfl) ?_
            go_big_quiet_step (rfl)
            refine q_nilT rfl _ rfl _ rfl ?_
            simp only [Act.put, List.setIfInBounds_toArray, List.set_cons_succ, List.set_cons_zero]
            go_big_quiet_step (rfl)
            go_big_quiet_step (rfl)
            go_big_quiet_step (rfl)
            go_big_quiet_step (rfl)
            go_big_quiet_step (rfl)
            go_big_quiet_step (rfl)
            go_big_quiet_step (rfl)
            go_big_quiet_step (rfl)
            go_big_quiet_step (rfl)
            refine q_nilT rfl _ rfl _ rfl ?_
            simp only [Act.put, List.setIfInBounds_toArray, List.set_cons_succ, List.set_cons_zero]
            go_big_quiet_step (rfl)
            go_big_quiet_step (rfl)
            go_big_quiet_step (rfl)
            refine q_nilT rfl _ rfl _ rfl ?_
            simp only [Act.put, List.setIfInBounds_toArray, List.set_cons_succ, List.set_cons_zero]
            go_big_quiet_step (rfl)
            go_big_quiet_step (rfl)
            go_big_quiet_step (rfl)
            go_big_quiet_step (rfl)
            go_big_quiet_step (rfl)
            go_big_quiet_step (rfl)
            go_big_quiet_step (rfl)
            go_big_quiet_step (rfl)
            go_big_quiet_step (rfl)
            go_big_quiet_step (rfl)
            go_big_quiet_step (rfl)
            go_big_quiet_step (rfl)
            go_big_quiet_step (rfl)
            refine wpQuiet_nil ?_
            rintro w' ⟨u, rfl⟩
            go_wp2_with fail
            go_roundw
            case rel => exact ⟨k + 1, by omega, by go_num, .inr ⟨j, x, rfl, HXJ.out, found_stay HF.out HXJ.out HY.out (by have := HLO.out; omega)⟩, later_block HH.out _ ⟨u, rfl⟩, below_step HB.out HB.out.size u.below⟩
            case measure => simp [intOf]; omega
      · have hed : (ye == e) = false := by simpa using he
        have HNM : Hid (mtS hsC e H y = false) := by show _ = _; rw [HM.out, ← HYE.out]; simp [he]
        clear HM he
        go_wp2_with fail
        refine wp_region_later (by kernel_rfl) (by kernel_rfl) ?_
        go_big_quiet_step (rfl)
        refine q_nilT rfl _ rfl _ rfl ?_
        simp only [Act.put, List.setIfInBounds_toArray, List.set_cons_succ, List.set_cons_zero]
        go_big_quiet_step (rfl)
        go_big_quiet_step (rfl)
        go_big_quiet_step (rfl)
        go_big_quiet_step (rfl)
        go_big_quiet_step (rfl)
        go_big_quiet_step (rfl)
        go_big_quiet_step (rfl)
        go_big_quiet_step (rfl)
        go_big_quiet_step (rfl)
        go_big_quiet_step (rfl)
        go_big_quiet_step (rfl)
        go_big_quiet_step (rfl)
        go_big_quiet_step (rfl)
        go_big_quiet_step (rfl)
        go_big_quiet_step (rfl)
        go_big_quiet_step (rfl)
        go_big_quiet_step (rfl)
        go_big_quiet_step (rfl)
        go_big_quiet_step (rfl)
        go_big_quiet_step (rfl)
        go_big_quiet_step (rfl)
        go_big_quiet_step (rfl)
        go_big_quiet_step (rfl)
        go_big_quiet_step (rfl)
        go_big_quiet_step (rfl)
        go_big_quiet_step (rfl)
        go_big_quiet_step (rfl)
        refine wpQuiet_nil ?_
        rintro w' ⟨u, rfl⟩
        have HS2 : Hid (BestS (mtS hsC e H) g C (k + 1) u7) := by
          rcases HS.out with ⟨e1, hf⟩ | ⟨j, x, e1, hxj, hf⟩
          · exact .inl ⟨e1, found_skip hf HY.out HNM.out⟩
          · exact .inr ⟨j, x, e1, hxj, found_skip hf HY.out HNM.out⟩
        go_wp2_with fail
        go_roundw
        case rel => exact ⟨k + 1, by omega, by go_num, HS2.out, later_block HH.out _ ⟨u, rfl⟩, below_step HB.out HB.out.size u.below⟩
        case measure => simp [intOf]; omega
    · have hlt' : ¬ (k : Int) < (n : Int) := by omega
      obtain rfl : k = n := by omega
      go_wp2_with fail
      go_ret
      exact ⟨⟨_, rfl, HE.out _ HS.out⟩, HB.out⟩
end Go.Proofs.Ytojhckjdkafpmaa
namespace Go.Proofs.Ytojhckjdkafpmaa
open Go Go.RowKit
set_option maxRecDepth 20000

def ptrL (m : Slt → Bool) (vb : Value) (C : List Slt) : Value := match leastF m (·.order) C with
  | none => .pointer none
  | some r => .pointer (some ⟨vb.ownBlock.getD 0, r.1.length * 36, none⟩)
theorem least_any (B : Nat) (C : List Slt) (v : Value) (w : World) (hsl : SlotsAt B w v C) (e : Int) (H : List Int) (hH : Byt H) (hok : ∀ x ∈ C, OkC x.cube) :
    Calls Try.prog 64 #[v, .int .i64 e, .agg (hv H)] w fun r w' => r = .returned (ptrL (mtS hsC e H) v C) ∧ Below w.heap.size w w' := by
  obtain ⟨h1, ⟨rfl, h2⟩ | ⟨g, cap, cur, rfl, hB, hcur, h3, h4, h5, h6⟩⟩ := hsl
  · have hC : C = [] := List.eq_nil_of_length_eq_zero h2
    subst hC
    exact least_nil w e H
  · refine (leastN_any g C.length cap C w cur rfl hcur h3 h4 h6 e H hH hok).mono ?_
    rintro r w' ⟨⟨p, rfl, hp⟩, hb⟩
    refine ⟨?_, hb⟩
    unfold ptrL
    rcases hp with ⟨rfl, h⟩ | ⟨i, x, rfl, hi, hx, h⟩
    · rw [h]
    · rw [h]
      simp only [Value.ownBlock, Option.getD_some, List.length_take]
      rw [Nat.min_eq_left (by omega)]
theorem leastF_congr {m : Slt → Bool} {k k' : Slt → Int} : ∀ {C : List Slt}, (∀ y ∈ C, k y = k' y) → leastF m k C = leastF m k' C
  | [], _ => rfl
  | x :: l, h => by
    have ih := leastF_congr (m := m) (k := k) (k' := k') (C := l) fun y hy => h y (List.mem_cons_of_mem _ hy)
    unfold leastF
    rw [ih]
    cases hl : leastF m k' l with
    | none => rfl
    | some r =>
      obtain ⟨A, y, D⟩ := r
      have hy : y ∈ l := by rw [(leastF_some hl).1]; simp
      simp only
      rw [h x (by simp), h y (List.mem_cons_of_mem _ hy)]
/-- Where the slot lies that is found. -/
def findP (S : Bks) (m : Slt → Bool) (v1 v2 v3 : Value) : Value := match findT S m with
  | none => .pointer none
  | some (b, A, _, _) => .pointer (some ⟨(bankV v1 v2 v3 b).ownBlock.getD 0, A.length * 36, none⟩)
theorem findP_step {S : Bks} {m : Slt → Bool} {v1 v2 v3 : Value} (hz : ∀ x ∈ S.c, x.order = 0) (k : Nat) (hk : k < 4) (hn : ∀ b, b < k → leastF m (·.order) (bankL S b) = none) (hp : ptrL m (bankV v1 v2 v3 k) (bankL S k) ≠ .pointer none) : findP S m v1 v2 v3 = ptrL m (bankV v1 v2 v3 k) (bankL S k) := by
  have e1 : leastF m (fun _ => 0) S.c = leastF m (·.order) S.c := (leastF_congr fun y hy => hz y hy).symm
  unfold findP findT
  unfold ptrL at hp ⊢
  rw [e1]
  rcases (show k = 0 ∨ k = 1 ∨ k = 2 ∨ k = 3 by omega) with rfl | rfl | rfl | rfl
  · exact absurd rfl hp
  · have : bankL S 1 = S.c := rfl
    rw [this] at hp ⊢
    cases h : leastF m (·.order) S.c with
    | none => rw [h] at hp; exact absurd rfl hp
    | some r => rfl
  · have h1 : leastF m (·.order) S.c = none := hn 1 (by omega)
    have : bankL S 2 = S.a := rfl
    rw [this] at hp ⊢
    rw [h1]
    cases h : leastF m (·.order) S.a with
    | none => rw [h] at hp; exact absurd rfl hp
    | some r => rfl
  · have h1 : leastF m (·.order) S.c = none := hn 1 (by omega)
    have h2 : leastF m (·.order) S.a = none := hn 2 (by omega)
    have : bankL S 3 = S.p := rfl
    rw [this] at hp ⊢
    rw [h1, h2]
    cases h : leastF m (·.order) S.p with
    | none => rw [h] at hp; exact absurd rfl hp
    | some r => rfl
theorem findP_none {S : Bks} {m : Slt → Bool} {v1 v2 v3 : Value} (hz : ∀ x ∈ S.c, x.order = 0) (hn : ∀ b, b < 4 → leastF m (·.order) (bankL S b) = none) : findP S m v1 v2 v3 = .pointer none := by
  have e1 : leastF m (fun _ => 0) S.c = leastF m (·.order) S.c := (leastF_congr fun y hy => hz y hy).symm
  unfold findP findT
  have h1 : leastF m (·.order) S.c = none := hn 1 (by omega)
  have h2 : leastF m (·.order) S.a = none := hn 2 (by omega)
  have h3 : leastF m (·.order) S.p = none := hn 3 (by omega)
  rw [e1, h1, h2, h3]; rfl
theorem ptrL_none {m : Slt → Bool} {vb : Value} {C : List Slt} (h : ptrL m vb C = .pointer none) : leastF m (·.order) C = none := by
  unfold ptrL at h
  cases hl : leastF m (·.order) C with
  | none => rfl
  | some r => rw [hl] at h; simp at h
theorem ptrL_some {m : Slt → Bool} {vb : Value} {C : List Slt} (h : ptrL m vb C ≠ .pointer none) : ∃ a, ptrL m vb C = .pointer (some a) := by
  unfold ptrL at h ⊢
  cases hl : leastF m (·.order) C with
  | none => rw [hl] at h; exact absurd rfl h
  | some r => exact ⟨_, rfl⟩
set_option maxHeartbeats 8000000 in
theorem find_any (B : Nat) (w : World) (g : Nat) (R : Rm) (S : Bks) (v1 v2 v3 : Value) (h : TabV B w g R S v1 v2 v3) (e : Int) (H : List Int) (hH : Byt H) (hz : ∀ x ∈ S.c, x.order = 0) (hok : ∀ b, ∀ x ∈ bankL S b, OkC x.cube) :
    Calls Try.prog 45 #[.pointer (some ⟨g, 0, none⟩), .int .i64 e, .agg (hv H)] w fun r w' => r = .returned (findP S (mtS hsC e H) v1 v2 v3) ∧ Below w.heap.size w w' := by
  have HHl := hH.1
  have HT : Hid (∀ wr, Below w.heap.size w wr → TabV B wr g R S v1 v2 v3) := fun wr hb => h.below hb
  have HL : Hid (∀ b W, TabV B W g R S v1 v2 v3 → Calls Try.prog 64 #[bankV v1 v2 v3 b, .int .i64 e, .agg (hv H)] W fun r w' => r = .returned (ptrL (mtS hsC e H) (bankV v1 v2 v3 b) (bankL S b)) ∧ Below W.heap.size W w') := fun b W hW => least_any B _ _ W (hW.bank b) e H hH (hok b)
  have HS1 : Hid (∀ k : Nat, k < 4 → (∀ b, b < k → leastF (mtS hsC e H) (·.order) (bankL S b) = none) → ptrL (mtS hsC e H) (bankV v1 v2 v3 k) (bankL S k) ≠ .pointer none → findP S (mtS hsC e H) v1 v2 v3 = ptrL (mtS hsC e H) (bankV v1 v2 v3 k) (bankL S k)) := fun k hk hn hp => findP_step hz k hk hn hp
  have HS2 : Hid ((∀ b, b < 4 → leastF (mtS hsC e H) (·.order) (bankL S b) = none) → findP S (mtS hsC e H) v1 v2 v3 = .pointer none) := fun hn => findP_none hz hn
  clear h hH hz hok
  go_enter Try.func45, Try.ntmps45
  go_wp2_with fail
  go_loopw [11] (fun i wr => ∃ k : Nat, k ≤ 4 ∧ i = .int .i64 (k : Int) ∧ Hid (∀ b, b < k → leastF (mtS hsC e H) (·.order) (bankL S b) = none) ∧ Hid (wr.heap[w.heap.size]? = some (.cells (hv H) 34 (0, 0))) ∧ Hid (Below w.heap.size w wr)) (fun i _ => 4 - (intOf i).toNat)
  case atStart => exact ⟨0, Nat.zero_le _, rfl, fun b hb => by omega, heap_new _ _ _ rfl, (Below.refl _ _).alloc (Nat.le_refl _) _⟩
  case round =>
    obtain ⟨k, hk, rfl, HP, HH, HB⟩ := hrel
    by_cases hlt : k < 4
    · have hlt' : (k : Int) < 4 := by omega
      have T1 : Hid (TabV B wr g R S v1 v2 v3) := HT.out wr HB.out
      have d1 : ∀ u : Later wr, u.world.cell? ⟨g, 4 + k, none⟩ = some (bankV v1 v2 v3 k) := fun u => (T1.out.below u.below).f.bankCell k hlt
      have CL : Hid (∀ u : Later wr, Calls Try.prog 64 #[bankV v1 v2 v3 k, .int .i64 e, .agg (hv H)] u.world fun r w' => r = .returned (ptrL (mtS hsC e H) (bankV v1 v2 v3 k) (bankL S k)) ∧ Below u.world.heap.size u.world w') := fun u => HL.out k _ (T1.out.below u.below)
      have ne1 := Later.ne wr
      have Q1 := HS1.out k hlt HP.out
      have Q2 : ptrL (mtS hsC e H) (bankV v1 v2 v3 k) (bankL S k) = .pointer none → leastF (mtS hsC e H) (·.order) (bankL S k) = none := ptrL_none
      have Q3 : ptrL (mtS hsC e H) (bankV v1 v2 v3 k) (bankL S k) ≠ .pointer none → ∃ a, ptrL (mtS hsC e H) (bankV v1 v2 v3 k) (bankL S k) = .pointer (some a) := ptrL_some
      obtain ⟨pv, hpv⟩ : ∃ pv, pv = ptrL (mtS hsC e H) (bankV v1 v2 v3 k) (bankL S k) := ⟨_, rfl⟩
      rw [← hpv] at CL Q1 Q2 Q3
      obtain ⟨vb, hvb⟩ : ∃ vb, vb = bankV v1 v2 v3 k := ⟨_, rfl⟩
      rw [← hvb] at CL d1
      clear hpv hvb
      by_cases hnil : pv = .pointer none
      · have HQ : Hid (leastF (mtS hsC e H) (·.order) (bankL S k) = none) := Q2 hnil
        subst hnil
        clear Q1 Q2 Q3
        go_wp2_with fail
        refine wp_region_later (by kernel_rfl) (by kernel_rfl) ?_
        go_big_quiet_step (rfl)
        go_big_quiet_step (rfl)
        refine q_nilT rfl _ rfl _ rfl ?_
        simp only [Act.put, List.setIfInBounds_toArray, List.set_cons_succ, List.set_cons_zero]
        go_big_quiet_step (rfl)
        go_big_quiet_step (rfl)
        go_big_quiet_step (rfl)
        go_big_quiet_step (rfl)
        refine qlH rfl _ rfl w.heap.size rfl H HH.out HHl ?_
        simp only [Act.put, List.setIfInBounds_toArray, List.set_cons_succ, List.set_cons_zero]
        go_big_quiet_want; go_big_quiet_op
        refine ⟨_, fun u => Calls.later_of (CL.out u), ?_⟩
        go_big_quiet_on
        go_big_quiet_step (rfl)
        refine wpQuiet_nil ?_
        rintro w' ⟨u, rfl⟩
        go_wp2_with fail
        go_roundw
        case rel =>
          refine ⟨k + 1, by omega, by go_num, fun b hb => ?_, later_block HH.out _ ⟨u, rfl⟩, below_step HB.out HB.out.size u.below⟩
          by_cases hbk : b = k
          · subst hbk; exact HQ.out
          · exact HP.out b (by omega)
        case measure => simp [intOf]; omega
      · have HQ : Hid (findP S (mtS hsC e H) v1 v2 v3 = pv) := Q1 hnil
        obtain ⟨a, rfl⟩ := Q3 hnil
        clear Q1 Q2 Q3 hnil
        go_wp2_with fail
        refine wp_region_later (by kernel_rfl) (by kernel_rfl) ?_
        go_big_quiet_step (rfl)
        go_big_quiet_step (rfl)
        refine q_nilT rfl _ rfl _ rfl ?_
        simp only [Act.put, List.setIfInBounds_toArray, List.set_cons_succ, List.set_cons_zero]
        go_big_quiet_step (rfl)
        go_big_quiet_step (rfl)
        go_big_quiet_step (rfl)
        go_big_quiet_step (rfl)
        refine qlH rfl _ rfl w.heap.size rfl H HH.out HHl ?_
        simp only [Act.put, List.setIfInBounds_toArray, List.set_cons_succ, List.set_cons_zero]
        go_big_quiet_want; go_big_quiet_op
        refine ⟨_, fun u => Calls.later_of (CL.out u), ?_⟩
        go_big_quiet_on
        go_big_quiet_step (rfl)
        refine wpQuiet_nil ?_
        rintro w' ⟨u, rfl⟩
        go_wp2_with fail
        go_ret
        exact ⟨by rw [HQ.out]; rfl, below_step HB.out HB.out.size u.below⟩
    · have hlt' : ¬ (k : Int) < 4 := by omega
      have HK : Hid (k = 4) := by show _ = _; omega
      go_wp2_with fail
      go_ret
      exact ⟨by rw [HS2.out (fun b hb => HP.out b (by have := HK.out; omega))]; rfl, HB.out⟩
end Go.Proofs.Ytojhckjdkafpmaa
namespace Go.Proofs.Ytojhckjdkafpmaa
open Go Go.RowKit
set_option maxRecDepth 20000

/-- A struct slice of nothing. -/
theorem wl_build0S {ops : Array Oper} {rest : List Oper} {o : Oper} {a : Act} {w : World} {Q : Exit → Act → World → Prop} (hg : o.guard = none) (ho : o.op = .buildSlice 43 0 #[])
    (h : wpList Try.prog ops Q rest (a.put o.dst (.slice (some ⟨w.heap.size, 0, none⟩) 0 0)) (w.alloc (.cells #[] 38))) : wpList Try.prog ops Q (o :: rest) a w := by
  obtain ⟨ie, hie, hz, hs, _⟩ := SlotOk.info
  refine wpList_plain hg fun _ hK => ?_
  unfold Oper.wp execOp
  have hrun : (Instr.buildSlice 43 0 #[]).run Try.prog w = .ok (.slice (some ⟨w.heap.size, 0, none⟩) 0 0) (w.alloc (.cells #[] 38)) := by
    have h0 : Array.range 0 = #[] := Array.eq_empty_of_size_eq_zero (by simp)
    have hie' : Try.prog.info? 38 = some ie := hie
    simp [Instr.buildSlice, run_underlying Try.underlying43, sizeOf, typeInfo, hie', Instr.fill, newRow, h0]
  simp only [ho, Sem.run_bind, List.map_toArray, List.map_nil, hrun, Result.andThen_ok]
  exact hK _ _ h
theorem eq_nilS (o : Option Addr) (n c : Nat) (w : World) : (binOp .eql 43 (.slice o n c) (.slice none 0 0)).run Try.prog w = .ok (.bool o.isNone) w := by
  simp only [binOp]
  simp [run_equal_slice_nil w 43 38 o n c Try.underlying43]
theorem below_drewT (w : World) (q : Nat) : Below w.heap.size w (w.drewN q) := ⟨rfl, rfl, rfl, Nat.le_refl _, fun _ _ => rfl⟩
theorem slots0 (w : World) : SlotsAt w.heap.size (w.alloc (.cells #[] 38)) (.slice (some ⟨w.heap.size, 0, none⟩) 0 0) [] := ⟨by simp [gcells], .inr ⟨_, 0, #[], rfl, Nat.le_refl _, heap_new _ _ _ rfl, Nat.le_refl _, Nat.zero_le _, by simp, by simp [gcells]⟩⟩
theorem wl_appendSL {ops : Array Oper} {rest : List Oper} {o : Oper} {a : Act} {w : World} {Q : Exit → Act → World → Prop} (hgd : o.guard = none) (s x : Operand) (ho : o.op = .call { callee := .builtin .append, args := #[s, x], argTypes := #[43, 43] })
    (B B' : Nat) (v u : Value) (C D : List Slt) (hs : a.eval s = v) (hown : SlotsAt B w v C) (hx : a.eval x = u) (hu : SlotsAt B' w u D) (hn : C.length + D.length ≤ 1000000) (hB : B ≤ w.heap.size)
    (h : ∀ v' w', SlotsAt B w' v' (C ++ D) → w.grownBy w' v.ownBlock → wpList Try.prog ops Q rest (a.put o.dst v') w') : wpList Try.prog ops Q (o :: rest) a w :=
  wl_appendL (E := SlotE) SlotOk slotV slot_fits hgd s x ho B B' v u C D hs hown hx hu hn hB fun v' w' h1 h2 _ => h v' w' h1 h2
set_option maxHeartbeats 4000000 in
theorem clone_any (B : Nat) (C : List Slt) (v : Value) (w : World) (hv : SlotsAt B w v C) (hn : C.length ≤ 1000000) :
    Calls Try.prog 40 #[v] w fun e w' => (∃ u, e = .returned u ∧ SlotsAt w.heap.size w' u C) ∧ Below w.heap.size w w' := by
  have hv0 := hv
  have EQ := eq_nilS
  obtain ⟨h1, ⟨rfl, h2⟩ | ⟨g, cap, cur, rfl, hB, hcur, h3, h4, h5, h6⟩⟩ := hv
  · have hC : C = [] := List.eq_nil_of_length_eq_zero h2
    subst hC
    go_enter Try.func40, Try.ntmps40
    go_wp2_with fail
    go_ret
    exact ⟨⟨_, rfl, SlotsAt.nil _ _⟩, Below.refl _ _⟩
  · have B0 : Hid (Below w.heap.size w (w.alloc (.cells #[] 38))) := (Below.refl _ _).alloc (Nat.le_refl _) _
    have HV : Hid (SlotsAt B (w.alloc (.cells #[] 38)) (.slice (some ⟨g, 0, none⟩) C.length cap) C) := hv0.below B0.out
    have S0 : Hid (SlotsAt w.heap.size (w.alloc (.cells #[] 38)) (.slice (some ⟨w.heap.size, 0, none⟩) 0 0) []) := slots0 w
    clear hv0 hcur h6 h1 h5
    generalize hcl : C.length = n at HV h3 ⊢
    have HCL : Hid (C.length = n) := hcl
    clear hcl
    go_enter Try.func40, Try.ntmps40
    go_wp2_with (first | ((with_reducible refine wl_gE rfl ?_); refine wl_build0S rfl rfl ?_; try rw [sz_alloc]) | (at_builtin; refine of_stopS ?_))
    unfold StopS
    refine wl_appendSL rfl _ _ rfl w.heap.size B _ _ [] C rfl S0.out rfl HV.out (by simpa using hn) (by simp) ?_
    intro v' w3 hown3 hgr3
    have B3 : Hid (Below w.heap.size w w3) := B0.out.trans ((Below.refl _ _).grown hgr3 (by simp) fun k hk => by have h9 : some w.heap.size = some k := hk; simp only [Option.some.injEq] at h9; omega)
    have O3 : Hid (SlotsAt w.heap.size w3 v' C) := hown3
    clear hown3 hgr3
    simp only [Act.put, List.setIfInBounds_toArray, List.set_cons_succ, List.set_cons_zero]
    go_wp2_with fail
    go_ret
    exact ⟨⟨_, rfl, O3.out⟩, B3.out⟩
set_option maxHeartbeats 4000000 in
theorem full_any (B : Nat) (w : World) (g : Nat) (R : Rm) (S : Bks) (v1 v2 v3 : Value) (h : TabV B w g R S v1 v2 v3) (b : Nat) (hb : b < 4) :
    Calls Try.prog 43 #[.pointer (some ⟨g, 0, none⟩), .int .i64 (b : Int)] w fun e w' => e = .returned (.bool (decide ((bankL S b).length = roomL R b))) ∧ Below w.heap.size w w' := by
  obtain ⟨vb, hvb⟩ : ∃ vb, vb = bankV v1 v2 v3 b := ⟨_, rfl⟩
  have c1 := h.f.bankCell b hb
  have c2 := h.f.roomCell b hb
  obtain ⟨o, cap, e, he, hm⟩ := (h.bank b).slice
  unfold maxLen at hm
  rw [e] at c1
  generalize (bankL S b).length = n at c1 he ⊢
  generalize roomL R b = r at c2 ⊢
  have hb4 : (b : Int) < 4 := by omega
  clear h hvb e
  by_cases hr : n = r
  · subst hr
    go_enter Try.func43, Try.ntmps43
    go_wp2_with fail
    go_quiet (fail)
    go_wp2_with fail
    go_ret
    exact ⟨by simp, below_drewT _ _⟩
  · have hr' : ¬ (n : Int) = (r : Int) := by omega
    go_enter Try.func43, Try.ntmps43
    go_wp2_with fail
    go_quiet (fail)
    go_wp2_with fail
    go_ret
    exact ⟨by simp [hr]; omega, below_drewT _ _⟩
end Go.Proofs.Ytojhckjdkafpmaa
