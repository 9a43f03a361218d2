import Derived.Test.YthddlchkbnmcaaaGreatDoorJ18
namespace Go.Proofs.YthddlchkbnmcaaaGreatDoor
open Go Go.RowKit
set_option maxRecDepth 20000

set_option maxHeartbeats 2000000 in
theorem sameWord7_any (w : World) (k : Nat) (c0 : Cla) (u0 : Value) (c : Cla) (u : Value) (hu : ∃ o n m, u = .slice o n m) (hk : w.heap[k]? = some (.cells (claV c0 u0) 129 (0, 0))) :
    Calls Tryz.prog 100 #[.agg (claV c u), .pointer (some ⟨k, 0, none⟩)] w fun e w' => e = .returned (.bool (c.word == c0.word)) ∧ Below w.heap.size w w' := by
  obtain ⟨o, n, m, rfl⟩ := hu
  have t2 : ∀ x, (w.alloc x).cell? ⟨k, 0, none⟩ = some (.string ⟨c0.word.toArray⟩) := fun x => (cla_f (heap_past _ x _ _ hk)).1
  have n0 := heap_new w (.cells (claV c (.slice o n m)) 129) _ rfl
  have c0' : (w.alloc (.cells (claV c (.slice o n m)) 129)).cell? ⟨w.heap.size, 0, none⟩ = some (.string ⟨c.word.toArray⟩) := by rw [cell_of_row _ _ _ _ _ _ n0]; rfl
  clear hk n0
  go_enter Tryz.func100, Tryz.ntmps100
  go_wp2_with fail
  go_ret
  exact ⟨rfl, (Below.refl _ _).alloc (Nat.le_refl _) _⟩
set_option maxHeartbeats 4000000 in
theorem indexFunc7_any {R : World → Cla → Value → Prop} (hR : ∀ w c u, R w c u → ∃ o n m, u = .slice o n m) (w : World) (v : Value) (C : List Cla) (h : NSl ClaE claV R w v C) (k : Nat) (c0 : Cla) (u0 : Value) (hk : w.heap[k]? = some (.cells (claV c0 u0) 129 (0, 0))) :
    Calls Tryz.prog 116 #[v, .func (.func 100) #[] #[.pointer (some ⟨k, 0, none⟩)]] w fun e w' => (∃ i : Int, e = .returned (.int .i64 i) ∧ ((decide (0 ≤ i)) = C.any (fun c => c.word == c0.word))) ∧ Below w.heap.size w w' := by
  obtain ⟨o, cap, rfl, hcap, hm⟩ := h.slice
  have CS : Hid (∀ W c u, (∃ o n m, u = .slice o n m) → Below w.heap.size w W → Calls Tryz.prog 100 #[.agg (claV c u), .pointer (some ⟨k, 0, none⟩)] W fun e w' => e = .returned (.bool (c.word == c0.word)) ∧ Below W.heap.size W w') := fun W c u hu hb => sameWord7_any W k c0 u0 c u hu ((hb.block k (Array.getElem?_eq_some_iff.1 hk).1).trans hk)
  obtain ⟨n, hn⟩ : ∃ n, n = C.length := ⟨_, rfl⟩
  have HN : Hid (n = C.length) := hn
  rw [← hn] at h hcap ⊢
  have H : Hid (NSl ClaE claV R w (.slice o n cap) C) := h
  unfold maxLen at hm
  clear h hk hn
  go_enter Tryz.func116, Tryz.ntmps116
  go_wp2_with fail
  go_loopw [8] (fun x wr => ∃ j : Nat, j ≤ n ∧ x = .int .i64 (j : Int) ∧ Hid ((C.take j).any (fun c => c.word == c0.word) = false) ∧ Below w.heap.size w wr) (fun x _ => n - (intOf x).toNat)
  case atStart => exact ⟨0, Nat.zero_le _, rfl, rfl, Below.refl _ _⟩
  case round =>
    obtain ⟨j, hj, rfl, HJ, hb⟩ := hrel
    by_cases hlt : j < n
    · obtain ⟨g, off, cur, ty, fr, c, u, rfl, hg, hc, hCj, hr⟩ := H.out.at j hlt
      obtain ⟨o1, n1, m1, rfl⟩ := hR _ _ _ hr
      have k1 : Hid (wr.heap[g]? = some (.cells cur ty fr)) := (hb.block g (Array.getElem?_eq_some_iff.1 hg).1).trans hg
      have H1 : Hid (∀ i, i < 5 → cur[off + j * 5 + i]? = (claV c (.slice o1 n1 m1))[i]?) := hc
      have HT := any_take_succ hCj (fun c => c.word == c0.word)
      rw [HJ.out, Bool.false_or] at HT
      have HTT : Hid ((C.take (j + 1)).any (fun c => c.word == c0.word) = (c.word == c0.word)) := HT
      have hlt' : (j : Int) < (n : Int) := by omega
      clear hg hc hCj hr HT
      go_wp2_with (first
        | (refine wl_loadE (E := ClaE) ClaOk rfl _ rfl g (off + j * 5) rfl cur ty fr (claV c (.slice o1 n1 m1)) rfl k1.out H1.out ?_))
      refine (CS.out _ c _ ⟨_, _, _, rfl⟩ hb).mono ?_
      rintro e w1 ⟨rfl, hb1⟩
      have B1 := hb.trans (hb1.mono hb.size)
      clear hb hb1
      by_cases hq : (c.word == c0.word) = true
      · have HALL : Hid (C.any (fun c => c.word == c0.word) = true) := by
          show _ = _
          have := HTT.out
          rw [hq] at this
          obtain ⟨x, hx, hx2⟩ := List.any_eq_true.1 this
          exact List.any_eq_true.2 ⟨x, List.mem_of_mem_take hx, hx2⟩
        rw [hq]
        clear hq
        go_wp2_with fail
        go_ret
        refine ⟨⟨_, rfl, ?_⟩, B1⟩
        rw [HALL.out]
        simp
      · have hq' : (c.word == c0.word) = false := by simpa using hq
        rw [hq'] at HTT
        rw [hq']
        clear hq hq'
        go_wp2_with fail
        go_roundw
        case rel => exact ⟨j + 1, by omega, by go_num, HTT, B1⟩
        case measure => simp [intOf]; omega
    · have hlt' : (n : Int) ≤ (j : Int) := by omega
      have HALL : Hid (C.any (fun c => c.word == c0.word) = false) := by
        show _ = _
        have := HJ.out
        rwa [List.take_of_length_le (by have := HN.out; omega)] at this
      go_wp2_with fail
      go_ret
      refine ⟨⟨_, rfl, ?_⟩, hb⟩
      rw [HALL.out]
      decide
set_option maxHeartbeats 2000000 in
theorem containsFunc7_any {R : World → Cla → Value → Prop} (hR : ∀ w c u, R w c u → ∃ o n m, u = .slice o n m) (w : World) (v : Value) (C : List Cla) (h : NSl ClaE claV R w v C) (k : Nat) (c0 : Cla) (u0 : Value) (hk : w.heap[k]? = some (.cells (claV c0 u0) 129 (0, 0))) :
    Calls Tryz.prog 99 #[v, .func (.func 100) #[] #[.pointer (some ⟨k, 0, none⟩)]] w fun e w' => e = .returned (.bool (C.any (fun c => c.word == c0.word))) ∧ Below w.heap.size w w' := by
  have C1 : Hid (Calls Tryz.prog 116 #[v, .func (.func 100) #[] #[.pointer (some ⟨k, 0, none⟩)]] w fun e w' => (∃ i : Int, e = .returned (.int .i64 i) ∧ ((decide (0 ≤ i)) = C.any (fun c => c.word == c0.word))) ∧ Below w.heap.size w w') := indexFunc7_any hR w v C h k c0 u0 hk
  obtain ⟨b, hb⟩ : ∃ b, b = C.any (fun c => c.word == c0.word) := ⟨_, rfl⟩
  rw [← hb] at C1 ⊢
  clear h hk hb
  go_enter Tryz.func99, Tryz.ntmps99
  go_wp2_with fail
  refine C1.out.mono ?_
  rintro e w1 ⟨⟨i, rfl, hi⟩, hb1⟩
  have HI : Hid (decide (0 ≤ i) = b) := hi
  clear hi
  go_wp2_with fail
  go_ret
  refine ⟨?_, hb1⟩
  rw [← HI.out]
  rfl

theorem outF_zero (f : Fig) (low high : Int) : (outF f low high).1 = 0 ↔ ¬ (decide (f.n < low) || decide (high < f.n)) = true := by
  unfold outF
  split
  · rename_i h; simp [h]
  · rename_i h; simp [h]
theorem numF_step (c : Cla) (j : Nat) (f : Fig) (l : List Fig) : numF c j (f :: l) = if (outF f (lowN c j) (mostN c.word j)).1 = 0 then numF c (j + 1) l else outF f (lowN c j) (mostN c.word j) := by
  rw [numF]
  by_cases h : (decide (f.n < lowN c j) || decide (mostN c.word j < f.n)) = true
  · rw [if_pos h, if_neg (by rw [outF_zero]; simp [h])]
    unfold outF
    rw [if_pos h]
  · rw [if_neg h, if_pos (by rw [outF_zero]; exact h)]
set_option maxHeartbeats 4000000 in
theorem numbers_any (c : Cla) (u : Value) (w : World) (hu : FigsAt w c u) :
    Calls Tryz.prog 102 #[.agg (claV c u)] w fun x w' => x = .returned (.agg (fltV (numF c 0 c.nums))) ∧ Below w.heap.size w w' := by
  have BO : Hid (∀ (i : Nat) W, Below w.heap.size w W → i < c.nums.length → Calls Tryz.prog 117 #[.agg (claV c u), .int .i64 (i : Int)] W fun x w' => x = .returned (.tuple #[.int .i64 (lowN c i), .int .i64 (mostN c.word i)]) ∧ Below W.heap.size W w') := fun i W hb hi => bounds_any c u i W (figs_below _ _ _ _ hb hu) hi
  have OU : Hid (∀ (f : Fig) (low high : Int) W, Calls Tryz.prog 73 #[.agg (figV f), .int .i64 low, .int .i64 high] W fun x w' => x = .returned (.agg (fltV (outF f low high))) ∧ Below W.heap.size W w') := outside_any
  obtain ⟨o, cap, rfl, hc1, hc2⟩ := GSl.slice hu
  obtain ⟨n, hn⟩ : ∃ n, n = c.nums.length := ⟨_, rfl⟩
  have HN : Hid (n = c.nums.length) := hn
  rw [← hn] at hu hc1 BO ⊢
  unfold maxLen at hc2
  have HU : Hid (FigsAt w c (.slice o n cap)) := hu
  have b1 : Hid (((w.alloc (.cells (claV c (.slice o n cap)) 129)).alloc (.cells #[.int .i64 0, .int .i64 0] 94)).heap[w.heap.size]? = some (.cells (claV c (.slice o n cap)) 129 (0, 0))) := heap_past _ _ _ _ (heap_new _ _ _ rfl)
  have b2 : Hid (((w.alloc (.cells (claV c (.slice o n cap)) 129)).alloc (.cells #[.int .i64 0, .int .i64 0] 94)).heap[w.heap.size + 1]? = some (.cells #[.int .i64 0, .int .i64 0] 94 (0, 0))) := heap_new _ _ _ (by simp)
  have c2 := (cla_f b1.out).2.2.1
  clear hu hn
  go_enter Tryz.func102, Tryz.ntmps102
  go_wp2_with fail
  clear c2
  go_loopw [11] (fun x wr => ∃ j : Nat, j ≤ n ∧ x = .int .i64 (j : Int) ∧ Hid (numF c 0 c.nums = numF c j (c.nums.drop j)) ∧ wr.heap[w.heap.size]? = some (.cells (claV c (.slice o n cap)) 129 (0, 0)) ∧ wr.heap[w.heap.size + 1]? = some (.cells #[.int .i64 0, .int .i64 0] 94 (0, 0)) ∧ Below w.heap.size w wr) (fun x _ => n - (intOf x).toNat)
  case atStart => exact ⟨0, Nat.zero_le _, rfl, rfl, b1.out, b2.out, below2 _ _ _⟩
  case round =>
    clear b1 b2
    obtain ⟨j, hj, rfl, HJ, hr1, hr2, hb⟩ := hrel
    have R1 : Hid (wr.heap[w.heap.size]? = some (.cells (claV c (.slice o n cap)) 129 (0, 0))) := hr1
    have R2 : Hid (wr.heap[w.heap.size + 1]? = some (.cells #[.int .i64 0, .int .i64 0] 94 (0, 0))) := hr2
    have HB : Hid (Below w.heap.size w wr) := hb
    clear hr1 hr2 hb
    by_cases hlt : j < n
    · obtain ⟨g, off, cur, ty, fr, f, rfl, hg, hc, hFj⟩ := HU.out.at j hlt
      have K1 : Hid (wr.heap[g]? = some (.cells cur ty fr)) := (HB.out.block g (Array.getElem?_eq_some_iff.1 hg).1).trans hg
      have H1 : Hid (∀ q, q < 2 → cur[off + j * 2 + q]? = (figV f)[q]?) := hc
      have HD : Hid (c.nums.drop j = f :: c.nums.drop (j + 1)) := by
        obtain ⟨hk, rfl⟩ := List.getElem?_eq_some_iff.1 hFj
        exact List.drop_eq_getElem_cons hk
      have hlt' : (j : Int) < (n : Int) := by omega
      have BA : Hid (Below wr.heap.size wr (wr.alloc (.cells (figV f) 89))) := (Below.refl _ _).alloc (Nat.le_refl _) _
      have HLT : Hid (j < n) := hlt
      clear hg hc hFj hlt
      go_wp2_with (first
        | (refine wl_loadE (E := FigE) FigOk rfl _ rfl g (off + j * 2) rfl cur ty fr (figV f) rfl K1.out H1.out ?_)
        | (refine wl_storeE (E := FigE) FigOk rfl _ _ rfl wr.heap.size (figV f) (fig_fits _) rfl rfl _ (heap_new _ _ _ rfl) rfl _ (setRow_new _ _ _ _ _ rfl) ?_)
        | (refine wl_loadE (E := ClaE) ClaOk rfl _ rfl w.heap.size 0 rfl _ _ _ (claV c (.slice (some ⟨g, off, none⟩) n cap)) rfl (heap_past _ _ _ _ R1.out) (own_cells _ _) ?_))
      refine (BO.out j _ (HB.out.trans (BA.out.mono HB.out.size)) HLT.out).mono ?_
      rintro e w1 ⟨rfl, hb1⟩
      have B1 : Hid (Below wr.heap.size wr w1) := BA.out.trans (hb1.mono BA.out.size)
      have KF : Hid (w1.heap[wr.heap.size]? = some (.cells (figV f) 89 (0, 0))) := (hb1.block _ (by simp)).trans (heap_new _ _ _ rfl)
      clear hb1 BA
      obtain ⟨F, hF⟩ : ∃ F, F = outF f (lowN c j) (mostN c.word j) := ⟨_, rfl⟩
      have CO : Hid (∀ W, Calls Tryz.prog 73 #[.agg (figV f), .int .i64 (lowN c j), .int .i64 (mostN c.word j)] W fun x w' => x = .returned (.agg (fltV F)) ∧ Below W.heap.size W w') := fun W => by rw [hF]; exact OU.out f _ _ W
      have HST : Hid (numF c j (f :: c.nums.drop (j + 1)) = if F.1 = 0 then numF c (j + 1) (c.nums.drop (j + 1)) else F) := by rw [hF]; exact numF_step c j f _
      obtain ⟨lo, hlo⟩ : ∃ lo, lo = lowN c j := ⟨_, rfl⟩
      obtain ⟨hi, hhi⟩ : ∃ hi, hi = mostN c.word j := ⟨_, rfl⟩
      rw [← hlo, ← hhi] at CO ⊢
      clear hF hlo hhi
      go_wp2_with (first
        | (refine wl_loadE (E := FigE) FigOk rfl _ rfl wr.heap.size 0 rfl _ _ _ (figV f) rfl KF.out (own_cells _ _) ?_))
      refine (CO.out _).mono ?_
      rintro e w2 ⟨rfl, hb2⟩
      have B2 : Hid (Below wr.heap.size wr w2) := B1.out.trans (hb2.mono B1.out.size)
      clear hb2
      have KN : Hid ((w2.alloc (.cells (fltV F) 94)).heap[w2.heap.size]? = some (.cells (fltV F) 94 (0, 0))) := heap_new _ _ _ rfl
      have n0 : (w2.alloc (.cells (fltV F) 94)).cell? ⟨w2.heap.size, 0, none⟩ = some (.int .i64 F.1) := by rw [cell_of_row _ _ _ _ _ _ KN.out]; rfl
      have B3 : Hid (Below wr.heap.size wr (w2.alloc (.cells (fltV F) 94))) := B2.out.alloc B2.out.size _
      have zr : Hid (w.heap.size + 1 < wr.heap.size) := (Array.getElem?_eq_some_iff.1 R2.out).1
      by_cases hz : F.1 = 0
      · have hz' : (F.1 != 0) = false := by simp [hz]
        have HE : Hid (numF c 0 c.nums = numF c (j + 1) (c.nums.drop (j + 1))) := by
          show _ = _
          rw [HJ.out, HD.out, HST.out, if_pos hz]
        clear hz
        go_wp2_with (first
          | (refine wl_storeE (E := FltE) FltOk rfl _ _ rfl w2.heap.size (fltV F) (flt_fits _) rfl rfl _ (heap_new _ _ _ rfl) rfl _ (setRow_new _ _ _ _ _ rfl) ?_))
        go_roundw
        case rel =>
          have z := zr.out
          exact ⟨j + 1, by omega, by go_num, HE, (B3.out.block _ (by omega)).trans R1.out, (B3.out.block _ (by omega)).trans R2.out, HB.out.trans (B3.out.mono HB.out.size)⟩
        case measure =>
          have := HLT.out
          simp [intOf]; omega
      · have hz' : (F.1 != 0) = true := by simp [hz]
        have HE : Hid (numF c 0 c.nums = F) := by
          show _ = _
          rw [HJ.out, HD.out, HST.out, if_neg hz]
        have KR : Hid ((w2.alloc (.cells (fltV F) 94)).heap[w.heap.size + 1]? = some (.cells #[.int .i64 0, .int .i64 0] 94 (0, 0))) := (B3.out.block _ zr.out).trans R2.out
        clear hz
        go_wp2_with (first
          | (refine wl_storeE (E := FltE) FltOk rfl _ _ rfl w2.heap.size (fltV F) (flt_fits _) rfl rfl _ (heap_new _ _ _ rfl) rfl _ (setRow_new _ _ _ _ _ rfl) ?_)
          | (refine wl_loadE (E := FltE) FltOk rfl _ rfl w2.heap.size 0 rfl _ _ _ (fltV F) rfl KN.out (own_cells _ _) ?_)
          | (refine wl_storeE (E := FltE) FltOk rfl _ _ rfl (w.heap.size + 1) (fltV F) (flt_fits _) rfl rfl _ KR.out rfl _ rfl ?_))
        refine retE (E := FltE) FltOk rfl rfl (w.heap.size + 1) rfl (fltV F) rfl (setRow_heap _ _ _ _ _ _ KR.out) ?_
        exact ⟨by rw [HE.out], below_setRow (HB.out.trans (B3.out.mono HB.out.size)) (by omega) _⟩
    · have hlt' : (n : Int) ≤ (j : Int) := by omega
      have HE : Hid (numF c 0 c.nums = (0, 0)) := by
        show _ = _
        rw [HJ.out, List.drop_of_length_le (by have := HN.out; omega)]
        rfl
      clear hlt
      go_wp2_with (first
        | (refine wl_storeE (E := FltE) FltOk rfl _ _ rfl (w.heap.size + 1) (fltV (0, 0)) (flt_fits _) rfl rfl _ R2.out rfl _ rfl ?_))
      refine retE (E := FltE) FltOk rfl rfl (w.heap.size + 1) rfl (fltV (0, 0)) rfl (setRow_heap _ _ _ _ _ _ R2.out) ?_
      exact ⟨by rw [HE.out], below_setRow HB.out (by omega) _⟩
end Go.Proofs.YthddlchkbnmcaaaGreatDoor
namespace Go.Proofs.YthddlchkbnmcaaaGreatDoor
open Go Go.RowKit
set_option maxRecDepth 20000

theorem later_cell7 {W : World} {g k : Nat} {cs : Array Value} {t : TypeId} {fr : Nat × Nat} {v : Value} (hg : W.heap[g]? = some (.cells cs t fr)) (hk : cs[k]? = some v) : ∀ u : Later W, u.world.cell? ⟨g, k, none⟩ = some v := fun u => by
  rw [cell_of_row u.world _ _ _ _ _ (later_block hg _ ⟨u, rfl⟩)]; exact hk
theorem figs_slice7 (w : World) (c : Cla) (u : Value) (h : FigsAt w c u) : ∃ o n m, u = .slice o n m := by
  obtain ⟨o, cap, rfl, _⟩ := GSl.slice h
  exact ⟨_, _, _, rfl⟩
/-- A row that lies in a block of its own. -/
theorem gsl_row {α : Type} {E : El} {enc : α → Array Value} (hE : ∀ c, (enc c).size = E.size) {w : World} {g : Nat} {C : List α} {t : TypeId} {fr : Nat × Nat} (h : w.heap[g]? = some (.cells (gcells enc C).toArray t fr)) (hl : C.length ≤ maxLen) : GSl E enc w (.slice (some ⟨g, 0, none⟩) C.length C.length) C :=
  ⟨_, _, rfl, Nat.le_refl _, hl, fun i hi => ⟨g, 0, _, _, _, rfl, h, fun j hj => by
    rw [← gcells_at enc E.size C (fun c _ => hE c) i hi j hj, Nat.zero_add, Nat.mul_comm]
    simp⟩⟩
theorem wl_build3F {ops : Array Oper} {rest : List Oper} {o : Oper} {a : Act} {w : World} {Q : Exit → Act → World → Prop} (hg : o.guard = none) (x y z : Operand) (ho : o.op = .buildSlice 124 3 #[(0, x), (1, y), (2, z)]) (p q r : Int × Int) (hx : a.eval x = .agg (fltV p)) (hy : a.eval y = .agg (fltV q)) (hz : a.eval z = .agg (fltV r))
    (h : wpList Tryz.prog ops Q rest (a.put o.dst (.slice (some ⟨w.heap.size, 0, none⟩) 3 3)) (w.alloc (.cells (gcells fltV [p, q, r]).toArray 94))) : wpList Tryz.prog ops Q (o :: rest) a w := by
  obtain ⟨ie, hie, hze, hs, _⟩ := FltOk.info
  have hs' : ie.size = 2 := hs
  refine wpList_buildSlice hg 124 94 3 _ ho _ ie (.agg FltE.zero) FltOk.hs hie hze (by rw [hs']; decide) (by rw [hs']; decide) ?_ h
  simp only [List.map_toArray, List.map_cons, List.map_nil, hx, hy, hz, hs']
  kernel_rfl
theorem wl_build4F {ops : Array Oper} {rest : List Oper} {o : Oper} {a : Act} {w : World} {Q : Exit → Act → World → Prop} (hg : o.guard = none) (x y z t : Operand) (ho : o.op = .buildSlice 124 4 #[(0, x), (1, y), (2, z), (3, t)]) (p q r s : Int × Int) (hx : a.eval x = .agg (fltV p)) (hy : a.eval y = .agg (fltV q)) (hz : a.eval z = .agg (fltV r)) (ht : a.eval t = .agg (fltV s))
    (h : wpList Tryz.prog ops Q rest (a.put o.dst (.slice (some ⟨w.heap.size, 0, none⟩) 4 4)) (w.alloc (.cells (gcells fltV [p, q, r, s]).toArray 94))) : wpList Tryz.prog ops Q (o :: rest) a w := by
  obtain ⟨ie, hie, hze, hs, _⟩ := FltOk.info
  have hs' : ie.size = 2 := hs
  refine wpList_buildSlice hg 124 94 4 _ ho _ ie (.agg FltE.zero) FltOk.hs hie hze (by rw [hs']; decide) (by rw [hs']; decide) ?_ h
  simp only [List.map_toArray, List.map_cons, List.map_nil, hx, hy, hz, ht, hs']
  kernel_rfl
def whenF (b : Bool) (e p : Int) : Int × Int := if b then (e, p) else (0, 0)
theorem whenF_any (b : Bool) (e p : Int) (w : World) :
    Calls Tryz.prog 46 #[.bool b, .int .i64 e, .int .i64 p] w fun x w' => x = .returned (.agg (fltV (whenF b e p))) ∧ Below w.heap.size w w' := when_any b e p w
theorem first3 (had : List Cla) (c : Cla) : firstF [whenF (((c.nums.length : Int)) != manyI c) 8 c.pos, whenF (had.any (fun d => d.word == c.word)) 9 c.pos, numF c 0 c.nums] = claF had c := by
  rw [many_ne]
  have hz : ∀ (l : List Fig) (k : Nat), (numF c k l).1 = 0 → numF c k l = (0, 0) := by
    intro l
    induction l with
    | nil => intro k _; rfl
    | cons f l ih =>
      intro k h
      rw [numF] at h ⊢
      split
      · rename_i hh; rw [if_pos hh] at h; simp at h
      · rename_i hh; rw [if_neg hh] at h; exact ih _ h
  unfold claF whenF
  generalize (mustN c == 0 || c.nums.length != mustN c) = b1
  generalize (had.any fun d => d.word == c.word) = b2
  cases b1
  · cases b2
    · simp only [firstF, Bool.false_eq_true, if_false, if_true]
      split
      · rename_i h; exact (hz _ _ h).symm
      · rfl
    · simp [firstF]
  · simp [firstF]

set_option maxHeartbeats 4000000 in
theorem clauseF_any (had : List Cla) (c : Cla) (u va : Value) (w : World) (hu : FigsAt w c u) (ha : NSl ClaE claV FigsAt w va had) :
    Calls Tryz.prog 74 #[.agg (claV c u), va] w fun x w' => x = .returned (.agg (fltV (claF had c))) ∧ Below w.heap.size w w' := by
  obtain ⟨o, cap, rfl, hc1, hc2⟩ := GSl.slice hu
  obtain ⟨oa, capa, rfl, -, -⟩ := NSl.slice ha
  have hmf : ∀ (fn : Fn) (first cap : Array Value) (w : World), (Instr.makeFunc fn first cap).run Tryz.prog w = .ok (.func fn first cap) w := fun _ _ _ _ => rfl
  obtain ⟨n, hn⟩ : ∃ n, n = c.nums.length := ⟨_, rfl⟩
  have HN : Hid (n = c.nums.length) := hn
  rw [← hn] at hu hc1 ⊢
  have CF : Hid (∀ W, Below w.heap.size w W → W.heap[w.heap.size]? = some (.cells (claV c (.slice o n cap)) 129 (0, 0)) → Calls Tryz.prog 99 #[.slice oa had.length capa, .func (.func 100) #[] #[.pointer (some ⟨w.heap.size, 0, none⟩)]] W fun e w' => e = .returned (.bool (had.any (fun d => d.word == c.word))) ∧ Below W.heap.size W w') := fun W hb hk => containsFunc7_any figs_slice7 W _ had (NSl.below figs_below ha hb) w.heap.size c _ hk
  have MA : Hid (∀ W, Calls Tryz.prog 101 #[.agg (claV c (.slice o n cap))] W fun x w' => x = .returned (.int .i64 (manyI c)) ∧ Below W.heap.size W w') := fun W => many7_any c _ ⟨_, _, _, rfl⟩ W
  have WH : Hid (∀ b e p W, Calls Tryz.prog 46 #[.bool b, .int .i64 e, .int .i64 p] W fun x w' => x = .returned (.agg (fltV (whenF b e p))) ∧ Below W.heap.size W w') := whenF_any
  have NU : Hid (∀ W, Below w.heap.size w W → Calls Tryz.prog 102 #[.agg (claV c (.slice o n cap))] W fun x w' => x = .returned (.agg (fltV (numF c 0 c.nums))) ∧ Below W.heap.size W w') := fun W hb => numbers_any c _ W (figs_below _ _ _ _ hb hu)
  have FI : Hid (∀ F v W, GSl FltE fltV W v F → Calls Tryz.prog 45 #[v] W fun e w' => e = .returned (.agg (fltV (firstF F))) ∧ Below W.heap.size W w') := first7_any
  have b1 : Hid (((w.alloc (.cells (claV c (.slice o n cap)) 129)).alloc (.cells #[.int .i64 0, .int .i64 0] 94)).heap[w.heap.size]? = some (.cells (claV c (.slice o n cap)) 129 (0, 0))) := heap_past _ _ _ _ (heap_new _ _ _ rfl)
  have b2 : Hid (((w.alloc (.cells (claV c (.slice o n cap)) 129)).alloc (.cells #[.int .i64 0, .int .i64 0] 94)).heap[w.heap.size + 1]? = some (.cells #[.int .i64 0, .int .i64 0] 94 (0, 0))) := heap_new _ _ _ (by simp)
  have B0 : Hid (Below w.heap.size w ((w.alloc (.cells (claV c (.slice o n cap)) 129)).alloc (.cells #[.int .i64 0, .int .i64 0] 94))) := below2 _ _ _
  have H3 := first3 had c
  rw [← hn] at H3
  have HF : Hid (firstF [whenF ((n : Int) != manyI c) 8 c.pos, whenF (had.any (fun d => d.word == c.word)) 9 c.pos, numF c 0 c.nums] = claF had c) := H3
  obtain ⟨st, hst⟩ : ∃ st, st = had.any (fun d => d.word == c.word) := ⟨_, rfl⟩
  obtain ⟨ma, hma⟩ : ∃ ma, ma = manyI c := ⟨_, rfl⟩
  obtain ⟨nf, hnf⟩ : ∃ nf, nf = numF c 0 c.nums := ⟨_, rfl⟩
  rw [← hst] at CF HF
  rw [← hma] at MA HF
  rw [← hnf] at NU HF
  clear hu ha H3 hst hma hnf hn
  go_enter Tryz.func74, Tryz.ntmps74
  go_wp2_with fail
  refine (CF.out _ B0.out b1.out).mono ?_
  rintro e w1 ⟨rfl, hb1⟩
  have r1 : w1.heap[w.heap.size]? = some (.cells (claV c (.slice o n cap)) 129 (0, 0)) := (hb1.block _ (by simp; omega)).trans b1.out
  have r2 : w1.heap[w.heap.size + 1]? = some (.cells #[.int .i64 0, .int .i64 0] 94 (0, 0)) := (hb1.block _ (by simp)).trans b2.out
  have B1 : Hid (Below w.heap.size w w1) := B0.out.trans (hb1.mono (by simp; omega))
  clear hb1 b1 b2 B0 CF
  go_wp2_with fail
  have l1 : ∀ u : Later w1, u.world.cell? ⟨w.heap.size, 1, none⟩ = some (.int .i64 c.pos) := later_cell7 r1 rfl
  have l2 : ∀ u : Later w1, u.world.cell? ⟨w.heap.size, 2, none⟩ = some (.slice o n cap) := later_cell7 r1 rfl
  have ne1 := Later.ne w1
  refine wp_region_latertail 15 (by kernel_rfl) (by kernel_rfl) ?_
  simp only [List.take_succ_cons, List.take_zero, List.drop_succ_cons, List.drop_zero]
  go_big_quiet_step (rfl)
  go_big_quiet_step (rfl)
  go_big_quiet_step (rfl)
  refine qlE (E := ClaE) ClaOk rfl _ rfl w.heap.size 0 rfl _ _ _ (claV c (.slice o n cap)) rfl (later_block r1) (own_cells _ _) ?_
  simp only [Act.put, List.setIfInBounds_toArray, List.set_cons_succ, List.set_cons_zero]
  go_big_quiet_want; go_big_quiet_op
  refine ⟨_, fun u => Calls.later_of (MA.out u.world), ?_⟩
  go_big_quiet_on
  go_big_quiet_step (rfl)
  go_big_quiet_step (rfl)
  go_big_quiet_step (rfl)
  go_big_quiet_want; go_big_quiet_op
  refine ⟨_, fun u => Calls.later_of (WH.out _ _ _ u.world), ?_⟩
  go_big_quiet_on
  go_big_quiet_step (rfl)
  go_big_quiet_step (rfl)
  go_big_quiet_step (rfl)
  go_big_quiet_want; go_big_quiet_op
  refine ⟨_, fun u => Calls.later_of (WH.out _ _ _ u.world), ?_⟩
  go_big_quiet_on
  refine qlE (E := ClaE) ClaOk rfl _ rfl w.heap.size 0 rfl _ _ _ (claV c (.slice o n cap)) rfl (later_block r1) (own_cells _ _) ?_
  simp only [Act.put, List.setIfInBounds_toArray, List.set_cons_succ, List.set_cons_zero]
  go_big_quiet_want; go_big_quiet_op
  refine ⟨_, fun u => Calls.later_of (NU.out u.world (B1.out.trans (u.below.mono B1.out.size))), ?_⟩
  go_big_quiet_on
  refine wpQuiet_nil ?_
  rintro w' ⟨u, rfl⟩
  have k2 : Hid (u.world.heap[w.heap.size + 1]? = some (.cells #[.int .i64 0, .int .i64 0] 94 (0, 0))) := later_block r2 _ ⟨u, rfl⟩
  have BU : Hid (Below w.heap.size w u.world) := B1.out.trans (u.below.mono B1.out.size)
  obtain ⟨W2, hW2⟩ : ∃ W2, W2 = u.world := ⟨_, rfl⟩
  rw [← hW2] at k2 BU ⊢
  clear hW2 l1 l2 ne1 r1 r2 B1 NU MA
  refine wl_build3F rfl _ _ _ rfl _ _ _ rfl rfl rfl ?_
  simp only [Act.put, List.setIfInBounds_toArray, List.set_cons_succ, List.set_cons_zero]
  have G3 : Hid (GSl FltE fltV (W2.alloc (.cells (gcells fltV [whenF ((n : Int) != ma) 8 c.pos, whenF st 9 c.pos, nf]).toArray 94)) (.slice (some ⟨W2.heap.size, 0, none⟩) 3 3) [whenF ((n : Int) != ma) 8 c.pos, whenF st 9 c.pos, nf]) := gsl_row (E := FltE) (C := [whenF ((n : Int) != ma) 8 c.pos, whenF st 9 c.pos, nf]) (fun _ => rfl) (heap_new _ _ _ rfl) (by show 3 ≤ _; decide)
  go_wp2_with fail
  refine (FI.out _ _ _ G3.out).mono ?_
  rintro e w3 ⟨rfl, hb3⟩
  rw [HF.out]
  have k3 : Hid (w3.heap[w.heap.size + 1]? = some (.cells #[.int .i64 0, .int .i64 0] 94 (0, 0))) := (hb3.block _ (by have := (Array.getElem?_eq_some_iff.1 k2.out).1; simp; omega)).trans (heap_past _ _ _ _ k2.out)
  have B3 : Hid (Below w.heap.size w w3) := (BU.out.alloc BU.out.size _).trans (hb3.mono (BU.out.alloc BU.out.size _).size)
  clear hb3 G3
  go_wp2_with (first
    | (refine wl_storeE (E := FltE) FltOk rfl _ _ rfl (w.heap.size + 1) (fltV (claF had c)) (flt_fits _) rfl rfl _ k3.out rfl _ rfl ?_))
  refine retE (E := FltE) FltOk rfl rfl (w.heap.size + 1) rfl (fltV (claF had c)) rfl (setRow_heap _ _ _ _ _ _ k3.out) ?_
  exact ⟨rfl, below_setRow B3.out (by omega) _⟩
end Go.Proofs.YthddlchkbnmcaaaGreatDoor
