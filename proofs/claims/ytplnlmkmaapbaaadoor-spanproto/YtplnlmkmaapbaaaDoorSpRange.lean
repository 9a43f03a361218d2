import Derived.Test.YtplnlmkmaapbaaaDoorSl
import Derived.Test.YtplnlmkmaapbaaaDoorSpMath
namespace Go.Proofs.YtplnlmkmaapbaaaDoor
open Go Go.RowKit

/-- The cells of a piece. -/
abbrev pv (n b : Int) : Array Value := #[.int .i64 n, .int .i64 b]

set_option maxHeartbeats 1000000 in
theorem size_any (n : Int) (b : Nat) (hb : b ≤ 16) (w : World) :
    Calls Tryd.prog 30 #[.agg (pv n (b : Int))] w fun e w' => e = .returned (.int .i64 ((sz b : Nat) : Int)) ∧ Below w.heap.size w w' := by
  have h : b = 0 ∨ b = 1 ∨ b = 2 ∨ b = 3 ∨ b = 4 ∨ b = 5 ∨ b = 6 ∨ b = 7 ∨ b = 8 ∨ b = 9 ∨ b = 10 ∨ b = 11 ∨ b = 12 ∨ b = 13 ∨ b = 14 ∨ b = 15 ∨ b = 16 := by omega
  clear hb
  rcases h with h | h | h | h | h | h | h | h | h | h | h | h | h | h | h | h | h
  all_goals
    subst h
    go_enter Tryd.func30, Tryd.ntmps30
    go_wp2
    go_ret
    exact ⟨rfl, (Below.refl _ _).alloc (Nat.le_refl _) _⟩

theorem infoP : ∃ i, Tryd.prog.info? 50 = some i ∧ i.zero = some (.agg (pv 0 0)) ∧ i.size = 2 ∧ i.bytes = 16 := by
  cases h : Tryd.prog.info? 50 with
  | none => exact absurd (show (Tryd.prog.info? 50).isSome = true by kernel_rfl) (by rw [h]; simp)
  | some i =>
    have h1 : (Tryd.prog.info? 50).map (fun i => (i.zero, i.size, i.bytes)) = some (some (.agg (pv 0 0)), 2, 16) := by kernel_rfl
    rw [h] at h1
    simp only [Option.map_some, Option.some.injEq, Prod.mk.injEq] at h1
    exact ⟨i, rfl, h1.1, h1.2.1, h1.2.2⟩
theorem sizeP (n b : Int) : (Tryd.prog.info? 50).map (·.size) = some (pv n b).size := by kernel_rfl
theorem oneP (n b : Int) : (pv n b).all (·.oneCell') = true := by simp [pv, Value.oneCell']

/-- A piece that lies within a block, from a place on. -/
theorem load_piece (w : World) (g off : Nat) (cs : Array Value) (t : TypeId) (fr : Nat × Nat) (n b : Int) (hg : w.heap[g]? = some (.cells cs t fr)) (hc : ∀ j, j < 2 → cs[off + j]? = (pv n b)[j]?) :
    (loadVar 50 ⟨g, off, none⟩).run Tryd.prog w = .ok (.agg (pv n b)) w := by
  have hl : (loadCells ⟨g, off, none⟩ (pv n b).toList.length).run Tryd.prog w = .ok (pv n b).toList.toArray w :=
    run_loadCells_list (P := Tryd.prog) w ⟨g, off, none⟩ (pv n b).toList (fun j v hv => by
      have hadd : (⟨g, off, none⟩ : Addr).add j = ⟨g, off + j, none⟩ := by unfold Addr.add; split <;> simp_all
      have hj : j < 2 := by
        have := (List.getElem?_eq_some_iff.1 hv).1
        simpa using this
      rw [hadd, cell_of_row w g (off + j) cs t fr hg, hc j hj]
      simpa using hv)
  obtain ⟨i, hq, _, hs, _⟩ := infoP
  have hagg : (isAgg 50).run Tryd.prog w = .ok true w := by
    unfold isAgg
    rw [Sem.run_bind, run_underlying Tryd.underlying50 w]
    rfl
  rw [Array.length_toList, Array.toArray_toList] at hl
  have hl' : (loadCells ⟨g, off, none⟩ 2).run Tryd.prog w = .ok (pv n b) w := hl
  simp [loadVar, Sem.run_bind, hagg, sizeOf, typeInfo, hq, hs, hl']
theorem wl_loadP {ops : Array Oper} {rest : List Oper} {o : Oper} {a : Act} {w : World} {Q : Exit → Act → World → Prop} (hw : Region.wanted o (yielded ops a.tmps) = true) (x : Operand) (ho : o.op = .load 50 x)
    (g off : Nat) (hx : a.eval x = .pointer (some ⟨g, off, none⟩)) (cs : Array Value) (t : TypeId) (fr : Nat × Nat) (n b : Int) (hg : w.heap[g]? = some (.cells cs t fr)) (hc : ∀ j, j < 2 → cs[off + j]? = (pv n b)[j]?)
    (h : wpList Tryd.prog ops Q rest (a.put o.dst (.agg (pv n b))) w) : wpList Tryd.prog ops Q (o :: rest) a w := by
  refine wpList_step fun K hK => ?_
  rw [if_pos hw]
  unfold Oper.wp execOp
  simp only [ho, hx, Instr.loadAt, Instr.sureAddr, Sem.run_bind, Sem.run_pure, Result.andThen_ok, load_piece w g off cs t fr n b hg hc]
  exact hK _ _ h
theorem own_piece (n b : Int) : ∀ j, j < 2 → (pv n b)[0 + j]? = (pv n b)[j]? := fun j _ => by rw [Nat.zero_add]
/-- A whole piece is stored into a block that holds one. -/
theorem wl_storeP {ops : Array Oper} {rest : List Oper} {o : Oper} {a : Act} {w : World} {Q : Exit → Act → World → Prop} (hgd : o.guard = none) (x y : Operand) (ho : o.op = .store 50 x y)
    (g : Nat) (n b : Int) (hx : a.eval x = .pointer (some ⟨g, 0, none⟩)) (hy : a.eval y = .agg (pv n b)) (n0 b0 : Int) (hg : w.heap[g]? = some (.cells (pv n0 b0) 50 (0, 0)))
    (w' : World) (hw' : w.setRow g (pv n b) = w')
    (h : wpList Tryd.prog ops Q rest (a.put o.dst undef) w') : wpList Tryd.prog ops Q (o :: rest) a w :=
  wpList_store_row hgd 50 x y ho g (pv n b) hx hy 50 (pv n0 b0) hg (sizeP n b) rfl (oneP n b) (by rw [hw']; exact h)
/-- The end of a function whose one result is a piece in memory. -/
theorem retP {fn : Func} {R : Ending → World → Prop} {a : Act} {w : World} {p : Tmp} (hr : fn.results = #[.cell p 50]) (hd : a.defers = []) (g : Nat) (hp : a.tmps.getD p undef = .pointer (some ⟨g, 0, none⟩)) (n b : Int)
    (hg : w.heap[g]? = some (.cells (pv n b) 50 (0, 0))) (h : R (.returned (.agg (pv n b))) w) : bodyPost Tryd.prog fn R .ret a w :=
  bodyPost_ret (v := .agg (pv n b)) (results_cell_row hr _ _ g 50 (pv n b) (0, 0) _ hp hg Tryd.underlying50 rfl (sizeP n b)) hd h

theorem setCell_row {w : World} {g k : Nat} {cs : Array Value} {t : TypeId} {fr : Nat × Nat} (h : w.heap[g]? = some (.cells cs t fr)) (v : Value) : (w.setCell ⟨g, k, none⟩ v).heap[g]? = some (.cells (cs.setIfInBounds k v) t fr) := by
  simp [World.setCell, Array.getElem?_modify, h]
theorem setCell_far {w : World} {g g' k : Nat} (h : g ≠ g') (v : Value) : (w.setCell ⟨g, k, none⟩ v).heap[g']? = w.heap[g']? := by
  simp [World.setCell, Array.getElem?_modify, h]
theorem below_setCell {B : Nat} {a w : World} (h : Below B a w) {g : Nat} (hg : B ≤ g) (k : Nat) (v : Value) : Below B a (w.setCell ⟨g, k, none⟩ v) :=
  ⟨h.os, h.tape, h.output, by simpa [World.setCell] using h.size, fun j hj => (setCell_far (by omega) v).trans (h.block j hj)⟩
theorem frozen_row {w : World} {g k : Nat} {cs : Array Value} {t : TypeId} {fr : Nat × Nat} (h : w.heap[g]? = some (.cells cs t fr)) (hf : fr = (0, 0)) : w.frozen? ⟨g, k, none⟩ = false := by
  subst hf
  simp [World.frozen?, h]

/-- A piece's bits, as they lie in memory. -/
def bitsAt (w : World) (g : Nat) : Nat := match w.heap[g]? with
  | some (.cells cs _ _) => (intOf (cs.getD 1 undef)).toNat
  | _ => 0
theorem bitsAt_eq {w : World} {g : Nat} {n : Int} {b : Nat} {t : TypeId} {fr : Nat × Nat} (h : w.heap[g]? = some (.cells (pv n (b : Int)) t fr)) : bitsAt w g = b := by
  unfold bitsAt
  rw [h]
  simp [intOf]

theorem next_no {n h b : Nat} (h1 : ∀ c, c < b → okP n h c = false) (h2 : ¬ n % sz b = 0 ∨ h + 1 < n + sz b) : ∀ c, c < b + 1 → okP n h c = false := fun c hc => by
  rcases Nat.lt_or_ge c b with hl | hl
  · exact h1 c hl
  · obtain rfl : c = b := by omega
    cases e : okP n h c with
    | false => rfl
    | true =>
      have := (okP_iff _ _ _).1 e
      omega

set_option maxHeartbeats 1000000 in
theorem greatest_any (n h : Nat) (hn : n ≤ h) (hh : h ≤ 65535) (w : World) :
    Calls Tryd.prog 29 #[.int .i64 (n : Int), .int .i64 (h : Int)] w fun e w' => e = .returned (.agg (pv (n : Int) ((gr n h : Nat) : Int))) ∧ Below w.heap.size w w' := by
  have SZ : Hid (∀ b : Nat, b ≤ 16 → ∀ W, Calls Tryd.prog 30 #[.agg (pv (n : Int) (b : Int))] W fun e w' => e = .returned (.int .i64 ((sz b : Nat) : Int)) ∧ Below W.heap.size W w') := fun b hb W => size_any (n : Int) b hb W
  go_enter Tryd.func29, Tryd.ntmps29
  go_wp2
  go_loopw [] (fun wr => ∃ b : Nat, b ≤ 16 ∧ (∀ c, c < b → okP n h c = false) ∧ wr.heap[w.heap.size]? = some (.cells (pv 0 0) 50 (0, 0)) ∧ wr.heap[w.heap.size + 1]? = some (.cells (pv (n : Int) (b : Int)) 50 (0, 0)) ∧ Below w.heap.size w wr) (fun wr => 16 - bitsAt wr (w.heap.size + 1))
  case atStart => exact ⟨0, Nat.zero_le _, fun c hc => by omega, heap_past _ _ _ _ (heap_new _ _ _ rfl), heap_new _ _ _ (by simp), ((Below.refl _ _).alloc (Nat.le_refl _) _).alloc (by simp) _⟩
  case round =>
    obtain ⟨b, hb, hno, g0, g1, hbw⟩ := hrel
    have D : Hid (∀ W, Calls Tryd.prog 30 #[.agg (pv (n : Int) (b : Int))] W fun e w' => e = .returned (.int .i64 ((sz b : Nat) : Int)) ∧ Below W.heap.size W w') := SZ.out b hb
    have HNO : Hid (∀ c, c < b → okP n h c = false) := hno
    have hs0 := sz_pos b
    have hs1 := sz_le b
    obtain ⟨s, hs⟩ : ∃ s, s = sz b := ⟨_, rfl⟩
    rw [← hs] at D hs0 hs1
    have HS : Hid (s = sz b) := hs
    clear hno hs
    have c0 : wr.cell? ⟨w.heap.size + 1, 0, none⟩ = some (.int .i64 (n : Int)) := by rw [cell_of_row _ _ _ _ _ _ g1]; rfl
    have c1 : wr.cell? ⟨w.heap.size + 1, 1, none⟩ = some (.int .i64 (b : Int)) := by rw [cell_of_row _ _ _ _ _ _ g1]; rfl
    go_wp2_with fail
    refine (D.out _).mono ?_
    rintro e w1 ⟨rfl, hb1⟩
    have k1 : w1.heap[w.heap.size + 1]? = some (.cells (pv (n : Int) (b : Int)) 50 (0, 0)) := by rw [hb1.block _ (Array.getElem?_eq_some_iff.1 g1).1]; exact g1
    have k0 : w1.heap[w.heap.size]? = some (.cells (pv 0 0) 50 (0, 0)) := by rw [hb1.block _ (Array.getElem?_eq_some_iff.1 g0).1]; exact g0
    have c2 : w1.cell? ⟨w.heap.size + 1, 0, none⟩ = some (.int .i64 (n : Int)) := by rw [cell_of_row _ _ _ _ _ _ k1]; rfl
    have c3 : w1.cell? ⟨w.heap.size + 1, 1, none⟩ = some (.int .i64 (b : Int)) := by rw [cell_of_row _ _ _ _ _ _ k1]; rfl
    have B1 := hbw.trans (hb1.mono hbw.size)
    clear c0 c1 hb1 hbw
    by_cases hm : (n : Int) % (s : Int) = 0
    · go_wp2_with fail
      refine (D.out _).mono ?_
      rintro e w2 ⟨rfl, hb2⟩
      have k3 : w2.heap[w.heap.size + 1]? = some (.cells (pv (n : Int) (b : Int)) 50 (0, 0)) := by rw [hb2.block _ (Array.getElem?_eq_some_iff.1 k1).1]; exact k1
      have k2 : w2.heap[w.heap.size]? = some (.cells (pv 0 0) 50 (0, 0)) := by rw [hb2.block _ (Array.getElem?_eq_some_iff.1 k0).1]; exact k0
      have c4 : w2.cell? ⟨w.heap.size + 1, 0, none⟩ = some (.int .i64 (n : Int)) := by rw [cell_of_row _ _ _ _ _ _ k3]; rfl
      have c5 : w2.cell? ⟨w.heap.size + 1, 1, none⟩ = some (.int .i64 (b : Int)) := by rw [cell_of_row _ _ _ _ _ _ k3]; rfl
      have B2 := B1.trans (hb2.mono B1.size)
      clear c2 c3 hb2 B1
      have f5 := frozen_row (k := 1) k3 rfl
      by_cases hf : (n : Int) + (s : Int) - 1 > (h : Int)
      · go_wp2_with fail
        refine ⟨⟨b + 1, ?_, ?_, (setCell_far (by omega) _).trans k2, setCell_row k3 _, below_setCell B2 (by omega) _ _⟩, ?_⟩
        · rcases Nat.lt_or_ge b 16 with h16 | h16
          · omega
          · obtain rfl : b = 16 := by omega
            have := HS.out
            rw [sz_16] at this
            omega
        · exact next_no HNO.out (by rw [← HS.out]; exact .inr (by omega))
        · rw [bitsAt_eq (n := (n : Int)) (b := b + 1) (setCell_row k3 _), bitsAt_eq g1]
          rcases Nat.lt_or_ge b 16 with h16 | h16
          · omega
          · obtain rfl : b = 16 := by omega
            have := HS.out
            rw [sz_16] at this
            omega
      · go_wp2_with (first
          | (refine wl_loadP rfl _ rfl (w.heap.size + 1) 0 rfl _ _ _ (n : Int) (b : Int) k3 (own_piece _ _) ?_)
          | (refine wl_storeP rfl _ _ rfl w.heap.size (n : Int) (b : Int) rfl rfl 0 0 k2 _ rfl ?_))
        refine retP (p := 4) rfl rfl w.heap.size rfl (n : Int) (b : Int) (setRow_heap _ _ _ _ _ _ k2) ⟨?_, below_setRow B2 (Nat.le_refl _) _⟩
        rw [gr_eq hn ⟨hb, (okP_iff _ _ _).2 ?_, HNO.out⟩]
        rw [← HS.out]
        exact ⟨by omega, by omega⟩
    · have f3 := frozen_row (k := 1) k1 rfl
      go_wp2_with fail
      refine ⟨⟨b + 1, ?_, ?_, (setCell_far (by omega) _).trans k0, setCell_row k1 _, below_setCell B1 (by omega) _ _⟩, ?_⟩
      · rcases Nat.lt_or_ge b 16 with h16 | h16
        · omega
        · obtain rfl : b = 16 := by omega
          have := HS.out
          rw [sz_16] at this
          subst this
          omega
      · exact next_no HNO.out (by rw [← HS.out]; exact .inl (by omega))
      · rw [bitsAt_eq (n := (n : Int)) (b := b + 1) (setCell_row k1 _), bitsAt_eq g1]
        rcases Nat.lt_or_ge b 16 with h16 | h16
        · omega
        · obtain rfl : b = 16 := by omega
          have := HS.out
          rw [sz_16] at this
          subst this
          omega
end Go.Proofs.YtplnlmkmaapbaaaDoor
