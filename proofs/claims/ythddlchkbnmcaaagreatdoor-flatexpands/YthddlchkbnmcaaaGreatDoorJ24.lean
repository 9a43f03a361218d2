import Derived.Test.YthddlchkbnmcaaaGreatDoorJ19
import Derived.Test.YthddlchkbnmcaaaGreatDoorJ1
namespace Go.Proofs.YthddlchkbnmcaaaGreatDoor
open Go Go.RowKit
set_option maxRecDepth 20000

/-- The cells of a piece. -/
abbrev pv (n b : Int) : Array Value := #[.int .i64 n, .int .i64 b]

set_option maxHeartbeats 1000000 in
theorem size_any (n : Int) (b : Nat) (hb : b ≤ 16) (w : World) :
    Calls Tryz.prog 81 #[.agg (pv n (b : Int))] w fun e w' => e = .returned (.int .i64 ((sz b : Nat) : Int)) ∧ Below w.heap.size w w' := by
  have h : b = 0 ∨ b = 1 ∨ b = 2 ∨ b = 3 ∨ b = 4 ∨ b = 5 ∨ b = 6 ∨ b = 7 ∨ b = 8 ∨ b = 9 ∨ b = 10 ∨ b = 11 ∨ b = 12 ∨ b = 13 ∨ b = 14 ∨ b = 15 ∨ b = 16 := by omega
  clear hb
  rcases h with h | h | h | h | h | h | h | h | h | h | h | h | h | h | h | h | h
  all_goals
    subst h
    go_enter Tryz.func81, Tryz.ntmps81
    go_wp2
    go_ret
    exact ⟨rfl, (Below.refl _ _).alloc (Nat.le_refl _) _⟩

theorem infoP : ∃ i, Tryz.prog.info? 102 = some i ∧ i.zero = some (.agg (pv 0 0)) ∧ i.size = 2 ∧ i.bytes = 16 := by
  cases h : Tryz.prog.info? 102 with
  | none => exact absurd (show (Tryz.prog.info? 102).isSome = true by kernel_rfl) (by rw [h]; simp)
  | some i =>
    have h1 : (Tryz.prog.info? 102).map (fun i => (i.zero, i.size, i.bytes)) = some (some (.agg (pv 0 0)), 2, 16) := by kernel_rfl
    rw [h] at h1
    simp only [Option.map_some, Option.some.injEq, Prod.mk.injEq] at h1
    exact ⟨i, rfl, h1.1, h1.2.1, h1.2.2⟩
theorem sizeP (n b : Int) : (Tryz.prog.info? 102).map (·.size) = some (pv n b).size := by kernel_rfl
theorem oneP (n b : Int) : (pv n b).all (·.oneCell') = true := by simp [pv, Value.oneCell']

/-- A piece that lies within a block, from a place on. -/
theorem load_piece (w : World) (g off : Nat) (cs : Array Value) (t : TypeId) (fr : Nat × Nat) (n b : Int) (hg : w.heap[g]? = some (.cells cs t fr)) (hc : ∀ j, j < 2 → cs[off + j]? = (pv n b)[j]?) :
    (loadVar 102 ⟨g, off, none⟩).run Tryz.prog w = .ok (.agg (pv n b)) w := by
  have hl : (loadCells ⟨g, off, none⟩ (pv n b).toList.length).run Tryz.prog w = .ok (pv n b).toList.toArray w :=
    run_loadCells_list (P := Tryz.prog) w ⟨g, off, none⟩ (pv n b).toList (fun j v hv => by
      have hadd : (⟨g, off, none⟩ : Addr).add j = ⟨g, off + j, none⟩ := by unfold Addr.add; split <;> simp_all
      have hj : j < 2 := by
        have := (List.getElem?_eq_some_iff.1 hv).1
        simpa using this
      rw [hadd, cell_of_row w g (off + j) cs t fr hg, hc j hj]
      simpa using hv)
  obtain ⟨i, hq, _, hs, _⟩ := infoP
  have hagg : (isAgg 102).run Tryz.prog w = .ok true w := by
    unfold isAgg
    rw [Sem.run_bind, run_underlying Tryz.underlying102 w]
    rfl
  rw [Array.length_toList, Array.toArray_toList] at hl
  have hl' : (loadCells ⟨g, off, none⟩ 2).run Tryz.prog w = .ok (pv n b) w := hl
  simp [loadVar, Sem.run_bind, hagg, sizeOf, typeInfo, hq, hs, hl']
theorem wl_loadP {ops : Array Oper} {rest : List Oper} {o : Oper} {a : Act} {w : World} {Q : Exit → Act → World → Prop} (hw : Region.wanted o (yielded ops a.tmps) = true) (x : Operand) (ho : o.op = .load 102 x)
    (g off : Nat) (hx : a.eval x = .pointer (some ⟨g, off, none⟩)) (cs : Array Value) (t : TypeId) (fr : Nat × Nat) (n b : Int) (hg : w.heap[g]? = some (.cells cs t fr)) (hc : ∀ j, j < 2 → cs[off + j]? = (pv n b)[j]?)
    (h : wpList Tryz.prog ops Q rest (a.put o.dst (.agg (pv n b))) w) : wpList Tryz.prog ops Q (o :: rest) a w := by
  refine wpList_step fun K hK => ?_
  rw [if_pos hw]
  unfold Oper.wp execOp
  simp only [ho, hx, Instr.loadAt, Instr.sureAddr, Sem.run_bind, Sem.run_pure, Result.andThen_ok, load_piece w g off cs t fr n b hg hc]
  exact hK _ _ h
theorem own_piece (n b : Int) : ∀ j, j < 2 → (pv n b)[0 + j]? = (pv n b)[j]? := fun j _ => by rw [Nat.zero_add]
/-- A whole piece is stored into a block that holds one. -/
theorem wl_storeP {ops : Array Oper} {rest : List Oper} {o : Oper} {a : Act} {w : World} {Q : Exit → Act → World → Prop} (hgd : o.guard = none) (x y : Operand) (ho : o.op = .store 102 x y)
    (g : Nat) (n b : Int) (hx : a.eval x = .pointer (some ⟨g, 0, none⟩)) (hy : a.eval y = .agg (pv n b)) (n0 b0 : Int) (hg : w.heap[g]? = some (.cells (pv n0 b0) 102 (0, 0)))
    (w' : World) (hw' : w.setRow g (pv n b) = w')
    (h : wpList Tryz.prog ops Q rest (a.put o.dst undef) w') : wpList Tryz.prog ops Q (o :: rest) a w :=
  wpList_store_row hgd 102 x y ho g (pv n b) hx hy 102 (pv n0 b0) hg (sizeP n b) rfl (oneP n b) (by rw [hw']; exact h)
/-- The end of a function whose one result is a piece in memory. -/
theorem retP {fn : Func} {R : Ending → World → Prop} {a : Act} {w : World} {p : Tmp} (hr : fn.results = #[.cell p 102]) (hd : a.defers = []) (g : Nat) (hp : a.tmps.getD p undef = .pointer (some ⟨g, 0, none⟩)) (n b : Int)
    (hg : w.heap[g]? = some (.cells (pv n b) 102 (0, 0))) (h : R (.returned (.agg (pv n b))) w) : bodyPost Tryz.prog fn R .ret a w :=
  bodyPost_ret (v := .agg (pv n b)) (results_cell_row hr _ _ g 102 (pv n b) (0, 0) _ hp hg Tryz.underlying102 rfl (sizeP n b)) hd h

theorem setCell_row {w : World} {g k : Nat} {cs : Array Value} {t : TypeId} {fr : Nat × Nat} (h : w.heap[g]? = some (.cells cs t fr)) (v : Value) : (w.setCell ⟨g, k, none⟩ v).heap[g]? = some (.cells (cs.setIfInBounds k v) t fr) := by
  simp [World.setCell, Array.getElem?_modify, h]
theorem setCell_far {w : World} {g g' k : Nat} (h : g ≠ g') (v : Value) : (w.setCell ⟨g, k, none⟩ v).heap[g']? = w.heap[g']? := by
  simp [World.setCell, Array.getElem?_modify, h]
theorem below_setCell {B : Nat} {a w : World} (h : Below B a w) {g : Nat} (hg : B ≤ g) (k : Nat) (v : Value) : Below B a (w.setCell ⟨g, k, none⟩ v) :=
  ⟨h.os, h.tape, h.output, by simpa [World.setCell] using h.size, fun j hj => (setCell_far (by omega) v).trans (h.block j hj)⟩
theorem frozen_row {w : World} {g k : Nat} {cs : Array Value} {t : TypeId} {fr : Nat × Nat} (h : w.heap[g]? = some (.cells cs t fr)) (hf : fr = (0, 0)) : w.frozen? ⟨g, k, none⟩ = false := by
  subst hf
  simp [World.frozen?, h]

/-- A piece's bits, as they lie in memory. -/
def bitsAt (w : World) (g : Nat) : Nat := match w.heap[g]? with
  | some (.cells cs _ _) => (intOf (cs.getD 1 undef)).toNat
  | _ => 0
theorem bitsAt_eq {w : World} {g : Nat} {n : Int} {b : Nat} {t : TypeId} {fr : Nat × Nat} (h : w.heap[g]? = some (.cells (pv n (b : Int)) t fr)) : bitsAt w g = b := by
  unfold bitsAt
  rw [h]
  simp [intOf]

theorem next_no {n h b : Nat} (h1 : ∀ c, c < b → okP n h c = false) (h2 : ¬ n % sz b = 0 ∨ h + 1 < n + sz b) : ∀ c, c < b + 1 → okP n h c = false := fun c hc => by
  rcases Nat.lt_or_ge c b with hl | hl
  · exact h1 c hl
  · obtain rfl : c = b := by omega
    cases e : okP n h c with
    | false => rfl
    | true =>
      have := (okP_iff _ _ _).1 e
      omega

set_option maxHeartbeats 1000000 in
theorem greatest_any (n h : Nat) (hn : n ≤ h) (hh : h ≤ 65535) (w : World) :
    Calls Tryz.prog 80 #[.int .i64 (n : Int), .int .i64 (h : Int)] w fun e w' => e = .returned (.agg (pv (n : Int) ((gr n h : Nat) : Int))) ∧ Below w.heap.size w w' := by
  have SZ : Hid (∀ b : Nat, b ≤ 16 → ∀ W, Calls Tryz.prog 81 #[.agg (pv (n : Int) (b : Int))] W fun e w' => e = .returned (.int .i64 ((sz b : Nat) : Int)) ∧ Below W.heap.size W w') := fun b hb W => size_any (n : Int) b hb W
  go_enter Tryz.func80, Tryz.ntmps80
  go_wp2
  go_loopw [] (fun wr => ∃ b : Nat, b ≤ 16 ∧ (∀ c, c < b → okP n h c = false) ∧ wr.heap[w.heap.size]? = some (.cells (pv 0 0) 102 (0, 0)) ∧ wr.heap[w.heap.size + 1]? = some (.cells (pv (n : Int) (b : Int)) 102 (0, 0)) ∧ Below w.heap.size w wr) (fun wr => 16 - bitsAt wr (w.heap.size + 1))
  case atStart => exact ⟨0, Nat.zero_le _, fun c hc => by omega, heap_past _ _ _ _ (heap_new _ _ _ rfl), heap_new _ _ _ (by simp), ((Below.refl _ _).alloc (Nat.le_refl _) _).alloc (by simp) _⟩
  case round =>
    obtain ⟨b, hb, hno, g0, g1, hbw⟩ := hrel
    have D : Hid (∀ W, Calls Tryz.prog 81 #[.agg (pv (n : Int) (b : Int))] W fun e w' => e = .returned (.int .i64 ((sz b : Nat) : Int)) ∧ Below W.heap.size W w') := SZ.out b hb
    have HNO : Hid (∀ c, c < b → okP n h c = false) := hno
    have hs0 := sz_pos b
    have hs1 := sz_le b
    obtain ⟨s, hs⟩ : ∃ s, s = sz b := ⟨_, rfl⟩
    rw [← hs] at D hs0 hs1
    have HS : Hid (s = sz b) := hs
    clear hno hs
    have c0 : wr.cell? ⟨w.heap.size + 1, 0, none⟩ = some (.int .i64 (n : Int)) := by rw [cell_of_row _ _ _ _ _ _ g1]; rfl
    have c1 : wr.cell? ⟨w.heap.size + 1, 1, none⟩ = some (.int .i64 (b : Int)) := by rw [cell_of_row _ _ _ _ _ _ g1]; rfl
    go_wp2_with fail
    refine (D.out _).mono ?_
    rintro e w1 ⟨rfl, hb1⟩
    have k1 : w1.heap[w.heap.size + 1]? = some (.cells (pv (n : Int) (b : Int)) 102 (0, 0)) := by rw [hb1.block _ (Array.getElem?_eq_some_iff.1 g1).1]; exact g1
    have k0 : w1.heap[w.heap.size]? = some (.cells (pv 0 0) 102 (0, 0)) := by rw [hb1.block _ (Array.getElem?_eq_some_iff.1 g0).1]; exact g0
    have c2 : w1.cell? ⟨w.heap.size + 1, 0, none⟩ = some (.int .i64 (n : Int)) := by rw [cell_of_row _ _ _ _ _ _ k1]; rfl
    have c3 : w1.cell? ⟨w.heap.size + 1, 1, none⟩ = some (.int .i64 (b : Int)) := by rw [cell_of_row _ _ _ _ _ _ k1]; rfl
    have B1 := hbw.trans (hb1.mono hbw.size)
    clear c0 c1 hb1 hbw
    by_cases hm : (n : Int) % (s : Int) = 0
    · go_wp2_with fail
      refine (D.out _).mono ?_
      rintro e w2 ⟨rfl, hb2⟩
      have k3 : w2.heap[w.heap.size + 1]? = some (.cells (pv (n : Int) (b : Int)) 102 (0, 0)) := by rw [hb2.block _ (Array.getElem?_eq_some_iff.1 k1).1]; exact k1
      have k2 : w2.heap[w.heap.size]? = some (.cells (pv 0 0) 102 (0, 0)) := by rw [hb2.block _ (Array.getElem?_eq_some_iff.1 k0).1]; exact k0
      have c4 : w2.cell? ⟨w.heap.size + 1, 0, none⟩ = some (.int .i64 (n : Int)) := by rw [cell_of_row _ _ _ _ _ _ k3]; rfl
      have c5 : w2.cell? ⟨w.heap.size + 1, 1, none⟩ = some (.int .i64 (b : Int)) := by rw [cell_of_row _ _ _ _ _ _ k3]; rfl
      have B2 := B1.trans (hb2.mono B1.size)
      clear c2 c3 hb2 B1
      have f5 := frozen_row (k := 1) k3 rfl
      by_cases hf : (n : Int) + (s : Int) - 1 > (h : Int)
      · go_wp2_with fail
        refine ⟨⟨b + 1, ?_, ?_, (setCell_far (by omega) _).trans k2, setCell_row k3 _, below_setCell B2 (by omega) _ _⟩, ?_⟩
        · rcases Nat.lt_or_ge b 16 with h16 | h16
          · omega
          · obtain rfl : b = 16 := by omega
            have := HS.out
            rw [sz_16] at this
            omega
        · exact next_no HNO.out (by rw [← HS.out]; exact .inr (by omega))
        · rw [bitsAt_eq (n := (n : Int)) (b := b + 1) (setCell_row k3 _), bitsAt_eq g1]
          rcases Nat.lt_or_ge b 16 with h16 | h16
          · omega
          · obtain rfl : b = 16 := by omega
            have := HS.out
            rw [sz_16] at this
            omega
      · go_wp2_with (first
          | (refine wl_loadP rfl _ rfl (w.heap.size + 1) 0 rfl _ _ _ (n : Int) (b : Int) k3 (own_piece _ _) ?_)
          | (refine wl_storeP rfl _ _ rfl w.heap.size (n : Int) (b : Int) rfl rfl 0 0 k2 _ rfl ?_))
        refine retP (p := 4) rfl rfl w.heap.size rfl (n : Int) (b : Int) (setRow_heap _ _ _ _ _ _ k2) ⟨?_, below_setRow B2 (Nat.le_refl _) _⟩
        rw [gr_eq hn ⟨hb, (okP_iff _ _ _).2 ?_, HNO.out⟩]
        rw [← HS.out]
        exact ⟨by omega, by omega⟩
    · have f3 := frozen_row (k := 1) k1 rfl
      go_wp2_with fail
      refine ⟨⟨b + 1, ?_, ?_, (setCell_far (by omega) _).trans k0, setCell_row k1 _, below_setCell B1 (by omega) _ _⟩, ?_⟩
      · rcases Nat.lt_or_ge b 16 with h16 | h16
        · omega
        · obtain rfl : b = 16 := by omega
          have := HS.out
          rw [sz_16] at this
          subst this
          omega
      · exact next_no HNO.out (by rw [← HS.out]; exact .inl (by omega))
      · rw [bitsAt_eq (n := (n : Int)) (b := b + 1) (setCell_row k1 _), bitsAt_eq g1]
        rcases Nat.lt_or_ge b 16 with h16 | h16
        · omega
        · obtain rfl : b = 16 := by omega
          have := HS.out
          rw [sz_16] at this
          subst this
          omega
end Go.Proofs.YthddlchkbnmcaaaGreatDoor
namespace Go.Proofs.YthddlchkbnmcaaaGreatDoor
open Go Go.RowKit
set_option maxRecDepth 20000

/-- The cells of a list of pieces. -/
def pcells (P : List (Nat × Nat)) : List Value := P.flatMap fun p => (pv (p.1 : Int) (p.2 : Int)).toList
theorem pcells_append (P Q : List (Nat × Nat)) : pcells (P ++ Q) = pcells P ++ pcells Q := by simp [pcells]
theorem pcells_one (p : Nat × Nat) : pcells [p] = (pv (p.1 : Int) (p.2 : Int)).toList := by simp [pcells]
theorem pcells_len (P : List (Nat × Nat)) : (pcells P).length = P.length * 2 := by
  induction P with
  | nil => rfl
  | cons p P ih =>
    rw [show pcells (p :: P) = (pv (p.1 : Int) (p.2 : Int)).toList ++ pcells P by simp [pcells], List.length_append, ih, List.length_cons]
    simp; omega
theorem pcells_at : ∀ (P : List (Nat × Nat)) (i : Nat) (hi : i < P.length) (j : Nat), j < 2 → (pcells P)[2 * i + j]? = (pv (P[i].1 : Int) (P[i].2 : Int))[j]?
  | [], i, hi, _, _ => absurd hi (by simp)
  | p :: P, 0, _, j, hj => by
    rw [show pcells (p :: P) = (pv (p.1 : Int) (p.2 : Int)).toList ++ pcells P by simp [pcells], Nat.mul_zero, Nat.zero_add, List.getElem?_append_left (by simpa using hj)]
    simp
  | p :: P, i + 1, hi, j, hj => by
    have ih := pcells_at P i (by simpa using hi) j hj
    rw [show pcells (p :: P) = (pv (p.1 : Int) (p.2 : Int)).toList ++ pcells P by simp [pcells], show 2 * (i + 1) + j = 2 + (2 * i + j) by omega, List.getElem?_append_right (by simp)]
    simpa using ih

/-- A slice of one piece. -/
theorem wl_buildP {ops : Array Oper} {rest : List Oper} {o : Oper} {a : Act} {w : World} {Q : Exit → Act → World → Prop} (hg : o.guard = none) (x : Operand) (ho : o.op = .buildSlice 68 1 #[(0, x)]) (n b : Int) (hx : a.eval x = .agg (pv n b))
    (h : wpList Tryz.prog ops Q rest (a.put o.dst (.slice (some ⟨w.heap.size, 0, none⟩) 1 1)) (w.alloc (.cells (pv n b) 102))) : wpList Tryz.prog ops Q (o :: rest) a w := by
  obtain ⟨ie, hie, hz, hs, _⟩ := infoP
  refine wpList_buildSlice hg 68 102 1 _ ho (pv n b) ie (.agg (pv 0 0)) Tryz.underlying68 hie hz (by rw [hs]; decide) (by rw [hs]; decide) ?_ h
  simp only [List.map_toArray, List.map_cons, List.map_nil, hx, Instr.fill, hs, Nat.zero_mul, Value.cells]
  rw [if_neg (by simp)]
  congr 1
  exact fold_all _ _ (by simp)

/-- One piece appended to one's own row of them. -/
theorem wl_appendP {ops : Array Oper} {rest : List Oper} {o : Oper} {a : Act} {w : World} {Q : Exit → Act → World → Prop} (hgd : o.guard = none) (s x : Operand) (ho : o.op = .call { callee := .builtin .append, args := #[s, x], argTypes := #[68, 68] })
    (base : Nat) (v : Value) (P : List (Nat × Nat)) (p : Nat × Nat) (hs : a.eval s = v) (hown : w.ownsRow base 102 2 v P.length (pcells P)) (g cap : Nat) (hx : a.eval x = .slice (some ⟨g, 0, none⟩) 1 cap) (hg : w.heap[g]? = some (.cells (pv (p.1 : Int) (p.2 : Int)) 102 (0, 0)))
    (hn : P.length ≤ 1000000) (hbase : base ≤ w.heap.size)
    (h : ∀ v' w', w'.ownsRow base 102 2 v' (P ++ [p]).length (pcells (P ++ [p])) → w.grownBy w' v.ownBlock → wpList Tryz.prog ops Q rest (a.put o.dst v') w') : wpList Tryz.prog ops Q (o :: rest) a w := by
  obtain ⟨i0, hi, hz0, hz1, hz2⟩ := infoP
  refine wpList_append_own w hgd s x 68 ho base 102 i0 (.agg (pv 0 0)) 2 16 Tryz.underlying68 hi hz0 hz1 hz2 rfl (by decide) v _ _ hs hown ⟨g, 0, none⟩ 1 cap (pcells [p]) hx (by rw [pcells_len]; rfl) (fun j y hy => ?_) (fun u hu => ?_) (by unfold maxLen; omega) (by omega) hbase ?_
  · have hadd : (⟨g, 0, none⟩ : Addr).add j = ⟨g, j, none⟩ := by unfold Addr.add; split <;> simp_all
    rw [hadd, cell_of_row w g j _ _ _ hg, ← hy, pcells_one]
    simp
  · rw [pcells_one] at hu
    exact (Array.all_eq_true_iff_forall_mem.1 (oneP _ _)) u (by simpa using hu)
  · intro v' w' h5 h6 _
    refine h v' w' ?_ h6
    rw [List.length_append, pcells_append]; exact h5

/-- A slice, wherever it lies, whose elements are these pieces. -/
def Sp (w : World) (v : Value) (P : List (Nat × Nat)) : Prop :=
  ∃ (o : Option Addr) (cap : Nat), v = .slice o P.length cap ∧ P.length ≤ cap ∧ cap ≤ maxLen ∧ ∀ (i : Nat) (hi : i < P.length), ∃ g off cur t fr, o = some ⟨g, off, none⟩ ∧ w.heap[g]? = some (.cells cur t fr) ∧ ∀ j, j < 2 → cur[off + i * 2 + j]? = (pv (P[i].1 : Int) (P[i].2 : Int))[j]?
theorem Sp.below {w w' : World} {v : Value} {P : List (Nat × Nat)} (h : Sp w v P) (hb : Below w.heap.size w w') : Sp w' v P := by
  obtain ⟨o, cap, rfl, h1, h2, h3⟩ := h
  refine ⟨o, cap, rfl, h1, h2, fun i hi => ?_⟩
  obtain ⟨g, off, cur, t, fr, h4, h5, h6⟩ := h3 i hi
  exact ⟨g, off, cur, t, fr, h4, (hb.block g (Array.getElem?_eq_some_iff.1 h5).1).trans h5, h6⟩
theorem Sp.slice {w : World} {v : Value} {P : List (Nat × Nat)} (h : Sp w v P) : ∃ (o : Option Addr) (cap : Nat), v = .slice o P.length cap ∧ P.length ≤ cap ∧ cap ≤ maxLen := by
  obtain ⟨o, cap, h1, h2, h3, _⟩ := h
  exact ⟨o, cap, h1, h2, h3⟩
theorem Sp.at {w : World} {o : Option Addr} {n cap : Nat} {P : List (Nat × Nat)} (h : Sp w (.slice o n cap) P) (k : Nat) (hk : k < n) :
    ∃ g off cur t fr, ∃ p : Nat × Nat, o = some ⟨g, off, none⟩ ∧ w.heap[g]? = some (.cells cur t fr) ∧ (∀ j, j < 2 → cur[off + k * 2 + j]? = (pv (p.1 : Int) (p.2 : Int))[j]?) ∧ P[k]? = some p := by
  obtain ⟨o', cap', h1, _, _, h3⟩ := h
  simp only [Value.slice.injEq] at h1
  obtain ⟨rfl, rfl, rfl⟩ := h1
  obtain ⟨g, off, cur, t, fr, h4, h5, h6⟩ := h3 k hk
  exact ⟨g, off, cur, t, fr, P[k], h4, h5, h6, List.getElem?_eq_getElem hk⟩
theorem sp_of {w : World} {B : Nat} {v : Value} {P : List (Nat × Nat)} (h : w.ownsRow B 102 2 v P.length (pcells P)) : Sp w v P := by
  obtain ⟨h1, ⟨rfl, h2⟩ | ⟨g, cap, cur, rfl, hB, hcur, h5, h6, _, h4⟩⟩ := h
  · exact ⟨none, 0, by rw [h2], by omega, Nat.zero_le _, fun i hi => by omega⟩
  · refine ⟨_, cap, rfl, h5, h6, fun i hi => ⟨g, 0, cur, _, _, rfl, hcur, fun j hj => ?_⟩⟩
    rw [← pcells_at P i hi j hj, ← h4, List.getElem?_take_of_lt (by omega), Nat.zero_add, Nat.mul_comm]
    simp

end Go.Proofs.YthddlchkbnmcaaaGreatDoor
namespace Go.Proofs.YthddlchkbnmcaaaGreatDoor
open Go Go.RowKit
set_option maxRecDepth 20000

/-- Is this a range? -/
def isR (l h : Int) : Bool := decide (0 ≤ l) && decide (l ≤ h) && decide (h ≤ 65535)
theorem isR_iff (l h : Int) : isR l h = true ↔ 0 ≤ l ∧ l ≤ h ∧ h ≤ 65535 := by simp [isR, and_assoc]
/-- The pieces of a range, none where there is no range. -/
def ran (l h : Int) : List (Nat × Nat) := if isR l h then rng h.toNat l.toNat else []
def ranE (l h : Int) : Int := if isR l h then 0 else 10

theorem rng_le (h n : Nat) : (rng h n).length ≤ h + 1 - n := by
  refine rng_induct h (fun n => (rng h n).length ≤ h + 1 - n) (fun n hn => by rw [rng_nil hn]; exact Nat.zero_le _) (fun n hn ih => ?_) n
  rw [rng_cons hn, List.length_cons]
  have := rng_next hn
  omega

set_option maxHeartbeats 1000000 in
theorem range_ok (l h : Nat) (hl : l ≤ h) (hh : h ≤ 65535) (w : World) :
    Calls Tryz.prog 52 #[.int .i64 (l : Int), .int .i64 (h : Int)] w fun e w' => ∃ u, e = .returned (.tuple #[u, .int .i64 0]) ∧ w'.ownsRow w.heap.size 102 2 u (rng h l).length (pcells (rng h l)) ∧ Below w.heap.size w w' := by
  have GR : Hid (∀ n : Nat, n ≤ h → ∀ W, Calls Tryz.prog 80 #[.int .i64 (n : Int), .int .i64 (h : Int)] W fun e w' => e = .returned (.agg (pv (n : Int) ((gr n h : Nat) : Int))) ∧ Below W.heap.size W w') := fun n hn W => greatest_any n h hn hh W
  have HL : Hid ((rng h l).length ≤ 65536) := Nat.le_trans (rng_le h l) (by omega)
  have q0 : ¬ h < l := by omega
  have q1 : ¬ (65535 : Int) < (h : Int) := by omega
  have q2 : ¬ (l : Int) < 0 := by omega
  go_enter Tryz.func52, Tryz.ntmps52
  go_wp2_with fail
  clear q0 q1 q2
  go_loopw [0, 6] (fun i out wr => ∃ n : Nat, n ≤ h + 1 ∧ i = .int .i64 (n : Int) ∧ ∃ P : List (Nat × Nat), P ++ rng h n = rng h l ∧ wr.ownsRow w.heap.size 102 2 out P.length (pcells P) ∧ Below w.heap.size w wr) (fun i _ _ => h + 1 - (intOf i).toNat)
  case atStart => exact ⟨l, by omega, rfl, [], rfl, World.ownsRow_nil _ _ _ _, Below.refl _ _⟩
  case round =>
    obtain ⟨n, hn, rfl, P, hP, hown, hb⟩ := hrel
    have HP : Hid (P ++ rng h n = rng h l) := hP
    have hPl : P.length ≤ 65536 := by
      have := HL.out
      rw [← hP, List.length_append] at this
      omega
    have OWN : Hid (wr.ownsRow w.heap.size 102 2 u6 P.length (pcells P)) := hown
    clear hP hown
    by_cases hlt : n ≤ h
    · have D : Hid (∀ W, Calls Tryz.prog 80 #[.int .i64 (n : Int), .int .i64 (h : Int)] W fun e w' => e = .returned (.agg (pv (n : Int) ((gr n h : Nat) : Int))) ∧ Below W.heap.size W w') := GR.out n hlt
      have hg16 := (gr_is n h hlt).1
      have HC : Hid (rng h n = (n, gr n h) :: rng h (n + sz (gr n h))) := rng_cons hlt
      have hnx := rng_next hlt
      obtain ⟨b, hbb⟩ : ∃ b, b = gr n h := ⟨_, rfl⟩
      rw [← hbb] at D hg16 HC hnx
      have D2 : Hid (∀ W, Calls Tryz.prog 81 #[.agg (pv (n : Int) (b : Int))] W fun e w' => e = .returned (.int .i64 ((sz b : Nat) : Int)) ∧ Below W.heap.size W w') := fun W => size_any (n : Int) b hg16 W
      obtain ⟨s, hs⟩ : ∃ s, s = sz b := ⟨_, rfl⟩
      rw [← hs] at D2 HC hnx
      clear hbb hs
      go_wp2_with fail
      refine (D.out _).mono ?_
      rintro e w1 ⟨rfl, hb1⟩
      have B1 := hb.trans (hb1.mono hb.size)
      have OWN1 : Hid (w1.ownsRow w.heap.size 102 2 u6 P.length (pcells P)) := own_below OWN.out hb1
      clear OWN hb hb1
      go_wp2_with (first
        | (refine wl_loadP rfl _ rfl w1.heap.size 0 rfl _ _ _ (n : Int) (b : Int) (heap_new _ _ _ rfl) (own_piece _ _) ?_)
        | (refine wl_buildP rfl _ rfl (n : Int) (b : Int) rfl ?_)
        | (at_builtin; refine of_stopped ?_))
      unfold Stopped
      have a0 := heap_past (w1.alloc (.cells (pv (n : Int) (b : Int)) 102)) (.cells (pv (n : Int) (b : Int)) 102) _ _ (heap_new w1 (.cells (pv (n : Int) (b : Int)) 102) _ rfl)
      have a1 := heap_new (w1.alloc (.cells (pv (n : Int) (b : Int)) 102)) (.cells (pv (n : Int) (b : Int)) 102) (w1.heap.size + 1) (by simp)
      have OWN3 : Hid (((w1.alloc (.cells (pv (n : Int) (b : Int)) 102)).alloc (.cells (pv (n : Int) (b : Int)) 102)).ownsRow w.heap.size 102 2 u6 P.length (pcells P)) := (OWN1.out.alloc _).alloc _
      have B3 := (B1.alloc B1.size (.cells (pv (n : Int) (b : Int)) 102)).alloc (by simp; have := B1.size; omega) (.cells (pv (n : Int) (b : Int)) 102)
      refine wl_appendP rfl _ _ rfl w.heap.size _ P (n, b) rfl OWN3.out _ 1 rfl a1 (by omega) (by simp; have := B1.size; omega) ?_
      intro v' w2 hown2 hgr
      have B4 : Below w.heap.size w w2 := B3.grown hgr (by simp; have := B1.size; omega) (fun q hq => (OWN3.out.lt q hq).1)
      have g2 : w2.heap[w1.heap.size]? = some (.cells (pv (n : Int) (b : Int)) 102 (0, 0)) := by
        rw [hgr.block w1.heap.size (by simp; omega) (fun hq => absurd (OWN1.out.lt w1.heap.size hq.symm).2 (by omega))]
        exact a0
      obtain ⟨o2, cap2, rfl⟩ := own_slice hown2
      obtain ⟨v2, hv2⟩ : ∃ v2, v2 = Value.slice o2 (P ++ [(n, b)]).length cap2 := ⟨_, rfl⟩
      rw [← hv2] at hown2 ⊢
      have OWN4 : Hid (w2.ownsRow w.heap.size 102 2 v2 (P ++ [(n, b)]).length (pcells (P ++ [(n, b)]))) := hown2
      simp only [Act.put, List.setIfInBounds_toArray, List.set_cons_succ, List.set_cons_zero]
      clear hown2 hgr a0 a1 OWN3 B3 B1 OWN1 hv2
      go_wp2_with (first
        | (refine wl_loadP rfl _ rfl w1.heap.size 0 rfl _ _ _ (n : Int) (b : Int) g2 (own_piece _ _) ?_))
      refine (D2.out _).mono ?_
      rintro e w3 ⟨rfl, hb3⟩
      go_wp2_with fail
      go_roundw
      case rel => exact ⟨n + s, by omega, by go_num, P ++ [(n, b)], by rw [List.append_assoc, List.singleton_append, ← HC.out]; exact HP.out, own_below OWN4.out hb3, B4.trans (hb3.mono B4.size)⟩
      case measure => simp [intOf]; omega
    · have HE : Hid (rng h n = []) := rng_nil (by omega)
      go_wp2_with fail
      go_ret2
      refine ⟨u6, rfl, ?_, hb⟩
      have := HP.out
      rw [HE.out, List.append_nil] at this
      rw [← this]; exact OWN.out

set_option maxHeartbeats 400000 in
theorem range_no (l h : Int) (hl : ¬ (0 ≤ l ∧ l ≤ h ∧ h ≤ 65535)) (w : World) :
    Calls Tryz.prog 52 #[.int .i64 l, .int .i64 h] w fun e w' => e = .returned (.tuple #[.slice none 0 0, .int .i64 10]) ∧ w' = w := by
  by_cases h0 : l < 0
  · go_enter Tryz.func52, Tryz.ntmps52
    go_wp2_with fail
    go_ret2
    exact ⟨rfl, rfl⟩
  · by_cases h1 : l > h
    · go_enter Tryz.func52, Tryz.ntmps52
      go_wp2_with fail
      go_ret2
      exact ⟨rfl, rfl⟩
    · have h2 : h > 65535 := by omega
      clear hl
      go_enter Tryz.func52, Tryz.ntmps52
      go_wp2_with fail
      go_ret2
      exact ⟨rfl, rfl⟩

theorem range_any (l h : Int) (w : World) :
    Calls Tryz.prog 52 #[.int .i64 l, .int .i64 h] w fun e w' => ∃ u, e = .returned (.tuple #[u, .int .i64 (ranE l h)]) ∧ w'.ownsRow w.heap.size 102 2 u (ran l h).length (pcells (ran l h)) ∧ Below w.heap.size w w' := by
  unfold ran ranE
  by_cases c : isR l h = true
  · simp only [c, if_true]
    have := (isR_iff l h).1 c
    obtain ⟨l', rfl⟩ := Int.eq_ofNat_of_zero_le this.1
    obtain ⟨h', rfl⟩ := Int.eq_ofNat_of_zero_le (Int.le_trans this.1 this.2.1)
    exact range_ok l' h' (by omega) (by omega) w
  · have c' : isR l h = false := by simpa using c
    simp only [c', Bool.false_eq_true, if_false]
    refine (range_no l h (fun hc => c ((isR_iff l h).2 hc)) w).mono ?_
    rintro e w' ⟨rfl, rfl⟩
    exact ⟨_, rfl, World.ownsRow_nil _ _ _ _, Below.refl _ _⟩
end Go.Proofs.YthddlchkbnmcaaaGreatDoor
