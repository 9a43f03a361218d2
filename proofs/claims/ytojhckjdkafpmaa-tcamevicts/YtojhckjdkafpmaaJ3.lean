import Derived.Test.YtojhckjdkafpmaaJ2
import Derived.Laws.CopyRow
namespace Go.Proofs.Ytojhckjdkafpmaa
open Go Go.RowKit
set_option maxRecDepth 20000

theorem info13 : (Try.prog.info? 34).map (·.size) = some 13 := by kernel_rfl

/-- A header that lies within a block, from a place on. -/
theorem load_part (w : World) (g off : Nat) (cs : Array Value) (t : TypeId) (fr : Nat × Nat) (L : List Int) (hL : L.length = 13) (hg : w.heap[g]? = some (.cells cs t fr)) (hc : ∀ j, j < 13 → cs[off + j]? = some (.int .u8 (L.getD j 0))) :
    (loadVar 34 ⟨g, off, none⟩).run Try.prog w = .ok (.agg (hv L)) w := by
  have hl : (loadCells ⟨g, off, none⟩ ((L.map (Value.int .u8))).length).run Try.prog w = .ok (L.map (Value.int .u8)).toArray w :=
    run_loadCells_list (P := Try.prog) w ⟨g, off, none⟩ (L.map (Value.int .u8)) (fun j v hv => by
      have hadd : (⟨g, off, none⟩ : Addr).add j = ⟨g, off + j, none⟩ := by unfold Addr.add; split <;> simp_all
      have hj : j < 13 := by
        have := (List.getElem?_eq_some_iff.1 hv).1
        simpa [hL] using this
      rw [hadd, cell_of_row w g (off + j) cs t fr hg, hc j hj]
      rw [List.getElem?_map, List.getElem?_eq_getElem (by omega)] at hv
      simpa [List.getD, hL, hj] using hv)
  have hi := info13
  cases hq : Try.prog.info? 34 with
  | none => simp [hq] at hi
  | some i =>
    have hs : i.size = 13 := by simpa [hq] using hi
    have hagg : (isAgg 34).run Try.prog w = .ok true w := by
      unfold isAgg
      rw [Sem.run_bind, run_underlying Try.underlying34 w]
      rfl
    rw [List.length_map, hL] at hl
    simp [loadVar, Sem.run_bind, hagg, sizeOf, typeInfo, hq, hs, hl, hv]

theorem wl_loadPart {ops : Array Oper} {rest : List Oper} {o : Oper} {a : Act} {w : World} {Q : Exit → Act → World → Prop} (hw : Region.wanted o (yielded ops a.tmps) = true) (x : Operand) (ho : o.op = .load 34 x)
    (g off : Nat) (hx : a.eval x = .pointer (some ⟨g, off, none⟩)) (cs : Array Value) (t : TypeId) (fr : Nat × Nat) (L : List Int) (hL : L.length = 13) (hg : w.heap[g]? = some (.cells cs t fr)) (hc : ∀ j, j < 13 → cs[off + j]? = some (.int .u8 (L.getD j 0)))
    (h : wpList Try.prog ops Q rest (a.put o.dst (.agg (hv L))) w) : wpList Try.prog ops Q (o :: rest) a w := by
  refine wpList_step fun K hK => ?_
  rw [if_pos hw]
  unfold Oper.wp execOp
  simp only [ho, hx, Instr.loadAt, Instr.sureAddr, Sem.run_bind, Sem.run_pure, Result.andThen_ok, load_part w g off cs t fr L hL hg hc]
  exact hK _ _ h
/-- The mask of a cube in memory. -/
theorem wl_loadM {ops : Array Oper} {rest : List Oper} {o : Oper} {a : Act} {w : World} {Q : Exit → Act → World → Prop} (hw : Region.wanted o (yielded ops a.tmps) = true) (x : Operand) (ho : o.op = .load 34 x)
    (g : Nat) (hx : a.eval x = .pointer (some ⟨g, 13, none⟩)) (V M : List Int) (hg : w.heap[g]? = some (.cells (cv V M) 36 (0, 0))) (hV : V.length = 13) (hM : M.length = 13)
    (h : wpList Try.prog ops Q rest (a.put o.dst (.agg (hv M))) w) : wpList Try.prog ops Q (o :: rest) a w :=
  wl_loadPart hw x ho g 13 hx _ _ _ M hM hg (fun j hj => cv_mask V M hV hM j hj) h
theorem wl_loadV {ops : Array Oper} {rest : List Oper} {o : Oper} {a : Act} {w : World} {Q : Exit → Act → World → Prop} (hw : Region.wanted o (yielded ops a.tmps) = true) (x : Operand) (ho : o.op = .load 34 x)
    (g : Nat) (hx : a.eval x = .pointer (some ⟨g, 0, none⟩)) (V M : List Int) (hg : w.heap[g]? = some (.cells (cv V M) 36 (0, 0))) (hV : V.length = 13)
    (h : wpList Try.prog ops Q rest (a.put o.dst (.agg (hv V))) w) : wpList Try.prog ops Q (o :: rest) a w :=
  wl_loadPart hw x ho g 0 hx _ _ _ V hV hg (fun j hj => by rw [Nat.zero_add]; exact cv_val V M hV j hj) h

theorem qlPart {W : World} {ops : Array Oper} {Q : Act → Prop} {rest : List Oper} {o : Oper} {a : Act} (hw : Region.wanted o (yielded ops a.tmps) = true) (x : Operand) (ho : o.op = .load 34 x)
    (g off : Nat) (hx : a.eval x = .pointer (some ⟨g, off, none⟩)) (cs : Array Value) (t : TypeId) (L : List Int) (hL : L.length = 13) (hg : W.heap[g]? = some (.cells cs t (0, 0))) (hc : ∀ j, j < 13 → cs[off + j]? = some (.int .u8 (L.getD j 0)))
    (h : wpQuiet Try.prog ops (fun w' => ∃ u : Later W, w' = u.world) Q rest (a.put o.dst (.agg (hv L)))) : wpQuiet Try.prog ops (fun w' => ∃ u : Later W, w' = u.world) Q (o :: rest) a := by
  refine BigFrame.wpQuiet_want hw fun K hK => ⟨.agg (hv L), fun w hC => ?_, hK _ h⟩
  unfold Oper.quietAt execOp
  simp only [ho, hx, Instr.loadAt, Instr.sureAddr, Sem.run_bind, Sem.run_pure, Result.andThen_ok, load_part w g off cs t (0, 0) L hL (later_block hg w hC) hc]
  exact ⟨rfl, rfl⟩
theorem qlM {W : World} {ops : Array Oper} {Q : Act → Prop} {rest : List Oper} {o : Oper} {a : Act} (hw : Region.wanted o (yielded ops a.tmps) = true) (x : Operand) (ho : o.op = .load 34 x)
    (g : Nat) (hx : a.eval x = .pointer (some ⟨g, 13, none⟩)) (V M : List Int) (hg : W.heap[g]? = some (.cells (cv V M) 36 (0, 0))) (hV : V.length = 13) (hM : M.length = 13)
    (h : wpQuiet Try.prog ops (fun w' => ∃ u : Later W, w' = u.world) Q rest (a.put o.dst (.agg (hv M)))) : wpQuiet Try.prog ops (fun w' => ∃ u : Later W, w' = u.world) Q (o :: rest) a :=
  qlPart hw x ho g 13 hx _ _ M hM hg (fun j hj => cv_mask V M hV hM j hj) h
theorem qlV {W : World} {ops : Array Oper} {Q : Act → Prop} {rest : List Oper} {o : Oper} {a : Act} (hw : Region.wanted o (yielded ops a.tmps) = true) (x : Operand) (ho : o.op = .load 34 x)
    (g : Nat) (hx : a.eval x = .pointer (some ⟨g, 0, none⟩)) (V M : List Int) (hg : W.heap[g]? = some (.cells (cv V M) 36 (0, 0))) (hV : V.length = 13)
    (h : wpQuiet Try.prog ops (fun w' => ∃ u : Later W, w' = u.world) Q rest (a.put o.dst (.agg (hv V)))) : wpQuiet Try.prog ops (fun w' => ∃ u : Later W, w' = u.world) Q (o :: rest) a :=
  qlPart hw x ho g 0 hx _ _ V hV hg (fun j hj => by rw [Nat.zero_add]; exact cv_val V M hV j hj) h

theorem store_part (w : World) (g off : Nat) (cs : Array Value) (t : TypeId) (L : List Int) (hL : L.length = 13) (hg : w.heap[g]? = some (.cells cs t (0, 0))) (hs : off + 13 ≤ cs.size) :
    (storeVar 34 ⟨g, off, none⟩ (.agg (hv L))).run Try.prog w = .ok () (w.setRow g (cs.toList.take off ++ L.map (Value.int .u8) ++ cs.toList.drop (off + 13)).toArray) := by
  have hst := run_storeCells_at Try.prog g off t (L.map (Value.int .u8)) 0 cs w hg (by simp [hL]; omega) (fun v hv => by
    obtain ⟨z, _, rfl⟩ := List.mem_map.1 hv; rfl)
  have hi := info13
  cases hq : Try.prog.info? 34 with
  | none => simp [hq] at hi
  | some i =>
    have hs' : i.size = 13 := by simpa [hq] using hi
    rw [Nat.add_zero, List.length_map, hL] at hst
    simp [storeVar, sizeOf, typeInfo, hq, Value.cells, hs', hv, hL, hst]

theorem wl_storePart {ops : Array Oper} {rest : List Oper} {o : Oper} {a : Act} {w : World} {Q : Exit → Act → World → Prop} (hgd : o.guard = none) (x y : Operand) (ho : o.op = .store 34 x y)
    (g off : Nat) (hx : a.eval x = .pointer (some ⟨g, off, none⟩)) (cs : Array Value) (t : TypeId) (L : List Int) (hy : a.eval y = .agg (hv L)) (hL : L.length = 13) (hg : w.heap[g]? = some (.cells cs t (0, 0))) (hs : off + 13 ≤ cs.size)
    (cs' : Array Value) (hcs' : (cs.toList.take off ++ L.map (Value.int .u8) ++ cs.toList.drop (off + 13)).toArray = cs')
    (h : wpList Try.prog ops Q rest (a.put o.dst undef) (w.setRow g cs')) : wpList Try.prog ops Q (o :: rest) a w :=
  wpList_plain hgd fun _ hK => by
    unfold Oper.wp execOp
    simp only [ho, hx, hy, Instr.storeAt, Instr.sureAddr, Sem.run_bind, Sem.run_pure, Result.andThen_ok, store_part w g off cs t L hL hg hs, hcs']
    exact hK _ _ h
theorem wl_storeM {ops : Array Oper} {rest : List Oper} {o : Oper} {a : Act} {w : World} {Q : Exit → Act → World → Prop} (hgd : o.guard = none) (x y : Operand) (ho : o.op = .store 34 x y)
    (g : Nat) (hx : a.eval x = .pointer (some ⟨g, 13, none⟩)) (V M L : List Int) (hy : a.eval y = .agg (hv L)) (hV : V.length = 13) (hM : M.length = 13) (hL : L.length = 13) (hg : w.heap[g]? = some (.cells (cv V M) 36 (0, 0)))
    (w' : World) (hw' : w.setRow g (cv V L) = w')
    (h : wpList Try.prog ops Q rest (a.put o.dst undef) w') : wpList Try.prog ops Q (o :: rest) a w :=
  wl_storePart hgd x y ho g 13 hx _ _ L hy hL hg (by rw [cv_size V M hV hM]; omega) (cv V L) (by unfold cv hv; simp [hV, hM]) (by rw [hw']; exact h)
theorem wl_storeV {ops : Array Oper} {rest : List Oper} {o : Oper} {a : Act} {w : World} {Q : Exit → Act → World → Prop} (hgd : o.guard = none) (x y : Operand) (ho : o.op = .store 34 x y)
    (g : Nat) (hx : a.eval x = .pointer (some ⟨g, 0, none⟩)) (V M L : List Int) (hy : a.eval y = .agg (hv L)) (hV : V.length = 13) (hM : M.length = 13) (hL : L.length = 13) (hg : w.heap[g]? = some (.cells (cv V M) 36 (0, 0)))
    (w' : World) (hw' : w.setRow g (cv L M) = w')
    (h : wpList Try.prog ops Q rest (a.put o.dst undef) w') : wpList Try.prog ops Q (o :: rest) a w :=
  wl_storePart hgd x y ho g 0 hx _ _ L hy hL hg (by rw [cv_size V M hV hM]; omega) (cv L M) (by unfold cv hv; simp [hV]) (by rw [hw']; exact h)

theorem built_of (L : List Int) : Try.prog.built 36 [(0, .agg (hv L))] = Try.prog.built 36 [(0, .agg (hv L))] := rfl
end Go.Proofs.Ytojhckjdkafpmaa
namespace Go.Proofs.Ytojhckjdkafpmaa
open Go Go.RowKit
set_option maxRecDepth 20000

theorem all_any (w : World) : Calls Try.prog 27 #[] w fun e w' => e = .returned (.agg (cv Z Z)) ∧ Below w.heap.size w w' := by
  go_enter Try.func27, Try.ntmps27
  go_wp2_with (refine wl_storeC rfl _ _ rfl w.heap.size Z Z rfl (by rw [← zeroC_eq]; rfl) _ (heap_new _ _ _ rfl) rfl Z_byt.1 Z_byt.1 _ (setRow_new _ _ _ _ _ rfl) ?_)
  refine retC (p := 0) rfl rfl w.heap.size rfl Z Z Z_byt.1 Z_byt.1 (heap_new _ _ _ rfl) ⟨rfl, ?_⟩
  exact (Below.refl _ _).alloc (Nat.le_refl _) _

theorem cisBit_yes (i : Int) (w : World) (h0 : 0 ≤ i) (h1 : i < 104) :
    Calls Try.prog 55 #[.int .i64 i] w fun e w' => e = .returned (.bool true) ∧ w' = w := by
  go_enter Try.func55, Try.ntmps55
  go_wp2
  go_ret
  exact ⟨ret_bool (by simp), rfl⟩
theorem cisBit_no (i : Int) (w : World) (h : ¬ (0 ≤ i ∧ i < 104)) :
    Calls Try.prog 55 #[.int .i64 i] w fun e w' => e = .returned (.bool false) ∧ w' = w := by
  by_cases h0 : 0 ≤ i
  · have h1 : 104 ≤ i := by omega
    go_enter Try.func55, Try.ntmps55
    go_wp2
    go_ret
    exact ⟨ret_bool (by simp; omega), rfl⟩
  · go_enter Try.func55, Try.ntmps55
    go_wp2
    go_ret
    exact ⟨ret_bool (by simp), rfl⟩

/-- A header with a bit as it is told. -/
def setb (L : List Int) (i : Nat) (b : Bool) : List Int := mk fun k => if k = i then b else bt L k
theorem setb_byt (L : List Int) (i : Nat) (b : Bool) : Byt (setb L i b) := mk_byt _
theorem setb_bt (L : List Int) (i : Nat) (b : Bool) (k : Nat) (hk : k < 104) : bt (setb L i b) k = if k = i then b else bt L k := mk_bt _ k hk
theorem setb_same (L : List Int) (hL : Byt L) (i : Nat) (b : Bool) (h : bt L i = b) : setb L i b = L :=
  (mk_eq L hL _ fun k _ => by
    by_cases e : k = i
    · rw [if_pos e, e, h]
    · rw [if_neg e]).symm

theorem hbit_nat (L : List Int) (hL : Byt L) (i : Nat) (hi : i < 104) (w : World) :
    Calls Try.prog 56 #[.agg (hv L), .int .i64 (i : Int)] w fun e w' => e = .returned (.bool (bt L i)) ∧ Below w.heap.size w w' := by
  have := bit_any L hL i w
  rwa [bitB_bt L i hi] at this
theorem rbit_nat (L : List Int) (hL : Byt L) (i : Nat) (hi : i < 104) (w : World) :
    Calls Try.prog 69 #[.agg (hv L), .int .i64 (i : Int)] w fun e w' => e = .returned (.bool (bt L i)) ∧ Below w.heap.size w w' := by
  have := refBit_any L hL i w
  rwa [bitB_bt L i hi] at this
theorem rput_nat (L : List Int) (hL : Byt L) (i : Nat) (hi : i < 104) (b : Bool) (w : World) :
    Calls Try.prog 68 #[.agg (hv L), .int .i64 (i : Int), .bool b] w fun e w' => e = .returned (.agg (hv (setb L i b))) ∧ Below w.heap.size w w' := by
  have := refPut_any L hL i b w (by omega) (by omega)
  rwa [setB_mk L hL i b hi] at this
theorem flip_nat (L : List Int) (hL : Byt L) (i : Nat) (hi : i < 104) (b : Bool) (h : bt L i ≠ b) (w : World) :
    Calls Try.prog 77 #[.agg (hv L), .int .i64 (i : Int)] w fun e w' => e = .returned (.agg (hv (setb L i b))) ∧ Below w.heap.size w w' := by
  have := flip_any L hL i w
  rw [flipL_mk L hL i hi] at this
  rwa [show setb L i b = mk fun k => if k = i then !(bt L k) else bt L k from mk_ext _ _ fun k _ => by
    by_cases e : k = i
    · rw [if_pos e, if_pos e, e]; revert h; cases bt L i <;> cases b <;> simp
    · rw [if_neg e, if_neg e]]

set_option maxHeartbeats 1000000 in
theorem set_any (L : List Int) (hL : Byt L) (i : Nat) (hi : i < 104) (b : Bool) (w : World) :
    Calls Try.prog 73 #[.agg (hv L), .int .i64 (i : Int), .bool b] w fun e w' => e = .returned (.agg (hv (setb L i b))) ∧ Below w.heap.size w w' := by
  have hl := hL.1
  by_cases h : bt L i = b
  · rw [setb_same L hL i b h]
    have CB : Hid (∀ W, Calls Try.prog 56 #[.agg (hv L), .int .i64 (i : Int)] W fun e w' => e = .returned (.bool b) ∧ Below W.heap.size W w') := by
      have := hbit_nat L hL i hi; rwa [h] at this
    clear h
    go_enter Try.func73, Try.ntmps73
    go_wp2_with (refine wl_load26 rfl _ rfl w.heap.size rfl L (heap_past _ _ _ _ (heap_new _ _ _ rfl)) hl ?_)
    refine (CB.out _).mono ?_
    rintro e w1 ⟨rfl, hb1⟩
    have g1 : w1.heap[w.heap.size]? = some (.cells (hv L) 34 (0, 0)) := by
      rw [hb1.block _ (by simp; omega)]; exact heap_past _ _ _ _ (heap_new _ _ _ rfl)
    have g2 : w1.heap[w.heap.size + 1]? = some (.cells zero26 34 (0, 0)) := by
      rw [hb1.block _ (by simp)]; exact heap_new _ _ _ (by simp)
    have hB1 : Below w.heap.size w w1 := (((Below.refl _ _).alloc (Nat.le_refl _) _).alloc (by simp) _).trans (hb1.mono (by simp; omega))
    clear hb1
    have hn : (b != b) = false := by simp
    go_wp2_with (first
      | (refine wl_load26 rfl _ rfl w.heap.size rfl L g1 hl ?_)
      | (refine wl_store26 rfl _ _ rfl (w.heap.size + 1) L rfl rfl _ g2 rfl hl _ rfl ?_))
    refine ret26 (p := 6) rfl rfl (w.heap.size + 1) rfl L hl (setRow_heap _ _ _ _ _ _ g2) ⟨rfl, ?_⟩
    exact below_setRow hB1 (by omega) _
  · have CB : Hid (∀ W, Calls Try.prog 56 #[.agg (hv L), .int .i64 (i : Int)] W fun e w' => e = .returned (.bool (!b)) ∧ Below W.heap.size W w') := by
      have := hbit_nat L hL i hi
      rwa [show bt L i = !b by revert h; cases bt L i <;> cases b <;> simp] at this
    have CF : Hid (∀ W, Calls Try.prog 77 #[.agg (hv L), .int .i64 (i : Int)] W fun e w' => e = .returned (.agg (hv (setb L i b))) ∧ Below W.heap.size W w') := flip_nat L hL i hi b h
    have hsl := (setb_byt L i b).1
    have hn : ((!b) != b) = true := by cases b <;> rfl
    clear h
    go_enter Try.func73, Try.ntmps73
    go_wp2_with (refine wl_load26 rfl _ rfl w.heap.size rfl L (heap_past _ _ _ _ (heap_new _ _ _ rfl)) hl ?_)
    refine (CB.out _).mono ?_
    rintro e w1 ⟨rfl, hb1⟩
    have g1 : w1.heap[w.heap.size]? = some (.cells (hv L) 34 (0, 0)) := by
      rw [hb1.block _ (by simp; omega)]; exact heap_past _ _ _ _ (heap_new _ _ _ rfl)
    have g2 : w1.heap[w.heap.size + 1]? = some (.cells zero26 34 (0, 0)) := by
      rw [hb1.block _ (by simp)]; exact heap_new _ _ _ (by simp)
    have hB1 : Below w.heap.size w w1 := (((Below.refl _ _).alloc (Nat.le_refl _) _).alloc (by simp) _).trans (hb1.mono (by simp; omega))
    have hz1 := hb1.size
    simp only [World.size_alloc] at hz1
    clear hb1
    go_wp2_with (first
      | (refine wl_load26 rfl _ rfl w.heap.size rfl L g1 hl ?_))
    refine (CF.out _).mono ?_
    rintro e w2 ⟨rfl, hb2⟩
    have g3 : w2.heap[w.heap.size + 1]? = some (.cells zero26 34 (0, 0)) := by
      rw [hb2.block _ (by omega)]; exact g2
    have hB2 : Below w.heap.size w w2 := hB1.trans (hb2.mono hB1.size)
    clear hb2
    go_wp2_with (first
      | (refine wl_store26 rfl _ _ rfl (w.heap.size + 1) (setb L i b) rfl rfl _ g3 rfl hsl _ rfl ?_))
    refine ret26 (p := 6) rfl rfl (w.heap.size + 1) rfl _ hsl (setRow_heap _ _ _ _ _ _ g3) ⟨rfl, ?_⟩
    exact below_setRow hB2 (by omega) _
end Go.Proofs.Ytojhckjdkafpmaa
namespace Go.Proofs.Ytojhckjdkafpmaa
open Go Go.RowKit
set_option maxRecDepth 20000

set_option maxHeartbeats 1000000 in
theorem fix_no (V M : List Int) (i : Int) (b : Bool) (hi : ¬ (0 ≤ i ∧ i < 104)) (w : World) :
    Calls Try.prog 57 #[.agg (cv V M), .int .i64 i, .bool b] w fun e w' => e = .returned (.tuple #[.agg (cv Z Z), .int .i64 3]) ∧ Below w.heap.size w w' := by
  go_enter Try.func57, Try.ntmps57
  have HI : Hid (¬ (0 ≤ i ∧ i < 104)) := hi
  clear hi
  go_wp2_with (first
    | (go_at_call 55; refine (cisBit_no _ _ HI.out).mono ?_; rintro e w' ⟨rfl, rfl⟩)
    | (refine wl_storeC rfl _ _ rfl (w.heap.size + 1) Z Z rfl (by rw [← zeroC_eq]; rfl) _ (heap_new _ _ _ (by simp)) rfl Z_byt.1 Z_byt.1 _ (setRow_new _ _ _ _ _ (by simp)) ?_))
  refine retCe (p := 6) (u := 7) rfl rfl (w.heap.size + 1) rfl Z Z Z_byt.1 Z_byt.1 (heap_new _ _ _ (by simp)) _ rfl ⟨rfl, ?_⟩
  exact ((Below.refl _ _).alloc (Nat.le_refl _) _).alloc (by simp) _

def fixV (V M : List Int) (i : Nat) (b : Bool) : List Int := setb (can V M) i b
def fixM (M : List Int) (i : Nat) : List Int := setb M i true

set_option maxHeartbeats 2000000 in
theorem fix_in (V M : List Int) (hV : Byt V) (hM : Byt M) (i : Nat) (b : Bool) (hi : i < 104) (w : World) :
    Calls Try.prog 57 #[.agg (cv V M), .int .i64 (i : Int), .bool b] w fun e w' => e = .returned (.tuple #[.agg (cv (fixV V M i b) (fixM M i)), .int .i64 0]) ∧ Below w.heap.size w w' := by
  have hVl := hV.1
  have hMl := hM.1
  have hCl := (can_byt V M).1
  have hFl : (fixM M i).length = 13 := (setb_byt M i true).1
  have hGl : (fixV V M i b).length = 13 := (setb_byt _ i b).1
  have CC : Hid (∀ W, Calls Try.prog 44 #[.agg (cv V M)] W fun e w' => e = .returned (.agg (cv (can V M) M)) ∧ Below W.heap.size W w') := canon_any V M hV hM
  have C1 : Hid (∀ W, Calls Try.prog 73 #[.agg (hv M), .int .i64 (i : Int), .bool true] W fun e w' => e = .returned (.agg (hv (fixM M i))) ∧ Below W.heap.size W w') := set_any M hM i hi true
  have C2 : Hid (∀ W, Calls Try.prog 73 #[.agg (hv (can V M)), .int .i64 (i : Int), .bool b] W fun e w' => e = .returned (.agg (hv (fixV V M i b))) ∧ Below W.heap.size W w') := set_any _ (can_byt V M) i hi b
  clear hV hM
  go_enter Try.func57, Try.ntmps57
  have g0 : ((w.alloc (.cells (cv V M) 36)).alloc (.cells zeroC 36)).heap[w.heap.size]? = some (.cells (cv V M) 36 (0, 0)) := heap_past _ _ _ _ (heap_new _ _ _ rfl)
  have g1 : ((w.alloc (.cells (cv V M) 36)).alloc (.cells zeroC 36)).heap[w.heap.size + 1]? = some (.cells zeroC 36 (0, 0)) := heap_new _ _ _ (by simp)
  have hb : Below w.heap.size w ((w.alloc (.cells (cv V M) 36)).alloc (.cells zeroC 36)) := ((Below.refl _ _).alloc (Nat.le_refl _) _).alloc (by simp) _
  have hsz : w.heap.size + 2 ≤ ((w.alloc (.cells (cv V M) 36)).alloc (.cells zeroC 36)).heap.size := by simp
  go_wp2_with (first
    | (go_at_call 55; refine (cisBit_yes _ _ (by omega) (by omega)).mono ?_; rintro e w' ⟨rfl, rfl⟩)
    | (refine wl_loadC rfl _ rfl w.heap.size rfl V M g0 hVl hMl ?_))
  refine (CC.out _).mono ?_
  rintro e w1 ⟨rfl, hb1⟩
  have k0 : w1.heap[w.heap.size]? = some (.cells (cv V M) 36 (0, 0)) := by rw [hb1.block _ (by simp; omega)]; exact g0
  have k1 : w1.heap[w.heap.size + 1]? = some (.cells zeroC 36 (0, 0)) := by rw [hb1.block _ (by simp)]; exact g1
  have hz1 : w.heap.size + 2 ≤ w1.heap.size := Nat.le_trans hsz hb1.size
  have hB1 := hb.trans (hb1.mono hb.size)
  clear g0 g1 hb hsz hb1 CC
  have l0 : (w1.setRow w.heap.size (cv (can V M) M)).heap[w.heap.size]? = some (.cells (cv (can V M) M) 36 (0, 0)) := setRow_heap _ _ _ _ _ _ k0
  have l1 : (w1.setRow w.heap.size (cv (can V M) M)).heap[w.heap.size + 1]? = some (.cells zeroC 36 (0, 0)) := (setRow_other _ _ _ _ (by omega)).trans k1
  go_wp2_with (first
    | (refine wl_storeC rfl _ _ rfl w.heap.size (can V M) M rfl rfl _ k0 (cv_size _ _ hVl hMl) hCl hMl _ rfl ?_)
    | (refine wl_loadM rfl _ rfl w.heap.size rfl (can V M) M l0 hCl hMl ?_))
  refine (C1.out _).mono ?_
  rintro e w2 ⟨rfl, hb2⟩
  have m0 : w2.heap[w.heap.size]? = some (.cells (cv (can V M) M) 36 (0, 0)) := by rw [hb2.block _ (by simp; omega)]; exact l0
  have m1 : w2.heap[w.heap.size + 1]? = some (.cells zeroC 36 (0, 0)) := by rw [hb2.block _ (by simp; omega)]; exact l1
  have hz2 : w.heap.size + 2 ≤ w2.heap.size := Nat.le_trans (by simpa using hz1) hb2.size
  have hB2 := (below_setRow hB1 (Nat.le_refl _) (cv (can V M) M)).trans (hb2.mono (by simpa using hB1.size))
  clear l0 l1 k0 k1 hB1 hb2 hz1 C1
  have n0 : (w2.setRow w.heap.size (cv (can V M) (fixM M i))).heap[w.heap.size]? = some (.cells (cv (can V M) (fixM M i)) 36 (0, 0)) := setRow_heap _ _ _ _ _ _ m0
  have n1 : (w2.setRow w.heap.size (cv (can V M) (fixM M i))).heap[w.heap.size + 1]? = some (.cells zeroC 36 (0, 0)) := (setRow_other _ _ _ _ (by omega)).trans m1
  go_wp2_with (first
    | (refine wl_storeM rfl _ _ rfl w.heap.size rfl (can V M) M (fixM M i) rfl hCl hMl hFl m0 _ rfl ?_)
    | (refine wl_loadV rfl _ rfl w.heap.size rfl (can V M) (fixM M i) n0 hCl ?_))
  refine (C2.out _).mono ?_
  rintro e w3 ⟨rfl, hb3⟩
  have p0 : w3.heap[w.heap.size]? = some (.cells (cv (can V M) (fixM M i)) 36 (0, 0)) := by rw [hb3.block _ (by simp; omega)]; exact n0
  have p1 : w3.heap[w.heap.size + 1]? = some (.cells zeroC 36 (0, 0)) := by rw [hb3.block _ (by simp; omega)]; exact n1
  have hB3 := (below_setRow hB2 (Nat.le_refl _) (cv (can V M) (fixM M i))).trans (hb3.mono (by simpa using hB2.size))
  clear m0 m1 n0 n1 hB2 hb3 hz2 C2
  have q0 : (w3.setRow w.heap.size (cv (fixV V M i b) (fixM M i))).heap[w.heap.size]? = some (.cells (cv (fixV V M i b) (fixM M i)) 36 (0, 0)) := setRow_heap _ _ _ _ _ _ p0
  have q1 : (w3.setRow w.heap.size (cv (fixV V M i b) (fixM M i))).heap[w.heap.size + 1]? = some (.cells zeroC 36 (0, 0)) := (setRow_other _ _ _ _ (by omega)).trans p1
  go_wp2_with (first
    | (refine wl_storeV rfl _ _ rfl w.heap.size rfl (can V M) (fixM M i) (fixV V M i b) rfl hCl hFl hGl p0 _ rfl ?_)
    | (refine wl_loadC rfl _ rfl w.heap.size rfl (fixV V M i b) (fixM M i) q0 hGl hFl ?_)
    | (refine wl_storeC rfl _ _ rfl (w.heap.size + 1) (fixV V M i b) (fixM M i) rfl rfl _ q1 rfl hGl hFl _ rfl ?_))
  refine retCe (p := 6) (u := 7) rfl rfl (w.heap.size + 1) rfl _ _ hGl hFl (setRow_heap _ _ _ _ _ _ q1) _ rfl ⟨rfl, ?_⟩
  exact below_setRow (below_setRow hB3 (Nat.le_refl _) _) (by omega) _
end Go.Proofs.Ytojhckjdkafpmaa
namespace Go.Proofs.Ytojhckjdkafpmaa
open Go Go.RowKit
set_option maxRecDepth 20000

/-- Two reads, then two stores; the second read may come behind the first store. -/
def twoB (ops : Array Oper) (n : Nat) : Bool :=
  let l := Array.replicate ops.size false
  decide (Region.ready .any ops l = [0, 1]) && decide (Region.ready .any ops (l.setIfInBounds 0 true) = [1, 2]) && decide (Region.ready .any ops (l.setIfInBounds 1 true) = [0]) &&
  decide (Region.ready .any ops ((l.setIfInBounds 0 true).setIfInBounds 1 true) = [2]) && decide (Region.ready .any ops ((l.setIfInBounds 0 true).setIfInBounds 2 true) = [1]) &&
  Region.seqB .any ops n 3 (((l.setIfInBounds 0 true).setIfInBounds 1 true).setIfInBounds 2 true) && decide (ops.size = n + 3)

theorem any_step {P : Program} {md : Region.Mode} {ops : Array Oper} {Q : Exit → Act → World → Prop} {fuel : Nat} {listed : Array Bool} {a : Act} {w : World} (rs : List Nat) (hr : Region.ready md ops listed = rs) (hne : rs ≠ [])
    (h : ∀ i ∈ rs, wpOp P ops Q i (wpAny P md ops Q fuel (listed.setIfInBounds i true)) a w) : wpAny P md ops Q (fuel + 1) listed a w :=
  ⟨fun h0 => absurd (hr.symm.trans h0) hne, fun i hi => h i (hr ▸ hi)⟩
theorem wpOp_value {P : Program} {ops : Array Oper} {Q : Exit → Act → World → Prop} {i : Nat} {o : Oper} {K : Act → World → Prop} {a : Act} {w w' : World} {v : Value} (hi : ops[i]? = some o) (hg : o.guard = none) (hr : (execOp a.eval o).run P w = .ok (.value v) w') (h : K (a.put o.dst v) w') : wpOp P ops Q i K a w := by
  have hw : Region.wanted o (yielded ops a.tmps) = true := by unfold Region.wanted; rw [hg]
  unfold Go.wpOp
  simp only [hi, hw, if_true]
  left
  unfold Oper.wp
  rw [hr]
  exact h
theorem wpOp_skip {P : Program} {ops : Array Oper} {Q : Exit → Act → World → Prop} {i : Nat} {o : Oper} {K : Act → World → Prop} {a : Act} {w w' : World} (hi : ops[i]? = some o) (hg : o.guard = none) (hr : (execOp a.eval o).run P w = .ok .skip w') (h : K (a.put o.dst undef) w') : wpOp P ops Q i K a w := by
  have hw : Region.wanted o (yielded ops a.tmps) = true := by unfold Region.wanted; rw [hg]
  unfold Go.wpOp
  simp only [hi, hw, if_true]
  left
  unfold Oper.wp
  rw [hr]
  exact h

theorem wp_region_two {P : Program} {id : Nat} {Q : Exit → Act → World → Prop} {a : Act} {w w' : World} {o0 o1 o2 : Oper} {rest : List Oper} {v0 v1 : Value} (hm : P.follows .mixedOrders = true)
    (hB : twoB (o0 :: o1 :: o2 :: rest).toArray rest.length = true) (q0 : o0.guard = none) (q1 : o1.guard = none) (q2 : o2.guard = none) (q3 : o2.dst = none)
    (e0 : (execOp a.eval o0).run P w.drew = .ok (.value v0) w.drew) (e0' : (execOp (a.put o1.dst v1).eval o0).run P w.drew = .ok (.value v0) w.drew)
    (e1 : (execOp a.eval o1).run P w.drew = .ok (.value v1) w.drew) (e1a : (execOp (a.put o0.dst v0).eval o1).run P w.drew = .ok (.value v1) w.drew) (e1b : (execOp (a.put o0.dst v0).eval o1).run P w' = .ok (.value v1) w')
    (e2 : (execOp (a.put o0.dst v0).eval o2).run P w.drew = .ok .skip w') (e2a : (execOp ((a.put o0.dst v0).put o1.dst v1).eval o2).run P w.drew = .ok .skip w')
    (comm : (a.put o1.dst v1).put o0.dst v0 = (a.put o0.dst v0).put o1.dst v1)
    (h : wpList P (o0 :: o1 :: o2 :: rest).toArray Q rest ((a.put o0.dst v0).put o1.dst v1) w') : (Code.region id (o0 :: o1 :: o2 :: rest).toArray true).wp P Q a w := by
  simp only [twoB, Bool.and_eq_true, decide_eq_true_eq] at hB
  obtain ⟨⟨⟨⟨⟨⟨r0, r1⟩, r2⟩, r3⟩, r4⟩, hq⟩, hsz⟩ := hB
  have pn : ∀ (b : Act) (v : Value), b.put none v = b := fun b v => rfl
  have fin : wpAny P .any (o0 :: o1 :: o2 :: rest).toArray Q rest.length ((((Array.replicate (o0 :: o1 :: o2 :: rest).toArray.size false).setIfInBounds 0 true).setIfInBounds 1 true).setIfInBounds 2 true) ((a.put o0.dst v0).put o1.dst v1) w' :=
    wpAny_of_seq rest 3 _ _ w' (fun j => by simp [Nat.add_comm 3 j]) hq h
  refine wp_region_any hm ?_
  rw [hsz]
  refine any_step [0, 1] r0 (by simp) fun i hi => ?_
  simp only [List.mem_cons, List.not_mem_nil, or_false] at hi
  rcases hi with rfl | rfl
  · refine wpOp_value (o := o0) (by simp) q0 e0 (any_step [1, 2] r1 (by simp) fun i hi => ?_)
    simp only [List.mem_cons, List.not_mem_nil, or_false] at hi
    rcases hi with rfl | rfl
    · refine wpOp_value (o := o1) (by simp) q1 e1a (any_step [2] r3 (by simp) fun i hi => ?_)
      simp only [List.mem_cons, List.not_mem_nil, or_false] at hi
      subst hi
      refine wpOp_skip (o := o2) (by simp) q2 e2a ?_
      rw [q3, pn]
      exact fin
    · refine wpOp_skip (o := o2) (by simp) q2 e2 ?_
      rw [q3, pn]
      refine any_step [1] r4 (by simp) fun i hi => ?_
      simp only [List.mem_cons, List.not_mem_nil, or_false] at hi
      subst hi
      refine wpOp_value (o := o1) (by simp) q1 e1b ?_
      rw [Array.setIfInBounds_comm _ _ (by decide : (2 : Nat) ≠ 1)]
      exact fin
  · refine wpOp_value (o := o1) (by simp) q1 e1 (any_step [0] r2 (by simp) fun i hi => ?_)
    simp only [List.mem_cons, List.not_mem_nil, or_false] at hi
    subst hi
    refine wpOp_value (o := o0) (by simp) q0 e0' ?_
    rw [comm, Array.setIfInBounds_comm _ _ (by decide : (1 : Nat) ≠ 0)]
    refine any_step [2] r3 (by simp) fun i hi => ?_
    simp only [List.mem_cons, List.not_mem_nil, or_false] at hi
    subst hi
    refine wpOp_skip (o := o2) (by simp) q2 e2a ?_
    rw [q3, pn]
    exact fin

theorem run_store_row (a : Act) (o : Oper) (w : World) (ty : TypeId) (x y : Operand) (ho : o.op = .store ty x y) (g : Nat) (cells : Array Value) (hx : a.eval x = .pointer (some ⟨g, 0, none⟩)) (hy : a.eval y = .agg cells) (t : TypeId) (old : Array Value) (hg : w.heap[g]? = some (.cells old t (0, 0)))
    (hi : (Try.prog.info? ty).map (·.size) = some cells.size) (hold : old.size = cells.size) (h1 : cells.all (·.oneCell') = true) : (execOp a.eval o).run Try.prog w = .ok .skip (w.setRow g cells) := by
  unfold execOp
  simp only [ho, hx, hy, Instr.storeAt, Instr.sureAddr, Sem.run_bind, Sem.run_pure, Result.andThen_ok, run_storeVar_row w g t ty old cells hg hi hold h1]
theorem run_loadC (a : Act) (o : Oper) (w : World) (x : Operand) (ho : o.op = .load 36 x) (g : Nat) (hx : a.eval x = .pointer (some ⟨g, 0, none⟩)) (V M : List Int) (hg : w.heap[g]? = some (.cells (cv V M) 36 (0, 0))) (hV : V.length = 13) (hM : M.length = 13) : (execOp a.eval o).run Try.prog w = .ok (.value (.agg (cv V M))) w :=
  by
  unfold execOp
  simp only [ho, hx, Instr.loadAt, Instr.sureAddr, Sem.run_bind, Sem.run_pure, Result.andThen_ok, run_loadVar_row w g _ _ (cv V M) (0, 0) _ hg Try.underlying36 rfl (sizeC V M hV hM)]
theorem run_loadH (a : Act) (o : Oper) (w : World) (x : Operand) (ho : o.op = .load 34 x) (g : Nat) (hx : a.eval x = .pointer (some ⟨g, 0, none⟩)) (L : List Int) (hg : w.heap[g]? = some (.cells (hv L) 34 (0, 0))) (hL : L.length = 13) : (execOp a.eval o).run Try.prog w = .ok (.value (.agg (hv L))) w :=
  by
  unfold execOp
  simp only [ho, hx, Instr.loadAt, Instr.sureAddr, Sem.run_bind, Sem.run_pure, Result.andThen_ok, run_loadVar_row w g _ _ (hv L) (0, 0) _ hg Try.underlying34 rfl (size26 L hL)]
theorem run_storeC (a : Act) (o : Oper) (w : World) (x y : Operand) (ho : o.op = .store 36 x y) (g : Nat) (V M : List Int) (hx : a.eval x = .pointer (some ⟨g, 0, none⟩)) (hy : a.eval y = .agg (cv V M)) (old : Array Value) (hg : w.heap[g]? = some (.cells old 36 (0, 0))) (hold : old.size = 26) (hV : V.length = 13) (hM : M.length = 13) : (execOp a.eval o).run Try.prog w = .ok .skip (w.setRow g (cv V M)) :=
  run_store_row a o w _ x y ho g _ hx hy _ old hg (sizeC V M hV hM) (by rw [cv_size V M hV hM, hold]) (cv_one V M)
theorem run_storeH (a : Act) (o : Oper) (w : World) (x y : Operand) (ho : o.op = .store 34 x y) (g : Nat) (L : List Int) (hx : a.eval x = .pointer (some ⟨g, 0, none⟩)) (hy : a.eval y = .agg (hv L)) (old : Array Value) (hg : w.heap[g]? = some (.cells old 34 (0, 0))) (hold : old.size = 13) (hL : L.length = 13) : (execOp a.eval o).run Try.prog w = .ok .skip (w.setRow g (hv L)) :=
  run_store_row a o w _ x y ho g _ hx hy _ old hg (size26 L hL) (by rw [hv_size, hold, hL]) (hv_one L)
end Go.Proofs.Ytojhckjdkafpmaa
namespace Go.Proofs.Ytojhckjdkafpmaa
open Go Go.RowKit
set_option maxRecDepth 20000

/-- The end of a function whose results are two cubes in memory, and a plain one. -/
theorem retCCe {fn : Func} {R : Ending → World → Prop} {a : Act} {w : World} {p q u : Tmp} (hr : fn.results = #[.cell p 36, .cell q 36, .tmp u]) (hd : a.defers = []) (g g' : Nat) (hp : a.tmps.getD p undef = .pointer (some ⟨g, 0, none⟩)) (hq : a.tmps.getD q undef = .pointer (some ⟨g', 0, none⟩)) (V M V' M' : List Int) (hV : V.length = 13) (hM : M.length = 13) (hV' : V'.length = 13) (hM' : M'.length = 13)
    (hg : w.heap[g]? = some (.cells (cv V M) 36 (0, 0))) (hg' : w.heap[g']? = some (.cells (cv V' M') 36 (0, 0))) (v : Value) (hu : a.tmps.getD u undef = v) (h : R (.returned (.tuple #[.agg (cv V M), .agg (cv V' M'), v])) w) : bodyPost Try.prog fn R .ret a w := by
  refine bodyPost_ret (v := .tuple #[.agg (cv V M), .agg (cv V' M'), v]) ?_ hd h
  simp only [results, hr]
  have hp' : a.tmps[p]?.getD undef = .pointer (some ⟨g, 0, none⟩) := by simpa using hp
  have hq' : a.tmps[q]?.getD undef = .pointer (some ⟨g', 0, none⟩) := by simpa using hq
  have hu' : a.tmps[u]?.getD undef = v := by simpa using hu
  simp [Sem.run_bind, hp', hq', hu', asAddr, run_loadVar_row w g 36 36 (cv V M) (0, 0) _ hg Try.underlying36 rfl (sizeC V M hV hM), run_loadVar_row w g' 36 36 (cv V' M') (0, 0) _ hg' Try.underlying36 rfl (sizeC V' M' hV' hM')]

/-- There is no such bit. -/
theorem split_no (V M : List Int) (i : Int) (hi : ¬ (0 ≤ i ∧ i < 104)) (w : World) :
    Calls Try.prog 26 #[.agg (cv V M), .int .i64 i] w fun e w' => e = .returned (.tuple #[.agg (cv Z Z), .agg (cv Z Z), .int .i64 3]) ∧ Below w.heap.size w w' := by
  go_enter Try.func26, Try.ntmps26
  have HI : Hid (¬ (0 ≤ i ∧ i < 104)) := hi
  have g1 : (((w.alloc (.cells (cv V M) 36)).alloc (.cells zeroC 36)).alloc (.cells zeroC 36)).heap[w.heap.size + 1]? = some (.cells zeroC 36 (0, 0)) := heap_past _ _ _ _ (heap_new _ _ _ (by simp))
  have g2 : (((w.alloc (.cells (cv V M) 36)).alloc (.cells zeroC 36)).alloc (.cells zeroC 36)).heap[w.heap.size + 2]? = some (.cells zeroC 36 (0, 0)) := heap_new _ _ _ (by simp)
  have hb : Below w.heap.size w (((w.alloc (.cells (cv V M) 36)).alloc (.cells zeroC 36)).alloc (.cells zeroC 36)) := (((Below.refl _ _).alloc (Nat.le_refl _) _).alloc (by simp) _).alloc (by simp; omega) _
  clear hi
  have h1 := (setRow_heap _ _ _ (cv Z Z) _ _ g1)
  have h2 := (setRow_other _ (w.heap.size + 1) (w.heap.size + 2) (cv Z Z) (by omega)).trans g2
  have k1 := (setRow_other _ (w.heap.size + 2) (w.heap.size + 1) (cv Z Z) (by omega)).trans h1
  have k2 := (setRow_heap _ _ _ (cv Z Z) _ _ h2)
  go_wp2_with (first
    | (go_at_call 55; refine (cisBit_no _ _ HI.out).mono ?_; rintro e w' ⟨rfl, rfl⟩)
    | (refine wl_storeC rfl _ _ rfl (w.heap.size + 1) Z Z rfl (by rw [← zeroC_eq]; rfl) _ g1 rfl Z_byt.1 Z_byt.1 _ rfl ?_)
    | (refine wl_storeC rfl _ _ rfl (w.heap.size + 2) Z Z rfl (by rw [← zeroC_eq]; rfl) _ h2 rfl Z_byt.1 Z_byt.1 _ rfl ?_))
  refine retCCe (p := 4) (q := 5) (u := 6) rfl rfl (w.heap.size + 1) (w.heap.size + 2) rfl rfl Z Z Z Z Z_byt.1 Z_byt.1 Z_byt.1 Z_byt.1 k1 k2 _ rfl ⟨rfl, ?_⟩
  exact below_setRow (below_setRow hb (by omega) _) (by omega) _

set_option maxHeartbeats 2000000 in
/-- The bit is fixed. -/
theorem split_fixed (V M : List Int) (hVl : V.length = 13) (hM : Byt M) (i : Nat) (hi : i < 104) (h : bt M i = true) (w : World) :
    Calls Try.prog 26 #[.agg (cv V M), .int .i64 (i : Int)] w fun e w' => e = .returned (.tuple #[.agg (cv Z Z), .agg (cv Z Z), .int .i64 3]) ∧ Below w.heap.size w w' := by
  have hMl := hM.1
  have C1 : Hid (∀ W, Calls Try.prog 56 #[.agg (hv M), .int .i64 (i : Int)] W fun e w' => e = .returned (.bool true) ∧ Below W.heap.size W w') := by
    have := hbit_nat M hM i hi; rwa [h] at this
  clear hM h
  go_enter Try.func26, Try.ntmps26
  have g0 : (((w.alloc (.cells (cv V M) 36)).alloc (.cells zeroC 36)).alloc (.cells zeroC 36)).heap[w.heap.size]? = some (.cells (cv V M) 36 (0, 0)) := heap_past _ _ _ _ (heap_past _ _ _ _ (heap_new _ _ _ rfl))
  have g1 : (((w.alloc (.cells (cv V M) 36)).alloc (.cells zeroC 36)).alloc (.cells zeroC 36)).heap[w.heap.size + 1]? = some (.cells zeroC 36 (0, 0)) := heap_past _ _ _ _ (heap_new _ _ _ (by simp))
  have g2 : (((w.alloc (.cells (cv V M) 36)).alloc (.cells zeroC 36)).alloc (.cells zeroC 36)).heap[w.heap.size + 2]? = some (.cells zeroC 36 (0, 0)) := heap_new _ _ _ (by simp)
  have hb : Below w.heap.size w (((w.alloc (.cells (cv V M) 36)).alloc (.cells zeroC 36)).alloc (.cells zeroC 36)) := (((Below.refl _ _).alloc (Nat.le_refl _) _).alloc (by simp) _).alloc (by simp; omega) _
  go_wp2_with (first
    | (go_at_call 55; refine (cisBit_yes _ _ (by omega) (by omega)).mono ?_; rintro e w' ⟨rfl, rfl⟩)
    | (refine wl_loadM rfl _ rfl w.heap.size rfl V M g0 hVl hMl ?_))
  refine (C1.out _).mono ?_
  rintro e w1 ⟨rfl, hb1⟩
  have m1 : w1.heap[w.heap.size + 1]? = some (.cells zeroC 36 (0, 0)) := by rw [hb1.block _ (by simp)]; exact g1
  have m2 : w1.heap[w.heap.size + 2]? = some (.cells zeroC 36 (0, 0)) := by rw [hb1.block _ (by simp)]; exact g2
  have hB1 := hb.trans (hb1.mono hb.size)
  clear g0 g1 g2 hb hb1 C1
  have h1 := (setRow_heap _ _ _ (cv Z Z) _ _ m1)
  have h2 := (setRow_other _ (w.heap.size + 1) (w.heap.size + 2) (cv Z Z) (by omega)).trans m2
  have k1 := (setRow_other _ (w.heap.size + 2) (w.heap.size + 1) (cv Z Z) (by omega)).trans h1
  have k2 := (setRow_heap _ _ _ (cv Z Z) _ _ h2)
  go_wp2_with (first
    | (refine wl_storeC rfl _ _ rfl (w.heap.size + 1) Z Z rfl (by rw [← zeroC_eq]; rfl) _ m1 rfl Z_byt.1 Z_byt.1 _ rfl ?_)
    | (refine wl_storeC rfl _ _ rfl (w.heap.size + 2) Z Z rfl (by rw [← zeroC_eq]; rfl) _ h2 rfl Z_byt.1 Z_byt.1 _ rfl ?_))
  refine retCCe (p := 4) (q := 5) (u := 6) rfl rfl (w.heap.size + 1) (w.heap.size + 2) rfl rfl Z Z Z Z Z_byt.1 Z_byt.1 Z_byt.1 Z_byt.1 k1 k2 _ rfl ⟨rfl, ?_⟩
  exact below_setRow (below_setRow hB1 (by omega) _) (by omega) _

set_option maxHeartbeats 4000000 in
/-- The bit is free. -/
theorem split_free (V M : List Int) (hV : Byt V) (hM : Byt M) (i : Nat) (hi : i < 104) (h : bt M i = false) (w : World) :
    Calls Try.prog 26 #[.agg (cv V M), .int .i64 (i : Int)] w fun e w' => e = .returned (.tuple #[.agg (cv (fixV V M i false) (fixM M i)), .agg (cv (fixV V M i true) (fixM M i)), .int .i64 0]) ∧ Below w.heap.size w w' := by
  have hVl := hV.1
  have hMl := hM.1
  have hFl : (fixM M i).length = 13 := (setb_byt M i true).1
  have hAl : (fixV V M i false).length = 13 := (setb_byt _ i false).1
  have hBl : (fixV V M i true).length = 13 := (setb_byt _ i true).1
  have C1 : Hid (∀ W, Calls Try.prog 56 #[.agg (hv M), .int .i64 (i : Int)] W fun e w' => e = .returned (.bool false) ∧ Below W.heap.size W w') := by
    have := hbit_nat M hM i hi; rwa [h] at this
  have C2 : Hid (∀ W, Calls Try.prog 57 #[.agg (cv V M), .int .i64 (i : Int), .bool false] W fun e w' => e = .returned (.tuple #[.agg (cv (fixV V M i false) (fixM M i)), .int .i64 0]) ∧ Below W.heap.size W w') := fix_in V M hV hM i false hi
  have C3 : Hid (∀ W, Calls Try.prog 57 #[.agg (cv V M), .int .i64 (i : Int), .bool true] W fun e w' => e = .returned (.tuple #[.agg (cv (fixV V M i true) (fixM M i)), .int .i64 0]) ∧ Below W.heap.size W w') := fix_in V M hV hM i true hi
  clear hV hM h
  go_enter Try.func26, Try.ntmps26
  have g0 : (((w.alloc (.cells (cv V M) 36)).alloc (.cells zeroC 36)).alloc (.cells zeroC 36)).heap[w.heap.size]? = some (.cells (cv V M) 36 (0, 0)) := heap_past _ _ _ _ (heap_past _ _ _ _ (heap_new _ _ _ rfl))
  have g1 : (((w.alloc (.cells (cv V M) 36)).alloc (.cells zeroC 36)).alloc (.cells zeroC 36)).heap[w.heap.size + 1]? = some (.cells zeroC 36 (0, 0)) := heap_past _ _ _ _ (heap_new _ _ _ (by simp))
  have g2 : (((w.alloc (.cells (cv V M) 36)).alloc (.cells zeroC 36)).alloc (.cells zeroC 36)).heap[w.heap.size + 2]? = some (.cells zeroC 36 (0, 0)) := heap_new _ _ _ (by simp)
  have hb : Below w.heap.size w (((w.alloc (.cells (cv V M) 36)).alloc (.cells zeroC 36)).alloc (.cells zeroC 36)) := (((Below.refl _ _).alloc (Nat.le_refl _) _).alloc (by simp) _).alloc (by simp; omega) _
  go_wp2_with (first
    | (go_at_call 55; refine (cisBit_yes _ _ (by omega) (by omega)).mono ?_; rintro e w' ⟨rfl, rfl⟩)
    | (refine wl_loadM rfl _ rfl w.heap.size rfl V M g0 hVl hMl ?_))
  refine (C1.out _).mono ?_
  rintro e w1 ⟨rfl, hb1⟩
  have m0 : w1.heap[w.heap.size]? = some (.cells (cv V M) 36 (0, 0)) := by rw [hb1.block _ (by simp; omega)]; exact g0
  have m1 : w1.heap[w.heap.size + 1]? = some (.cells zeroC 36 (0, 0)) := by rw [hb1.block _ (by simp)]; exact g1
  have m2 : w1.heap[w.heap.size + 2]? = some (.cells zeroC 36 (0, 0)) := by rw [hb1.block _ (by simp)]; exact g2
  have hz1 : w.heap.size + 3 ≤ w1.heap.size := Nat.le_trans (by simp) hb1.size
  have hB1 := hb.trans (hb1.mono hb.size)
  clear g0 g1 g2 hb hb1 C1
  go_wp2_with (first
    | (refine wl_loadC rfl _ rfl w.heap.size rfl V M m0 hVl hMl ?_))
  refine (C2.out _).mono ?_
  rintro e w2 ⟨rfl, hb2⟩
  have n0 : w2.heap[w.heap.size]? = some (.cells (cv V M) 36 (0, 0)) := by rw [hb2.block _ (by omega)]; exact m0
  have n1 : w2.heap[w.heap.size + 1]? = some (.cells zeroC 36 (0, 0)) := by rw [hb2.block _ (by omega)]; exact m1
  have n2 : w2.heap[w.heap.size + 2]? = some (.cells zeroC 36 (0, 0)) := by rw [hb2.block _ (by omega)]; exact m2
  have hz2 : w.heap.size + 3 ≤ w2.heap.size := Nat.le_trans hz1 hb2.size
  have hB2 := hB1.trans (hb2.mono hB1.size)
  clear m0 m1 m2 hB1 hb2 hz1 C2
  have p0 := heap_past w2 (.cells (cv (fixV V M i false) (fixM M i)) 36) _ _ n0
  have p1 := heap_past w2 (.cells (cv (fixV V M i false) (fixM M i)) 36) _ _ n1
  have p2 := heap_past w2 (.cells (cv (fixV V M i false) (fixM M i)) 36) _ _ n2
  have p3 := heap_new w2 (.cells (cv (fixV V M i false) (fixM M i)) 36) _ rfl
  have hB3 := hB2.alloc (by omega) (.cells (cv (fixV V M i false) (fixM M i)) 36)
  have hz3 : w.heap.size + 3 ≤ (w2.alloc (.cells (cv (fixV V M i false) (fixM M i)) 36)).heap.size := by simp; omega
  go_wp2_with (first
    | (refine wl_storeC rfl _ _ rfl w2.heap.size (fixV V M i false) (fixM M i) rfl rfl _ (heap_new _ _ _ rfl) rfl hAl hFl _ (setRow_new _ _ _ _ _ rfl) ?_)
    | (refine wl_loadC rfl _ rfl w.heap.size rfl V M p0 hVl hMl ?_))
  refine (C3.out _).mono ?_
  rintro e w3 ⟨rfl, hb3⟩
  have q1 : w3.heap[w.heap.size + 1]? = some (.cells zeroC 36 (0, 0)) := by rw [hb3.block _ (by omega)]; exact p1
  have q2 : w3.heap[w.heap.size + 2]? = some (.cells zeroC 36 (0, 0)) := by rw [hb3.block _ (by omega)]; exact p2
  have q3 : w3.heap[w2.heap.size]? = some (.cells (cv (fixV V M i false) (fixM M i)) 36 (0, 0)) := by rw [hb3.block _ (by simp)]; exact p3
  have hz4 : w.heap.size + 3 ≤ w3.heap.size := Nat.le_trans hz3 hb3.size
  have hB4 := hB3.trans (hb3.mono hB3.size)
  clear n0 n1 n2 hB2 p0 p1 p2 p3 hB3 hb3 hz3 C3
  have r1 := heap_past w3 (.cells (cv (fixV V M i true) (fixM M i)) 36) _ _ q1
  have r2 := heap_past w3 (.cells (cv (fixV V M i true) (fixM M i)) 36) _ _ q2
  have r3 := heap_past w3 (.cells (cv (fixV V M i true) (fixM M i)) 36) _ _ q3
  have r4 := heap_new w3 (.cells (cv (fixV V M i true) (fixM M i)) 36) _ rfl
  have hB5 := hB4.alloc (by omega) (.cells (cv (fixV V M i true) (fixM M i)) 36)
  obtain ⟨W, hW⟩ : ∃ W, W = w3.alloc (.cells (cv (fixV V M i true) (fixM M i)) 36) := ⟨_, rfl⟩
  go_wp2_with (first
    | (refine wl_storeC rfl _ _ rfl w3.heap.size (fixV V M i true) (fixM M i) rfl rfl _ (heap_new _ _ _ rfl) rfl hBl hFl _ (setRow_new _ _ _ _ _ rfl) ?_))
  rw [← hW] at r1 r2 r3 r4 hB5 ⊢
  clear hW q1 q2 q3 hB4
  have s1 := heap_drew r1
  have s2 := heap_drew r2
  have s3 := heap_drew r3
  have s4 := heap_drew r4
  have hB6 := hB5.drew
  clear r1 r2 r3 r4 hB5
  have h1 := (setRow_heap _ _ _ (cv (fixV V M i false) (fixM M i)) _ _ s1)
  have h2 := (setRow_other _ (w.heap.size + 1) (w.heap.size + 2) (cv (fixV V M i false) (fixM M i)) (by omega)).trans s2
  have h4 := (setRow_other _ (w.heap.size + 1) w3.heap.size (cv (fixV V M i false) (fixM M i)) (by omega)).trans s4
  have k1 := (setRow_other _ (w.heap.size + 2) (w.heap.size + 1) (cv (fixV V M i true) (fixM M i)) (by omega)).trans h1
  have k2 := (setRow_heap _ _ _ (cv (fixV V M i true) (fixM M i)) _ _ h2)
  refine wp_region_two (v0 := .agg (cv (fixV V M i false) (fixM M i))) (v1 := .agg (cv (fixV V M i true) (fixM M i))) (w' := W.drew.setRow (w.heap.size + 1) (cv (fixV V M i false) (fixM M i))) (by kernel_rfl) (by kernel_rfl) rfl rfl rfl rfl
    (run_loadC _ _ _ _ rfl w2.heap.size rfl _ _ s3 hAl hFl) (run_loadC _ _ _ _ rfl w2.heap.size rfl _ _ s3 hAl hFl) (run_loadC _ _ _ _ rfl w3.heap.size rfl _ _ s4 hBl hFl) (run_loadC _ _ _ _ rfl w3.heap.size rfl _ _ s4 hBl hFl) (run_loadC _ _ _ _ rfl w3.heap.size rfl _ _ h4 hBl hFl)
    (run_storeC _ _ _ _ _ rfl (w.heap.size + 1) _ _ rfl rfl _ s1 rfl hAl hFl) (run_storeC _ _ _ _ _ rfl (w.heap.size + 1) _ _ rfl rfl _ s1 rfl hAl hFl) rfl ?_
  simp only [Act.put, List.setIfInBounds_toArray, List.set_cons_succ, List.set_cons_zero]
  go_wp2_with (first
    | (refine wl_storeC rfl _ _ rfl (w.heap.size + 2) _ _ rfl rfl _ h2 rfl hBl hFl _ rfl ?_))
  refine retCCe (p := 4) (q := 5) (u := 6) rfl rfl (w.heap.size + 1) (w.heap.size + 2) rfl rfl _ _ _ _ hAl hFl hBl hFl k1 k2 _ rfl ⟨rfl, ?_⟩
  exact below_setRow (below_setRow hB6 (by omega) _) (by omega) _
end Go.Proofs.Ytojhckjdkafpmaa
