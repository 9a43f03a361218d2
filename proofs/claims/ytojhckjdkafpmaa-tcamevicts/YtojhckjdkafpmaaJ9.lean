import Derived.Test.YtojhckjdkafpmaaJ7
import Derived.Great.Walk
import Derived.Test.YtojhckjdkafpmaaJ8
namespace Go.Proofs.Ytojhckjdkafpmaa
open Go Go.RowKit
set_option maxRecDepth 20000

theorem wl_gA {P : Program} {ops : Array Oper} {Q : Exit → Act → World → Prop} {o : Oper} {rest : List Oper} {a : Act} {w : World} (_ : o.op = .alloc 38) (h : wpList P ops Q (o :: rest) a w) : wpList P ops Q (o :: rest) a w := h
theorem wl_gL {P : Program} {ops : Array Oper} {Q : Exit → Act → World → Prop} {o : Oper} {rest : List Oper} {a : Act} {w : World} (x : Operand) (_ : o.op = .load 38 x) (h : wpList P ops Q (o :: rest) a w) : wpList P ops Q (o :: rest) a w := h
theorem wl_gS {P : Program} {ops : Array Oper} {Q : Exit → Act → World → Prop} {o : Oper} {rest : List Oper} {a : Act} {w : World} (x y : Operand) (_ : o.op = .store 38 x y) (h : wpList P ops Q (o :: rest) a w) : wpList P ops Q (o :: rest) a w := h
theorem wl_gB {P : Program} {ops : Array Oper} {Q : Exit → Act → World → Prop} {o : Oper} {rest : List Oper} {a : Act} {w : World} (x : Operand) (_ : o.op = .buildSlice 43 1 #[(0, x)]) (h : wpList P ops Q (o :: rest) a w) : wpList P ops Q (o :: rest) a w := h
theorem wl_gZ {P : Program} {ops : Array Oper} {Q : Exit → Act → World → Prop} {o : Oper} {rest : List Oper} {a : Act} {w : World} (_ : o.op = .build 38 #[]) (h : wpList P ops Q (o :: rest) a w) : wpList P ops Q (o :: rest) a w := h
theorem wl_gC {P : Program} {ops : Array Oper} {Q : Exit → Act → World → Prop} {o : Oper} {rest : List Oper} {a : Act} {w : World} (x : Operand) (_ : o.op = .load 36 x) (h : wpList P ops Q (o :: rest) a w) : wpList P ops Q (o :: rest) a w := h
theorem wl_gH {P : Program} {ops : Array Oper} {Q : Exit → Act → World → Prop} {o : Oper} {rest : List Oper} {a : Act} {w : World} (x : Operand) (_ : o.op = .load 34 x) (h : wpList P ops Q (o :: rest) a w) : wpList P ops Q (o :: rest) a w := h
theorem wl_gE {P : Program} {ops : Array Oper} {Q : Exit → Act → World → Prop} {o : Oper} {rest : List Oper} {a : Act} {w : World} (_ : o.op = .buildSlice 43 0 #[]) (h : wpList P ops Q (o :: rest) a w) : wpList P ops Q (o :: rest) a w := h
theorem sz_alloc (w : World) (o : Obj) : (w.alloc o).heap.size = w.heap.size + 1 := by simp
theorem zero_run (w : World) : (zeroValue 38).run Try.prog w = .ok (.agg (slotV zeroS)) w := by rw [zero_slot]; kernel_rfl
theorem alloc_run (w : World) : (Instr.alloc 38 true (.tuple #[])).run Try.prog w = .ok (.pointer (some ⟨w.heap.size, 0, none⟩)) (w.alloc (.cells (slotV zeroS) 38)) := by
  have hz := zero_run w
  simp [Instr.alloc, Sem.run_bind, hz, newVar, newRow, Value.cells]
/-- A new slot of noughts. -/
theorem wl_allocS {ops : Array Oper} {rest : List Oper} {o : Oper} {a : Act} {w : World} {Q : Exit → Act → World → Prop} (hg : o.guard = none) (ho : o.op = .alloc 38)
    (h : wpList Try.prog ops Q rest (a.put o.dst (.pointer (some ⟨w.heap.size, 0, none⟩))) (w.alloc (.cells (slotV zeroS) 38))) : wpList Try.prog ops Q (o :: rest) a w := by
  refine Great.wpList_allocTo hg o.dst rfl _ _ ?_ h
  unfold execOp
  simp only [ho, Sem.run_bind, alloc_run, Result.andThen_ok, Sem.run_pure]
theorem wl_buildS {ops : Array Oper} {rest : List Oper} {o : Oper} {a : Act} {w : World} {Q : Exit → Act → World → Prop} (hg : o.guard = none) (ho : o.op = .build 38 #[])
    (h : wpList Try.prog ops Q rest (a.put o.dst (.agg (slotV zeroS))) w) : wpList Try.prog ops Q (o :: rest) a w := by
  refine Great.wpList_readTo hg o.dst rfl _ ?_ h
  unfold execOp
  simp only [ho, Sem.run_bind, List.map_toArray, List.map_nil, build_zero, Result.andThen_ok, Sem.run_pure]
/-- A slot is stored over a whole block. -/
theorem wl_storeS {ops : Array Oper} {rest : List Oper} {o : Oper} {a : Act} {w : World} {Q : Exit → Act → World → Prop} (hgd : o.guard = none) (x y : Operand) (ho : o.op = .store 38 x y)
    (g : Nat) (s z : Slt) (hx : a.eval x = .pointer (some ⟨g, 0, none⟩)) (hy : a.eval y = .agg (slotV s)) (hg : w.heap[g]? = some (.cells (slotV z) 38 (0, 0)))
    (w' : World) (hw' : w.setRow g (slotV s) = w')
    (h : wpList Try.prog ops Q rest (a.put o.dst undef) w') : wpList Try.prog ops Q (o :: rest) a w :=
  wl_storeE (E := SlotE) SlotOk hgd x y ho g (slotV s) (slot_fits s) hx hy _ hg (slotV_size z) w' hw' h
/-- A slot is loaded out of a row. -/
theorem wl_loadS {ops : Array Oper} {rest : List Oper} {o : Oper} {a : Act} {w : World} {Q : Exit → Act → World → Prop} (hw : Region.wanted o (yielded ops a.tmps) = true) (x : Operand) (ho : o.op = .load 38 x)
    (g off : Nat) (hx : a.eval x = .pointer (some ⟨g, off, none⟩)) (s : Slt) (hl : (loadVar 38 ⟨g, off, none⟩).run Try.prog w = .ok (.agg (slotV s)) w)
    (h : wpList Try.prog ops Q rest (a.put o.dst (.agg (slotV s))) w) : wpList Try.prog ops Q (o :: rest) a w := by
  refine wpList_step fun K hK => ?_
  rw [if_pos hw]
  unfold Oper.wp execOp
  simp only [ho, hx, Instr.loadAt, Instr.sureAddr, Sem.run_bind, Sem.run_pure, Result.andThen_ok, hl]
  exact hK _ _ h
theorem ld_row {w : World} {g off : Nat} {cur : Array Value} {t : TypeId} {fr : Nat × Nat} {s : Slt} (hg : w.heap[g]? = some (.cells cur t fr)) (hc : ∀ j, j < 36 → cur[off + j]? = (slotV s)[j]?) : (loadVar 38 ⟨g, off, none⟩).run Try.prog w = .ok (.agg (slotV s)) w :=
  SlotOk.load w g off cur t fr (slotV s) (slotV_size s) hg hc
theorem ld_own {w : World} {g : Nat} {t : TypeId} {fr : Nat × Nat} {s : Slt} (hg : w.heap[g]? = some (.cells (slotV s) t fr)) : (loadVar 38 ⟨g, 0, none⟩).run Try.prog w = .ok (.agg (slotV s)) w := ld_row hg fun j _ => by rw [Nat.zero_add]
/-- A slot is stored within a row. -/
theorem storeS_run {w : World} {g off : Nat} {cur : Array Value} {t : TypeId} {s : Slt} (hg : w.heap[g]? = some (.cells cur t (0, 0))) (hf : off + 36 ≤ cur.size) :
    (Instr.storeAt 38 (.pointer (some ⟨g, off, none⟩)) (.agg (slotV s))).run Try.prog w = .ok () (w.setRow g (cur.toList.take off ++ (slotV s).toList ++ cur.toList.drop (off + 36)).toArray) := by
  have hl : (slotV s).toList.length = 36 := by rw [Array.length_toList, slotV_size]
  have hst := run_storeCells_at Try.prog g off t (slotV s).toList 0 cur w hg (by rw [hl]; simpa using hf) (fun u hu => (Array.all_eq_true_iff_forall_mem.1 (slotV_one s)) u (by simpa using hu))
  rw [Nat.add_zero, hl] at hst
  have hz : ∀ w, (sizeOf 38).run Try.prog w = .ok 36 w := fun w => by kernel_rfl
  simp [Instr.storeAt, Instr.sureAddr, storeVar, Sem.run_bind, Value.cells, hst, hz, slotV_size]
theorem wl_storeAtS {ops : Array Oper} {rest : List Oper} {o : Oper} {a : Act} {w : World} {Q : Exit → Act → World → Prop} (hgd : o.guard = none) (x y : Operand) (ho : o.op = .store 38 x y)
    (g off : Nat) (s : Slt) (hx : a.eval x = .pointer (some ⟨g, off, none⟩)) (hy : a.eval y = .agg (slotV s)) (cur : Array Value) (t : TypeId) (hg : w.heap[g]? = some (.cells cur t (0, 0))) (hf : off + 36 ≤ cur.size)
    (h : wpList Try.prog ops Q rest (a.put o.dst undef) (w.setRow g (cur.toList.take off ++ (slotV s).toList ++ cur.toList.drop (off + 36)).toArray)) : wpList Try.prog ops Q (o :: rest) a w := by
  refine wpList_plain hgd fun K hK => ?_
  unfold Oper.wp execOp
  simp only [ho, hx, hy, Sem.run_bind, Sem.run_pure, Result.andThen_ok, storeS_run hg hf]
  exact hK _ _ h
theorem set_cells {enc : Slt → List Value} {q : Nat} (hq : ∀ c, (enc c).length = q) {L : List Value} {C : List Slt} {k : Nat} (s : Slt) (hk : k < C.length) (hL : C.length * q ≤ L.length) (htk : L.take (C.length * q) = C.flatMap enc) :
    (L.take (k * q) ++ enc s ++ L.drop (k * q + q)).length = L.length ∧ (L.take (k * q) ++ enc s ++ L.drop (k * q + q)).take (C.length * q) = (C.set k s).flatMap enc := by
  have gl : ∀ D : List Slt, (D.flatMap enc).length = D.length * q := fun D => by
    induction D with
    | nil => simp
    | cons c D ih => rw [List.flatMap_cons, List.length_append, ih, hq, List.length_cons, Nat.add_mul, Nat.one_mul, Nat.add_comm]
  have hkq : k * q + q ≤ C.length * q := by have := Nat.mul_le_mul_right q (show k + 1 ≤ C.length from hk); rwa [Nat.add_mul, Nat.one_mul] at this
  have l1 : (L.take (k * q)).length = k * q := by rw [List.length_take]; omega
  have hs := hq s
  have e0 : C.flatMap enc = (C.take k).flatMap enc ++ (enc C[k] ++ (C.drop (k + 1)).flatMap enc) := by
    conv => lhs; rw [← List.take_append_drop k C, List.drop_eq_getElem_cons hk]
    rw [List.flatMap_append, List.flatMap_cons]
  have e1 : (C.set k s).flatMap enc = (C.take k).flatMap enc ++ (enc s ++ (C.drop (k + 1)).flatMap enc) := by
    rw [set_split s hk, List.flatMap_append, List.flatMap_cons]
  have g1 : ((C.take k).flatMap enc).length = k * q := by rw [gl, List.length_take]; congr 1; omega
  have t1 : L.take (k * q) = (C.take k).flatMap enc := by
    have := congrArg (List.take (k * q)) htk
    rw [List.take_take, Nat.min_eq_left (by omega), e0, List.take_append_of_le_length (Nat.le_of_eq g1.symm), List.take_of_length_le (Nat.le_of_eq g1)] at this
    exact this
  have g2 : ((C.take k).flatMap enc ++ enc C[k]).length = k * q + q := by rw [List.length_append, g1, hq]
  have t2 : (L.drop (k * q + q)).take (C.length * q - (k * q + q)) = (C.drop (k + 1)).flatMap enc := by
    rw [← List.drop_take, htk, e0, ← List.append_assoc, List.drop_append_of_le_length (Nat.le_of_eq g2.symm), List.drop_of_length_le (Nat.le_of_eq g2), List.nil_append]
  refine ⟨?_, ?_⟩
  · rw [List.length_append, List.length_append, l1, hs, List.length_drop]; omega
  · rw [e1, t1, List.append_assoc, List.take_append, g1, List.take_of_length_le (l := (C.take k).flatMap enc) (by omega), List.take_append, hs, List.take_of_length_le (l := enc s) (by omega), show C.length * q - k * q - q = C.length * q - (k * q + q) by omega, t2]
/-- The row with the k-th slot replaced. -/
theorem set_row {cur : Array Value} {C : List Slt} {k : Nat} (s : Slt) (hk : k < C.length) (hsz : C.length * 36 ≤ cur.size) (htk : cur.toList.take (C.length * 36) = gcells slotV C) :
    (cur.toList.take (k * 36) ++ (slotV s).toList ++ cur.toList.drop (k * 36 + 36)).toArray.size = cur.size ∧ (cur.toList.take (k * 36) ++ (slotV s).toList ++ cur.toList.drop (k * 36 + 36)).toArray.toList.take (C.length * 36) = gcells slotV (C.set k s) := by
  have h := set_cells (enc := fun c => (slotV c).toList) (q := 36) (fun c => by rw [Array.length_toList, slotV_size]) (L := cur.toList) s hk (by rw [Array.length_toList]; exact hsz) htk
  exact ⟨by rw [List.size_toArray, h.1, Array.length_toList], h.2⟩
theorem SlotsAt.store {B : Nat} {w : World} {g n cap : Nat} {C : List Slt} (h : SlotsAt B w (.slice (some ⟨g, 0, none⟩) n cap) C) (k : Nat) (hk : k < C.length) (s : Slt) :
    ∃ cur, w.heap[g]? = some (.cells cur 38 (0, 0)) ∧ k * 36 + 36 ≤ cur.size ∧ ∀ w' : World, w'.heap[g]? = some (.cells (cur.toList.take (k * 36) ++ (slotV s).toList ++ cur.toList.drop (k * 36 + 36)).toArray 38 (0, 0)) → SlotsAt B w' (.slice (some ⟨g, 0, none⟩) n cap) (C.set k s) := by
  obtain ⟨h1, ⟨e, _⟩ | ⟨g', cap', cur, e, hB, hcur, h3, h4, h5, h6⟩⟩ := h
  · cases e
  · simp only [Value.slice.injEq, Option.some.injEq, Addr.mk.injEq, and_true] at e
    obtain ⟨⟨rfl, _⟩, rfl, rfl⟩ := e
    have hsz : C.length * 36 ≤ cur.size := by rw [h5]; exact Nat.mul_le_mul_right 36 h3
    obtain ⟨q1, q2⟩ := set_row s hk hsz h6
    refine ⟨cur, hcur, by omega, fun w' hw' => ⟨?_, .inr ⟨g, cap, _, by rw [List.length_set], hB, hw', by rw [List.length_set]; exact h3, h4, by rw [q1]; exact h5, by rw [List.length_set]; exact q2⟩⟩⟩
    have := congrArg List.length q2
    rw [List.length_take, List.toList_toArray] at this
    rw [List.size_toArray] at q1
    rw [List.length_set, ← this, q1]
    exact Nat.min_eq_left hsz
end Go.Proofs.Ytojhckjdkafpmaa
namespace Go.Proofs.Ytojhckjdkafpmaa
open Go Go.RowKit
set_option maxRecDepth 20000

/-- One element appended where there is room. -/
theorem wl_appendRoom {E : El} (H : E.Ok) {ops : Array Oper} {rest : List Oper} {o : Oper} {a : Act} {w : World} {Q : Exit → Act → World → Prop} (hgd : o.guard = none) (s x : Operand) (ho : o.op = .call { callee := .builtin .append, args := #[s, x], argTypes := #[E.slice, E.slice] })
    (g n cap : Nat) (hs : a.eval s = .slice (some ⟨g, 0, none⟩) n cap) (cur : Array Value) (hg : w.heap[g]? = some (.cells cur E.elem (0, 0))) (gx capx : Nat) (cs : Array Value) (hf : Fits E cs) (hx : a.eval x = .slice (some ⟨gx, 0, none⟩) 1 capx) (hgx : w.heap[gx]? = some (.cells cs E.elem (0, 0)))
    (hroom : n + 1 ≤ cap) (hfit : n * E.size + E.size ≤ cur.size)
    (h : wpList Try.prog ops Q rest (a.put o.dst (.slice (some ⟨g, 0, none⟩) (n + 1) cap)) (w.setRow g (cur.toList.take (n * E.size) ++ cs.toList ++ cur.toList.drop (n * E.size + E.size)).toArray)) : wpList Try.prog ops Q (o :: rest) a w := by
  obtain ⟨i0, hi, hz0, hz1, hz2⟩ := H.info
  have hl : cs.toList.length = 1 * i0.size := by rw [Array.length_toList, hf.1, hz1, Nat.one_mul]
  have hcs : cs.toList.length = E.size := by rw [Array.length_toList, hf.1]
  refine wpList_plain hgd fun K hK => ?_
  have hr := run_append_room (P := Try.prog) w E.slice o.type E.elem i0 H.hs hi g n cap cur hg ⟨gx, 0, none⟩ 1 capx cs.toList hl (fun j y hy => by
      have hadd : (⟨gx, 0, none⟩ : Addr).add j = ⟨gx, j, none⟩ := by unfold Addr.add; split <;> simp_all
      rw [hadd, cell_of_row w gx j _ _ _ hgx, ← hy]
      simp) (fun u hu => (Array.all_eq_true_iff_forall_mem.1 hf.2) u (by simpa using hu)) hroom (by rw [hz1, hcs]; exact hfit)
  rw [hz1, hcs] at hr
  unfold Oper.wp execOp
  simp only [ho, resolve, invoke, builtin, Sem.run_bind, Sem.run_pure, Result.andThen_ok, List.map_toArray, List.map_cons, List.map_nil, hs, hx, hr]
  exact hK _ _ h
/-- The row behind it. -/
theorem room_row {cur cs : Array Value} {n s : Nat} (hcs : cs.size = s) (hfit : n * s + s ≤ cur.size) :
    (cur.toList.take (n * s) ++ cs.toList ++ cur.toList.drop (n * s + s)).toArray.size = cur.size ∧
    (cur.toList.take (n * s) ++ cs.toList ++ cur.toList.drop (n * s + s)).toArray.toList.take ((n + 1) * s) = cur.toList.take (n * s) ++ cs.toList ∧
    ∀ j, (n + 1) * s ≤ j → (cur.toList.take (n * s) ++ cs.toList ++ cur.toList.drop (n * s + s)).toArray[j]? = cur[j]? := by
  have e : (n + 1) * s = n * s + s := by rw [Nat.add_mul, Nat.one_mul]
  have hl : (cur.toList.take (n * s) ++ cs.toList).length = n * s + s := by
    rw [List.length_append, List.length_take, Array.length_toList, Array.length_toList, hcs]; omega
  refine ⟨?_, ?_, fun j hj => ?_⟩
  · rw [List.size_toArray, List.length_append, hl, List.length_drop, Array.length_toList]; omega
  · rw [e, ← hl]; exact List.take_left
  · rw [List.getElem?_toArray, List.getElem?_append_right (by rw [hl]; omega), hl, List.getElem?_drop, Array.getElem?_toList]
    congr 1
    omega
theorem wl_build1S {ops : Array Oper} {rest : List Oper} {o : Oper} {a : Act} {w : World} {Q : Exit → Act → World → Prop} (hg : o.guard = none) (x : Operand) (ho : o.op = .buildSlice 43 1 #[(0, x)]) (s : Slt) (hx : a.eval x = .agg (slotV s))
    (h : wpList Try.prog ops Q rest (a.put o.dst (.slice (some ⟨w.heap.size, 0, none⟩) 1 1)) (w.alloc (.cells (slotV s) 38))) : wpList Try.prog ops Q (o :: rest) a w :=
  wl_buildE (E := SlotE) SlotOk hg x ho (slotV s) (slotV_size s) hx h
theorem wl_appendS {ops : Array Oper} {rest : List Oper} {o : Oper} {a : Act} {w : World} {Q : Exit → Act → World → Prop} (hgd : o.guard = none) (s x : Operand) (ho : o.op = .call { callee := .builtin .append, args := #[s, x], argTypes := #[43, 43] })
    (B : Nat) (v : Value) (C : List Slt) (c : Slt) (hs : a.eval s = v) (hown : SlotsAt B w v C) (g cap : Nat) (hx : a.eval x = .slice (some ⟨g, 0, none⟩) 1 cap) (hg : w.heap[g]? = some (.cells (slotV c) 38 (0, 0)))
    (hn : C.length ≤ 1000000) (hB : B ≤ w.heap.size)
    (h : ∀ v' w', SlotsAt B w' v' (C ++ [c]) → w.grownBy w' v.ownBlock → (v'.ownBlock = v.ownBlock ∨ v'.ownBlock = some w.heap.size) → wpList Try.prog ops Q rest (a.put o.dst v') w') : wpList Try.prog ops Q (o :: rest) a w :=
  wl_appendE (E := SlotE) SlotOk slotV hgd s x ho B v C c (slot_fits _) hs hown g cap hx hg hn hB h
theorem wl_appendRoomS {ops : Array Oper} {rest : List Oper} {o : Oper} {a : Act} {w : World} {Q : Exit → Act → World → Prop} (hgd : o.guard = none) (s x : Operand) (ho : o.op = .call { callee := .builtin .append, args := #[s, x], argTypes := #[43, 43] })
    (g n cap : Nat) (hs : a.eval s = .slice (some ⟨g, 0, none⟩) n cap) (cur : Array Value) (hg : w.heap[g]? = some (.cells cur 38 (0, 0))) (gx capx : Nat) (c : Slt) (hx : a.eval x = .slice (some ⟨gx, 0, none⟩) 1 capx) (hgx : w.heap[gx]? = some (.cells (slotV c) 38 (0, 0)))
    (hroom : n + 1 ≤ cap) (hfit : n * 36 + 36 ≤ cur.size) (w3 : World) (hw3 : w.setRow g (cur.toList.take (n * 36) ++ (slotV c).toList ++ cur.toList.drop (n * 36 + 36)).toArray = w3)
    (h : wpList Try.prog ops Q rest (a.put o.dst (.slice (some ⟨g, 0, none⟩) (n + 1) cap)) w3) : wpList Try.prog ops Q (o :: rest) a w := by
  subst hw3
  exact wl_appendRoom (E := SlotE) SlotOk hgd s x ho g n cap hs cur hg gx capx (slotV c) (slot_fits _) hx hgx hroom hfit h
theorem filt_yes {l : List Slt} {k : Nat} {x : Slt} {q : Slt → Bool} (h : l[k]? = some x) (hq : q x = true) : (l.take (k + 1)).filter q = (l.take k).filter q ++ [x] := by
  rw [List.take_add_one, h, List.filter_append]
  simp [hq]
theorem filt_no {l : List Slt} {k : Nat} {x : Slt} {q : Slt → Bool} (h : l[k]? = some x) (hq : q x = false) : (l.take (k + 1)).filter q = (l.take k).filter q := by
  rw [List.take_add_one, h, List.filter_append]
  simp [hq]
theorem filt_len {l : List Slt} (k : Nat) (q : Slt → Bool) : ((l.take k).filter q).length ≤ k := Nat.le_trans (List.length_filter_le _ _) (by rw [List.length_take]; omega)
def isB (g : Nat) (k : Nat) : Prop := k = g
def StopS (p : Prop) : Prop := p
theorem of_stopS {p : Prop} (h : StopS p) : p := h
/-- The row while it is parted. -/
structure PartS (g n cap : Nat) (w wr : World) (C : List Slt) (p : Slt → Bool) (cur : Array Value) (k m : Nat) (vg : Value) : Prop where
  hm : m = ((C.take k).filter fun x => !(p x)).length
  row : ∃ cur', wr.heap[g]? = some (.cells cur' 38 (0, 0)) ∧ cur'.size = cur.size ∧ cur'.toList.take (m * 36) = gcells slotV ((C.take k).filter fun x => !(p x)) ∧ ∀ j, k * 36 ≤ j → cur'[j]? = cur[j]?
  gone : SlotsAt w.heap.size wr vg ((C.take k).filter p)
  kept : Kept (isB g) w wr
set_option maxHeartbeats 16000000 in
theorem partN_any (B g n cap : Nat) (C : List Slt) (w : World) (cur : Array Value) (hn0 : n = C.length) (hB : B ≤ g) (hg : w.heap[g]? = some (.cells cur 38 (0, 0))) (hcap : n ≤ cap) (hcm : cap ≤ maxLen) (hsz : cur.size = cap * 36) (htk : cur.toList.take (n * 36) = gcells slotV C) (hn : n ≤ 1000000)
    (f : Nat) (cb : Array Value) (p : Slt → Bool) (eg : ∀ args w, (callFunc f args).run Try.prog w = .ok (.enter f args) w) (hc : ClosB (fun W => Kept (isB g) w W) f cb p) :
    Calls Try.prog 70 #[.slice (some ⟨g, 0, none⟩) n cap, .func (.func f) #[] cb] w fun e w' => ∃ v1 v2, e = .returned (.tuple #[v1, v2]) ∧ SlotsAt B w' v1 (C.filter fun x => !(p x)) ∧ v1.ownBlock = some g ∧ SlotsAt w.heap.size w' v2 (C.filter p) ∧ Kept (isB g) w w' := by
  have hglt : g < w.heap.size := (Array.getElem?_eq_some_iff.1 hg).1
  have HC : Hid (ClosB (fun W => Kept (isB g) w W) f cb p) := hc
  have HN : Hid (n = C.length) := hn0
  have HAT : Hid (∀ (k : Nat) (x : Slt) (cur' : Array Value), C[k]? = some x → (∀ j, k * 36 ≤ j → cur'[j]? = cur[j]?) → ∀ j, j < 36 → cur'[k * 36 + j]? = (slotV x)[j]?) := fun k x cur' hx hj j hj36 => by
    have hk : k < C.length := (List.getElem?_eq_some_iff.1 hx).1
    rw [hj _ (by omega)]
    have h1 := gcells_at slotV 36 C (fun c _ => slotV_size c) k hk j hj36
    rw [← htk, List.getElem?_take_of_lt (by have := Nat.mul_le_mul_right 36 (show k + 1 ≤ n by omega); omega), Array.getElem?_toList] at h1
    rw [Nat.mul_comm k 36, h1, (List.getElem?_eq_some_iff.1 hx).2]
  have H0 : Hid (PartS g n cap w w C p cur 0 0 (.slice none 0 0)) := ⟨by simp, ⟨cur, hg, rfl, by simp [gcells], fun j _ => rfl⟩, by simpa using SlotsAt.nil _ _, Kept.refl _ _⟩
  have HE : Hid (∀ wr m vg, PartS g n cap w wr C p cur n m vg → ∃ v1 v2, Ending.returned (.tuple #[.slice (some ⟨g, 0, none⟩) m cap, vg]) = .returned (.tuple #[v1, v2]) ∧ SlotsAt B wr v1 (C.filter fun x => !(p x)) ∧ v1.ownBlock = some g ∧ SlotsAt w.heap.size wr v2 (C.filter p) ∧ Kept (isB g) w wr) := fun wr m vg h => by
    obtain ⟨h1, ⟨cur', h2, h3, h4, _⟩, h5, h6⟩ := h
    rw [hn0, List.take_length] at h1 h4 h5
    subst h1
    refine ⟨_, _, rfl, ?_, rfl, h5, h6⟩
    refine ⟨gcells_len slotV_size _, .inr ⟨g, cap, cur', rfl, hB, h2, Nat.le_trans (List.length_filter_le _ _) (by omega), hcm, by rw [h3, hsz], h4⟩⟩
  unfold maxLen at hcm
  have HSZ : Hid (cur.size = cap * 36) := hsz
  clear hc hg htk hB hn0 hsz
  go_enter Try.func70, Try.ntmps70
  go_wp2_with fail
  go_loopw [6, 7, 14] (fun s6 s7 i wr => ∃ (k m : Nat), k ≤ n ∧ i = .int .i64 (k : Int) ∧ s6 = .slice (some ⟨g, 0, none⟩) m cap ∧ Hid (PartS g n cap w wr C p cur k m s7)) (fun _ _ i _ => n - (intOf i).toNat)
  case atStart => exact ⟨0, 0, Nat.zero_le _, rfl, rfl, H0.out⟩
  case round =>
    obtain ⟨k, m, hk, rfl, rfl, HS⟩ := hrel
    by_cases hlt : k < n
    · have hlt' : (k : Int) < (n : Int) := by omega
      obtain ⟨x, hx⟩ : ∃ x, C[k]? = some x := ⟨_, List.getElem?_eq_getElem (show k < C.length by have := HN.out; omega)⟩
      have HX : Hid (C[k]? = some x) := hx
      obtain ⟨cur', hr1, hr2, hr3, hr4⟩ := HS.out.row
      have K1 : Hid (wr.heap[g]? = some (.cells cur' 38 (0, 0))) := hr1
      have K1s : Hid (cur'.size = cap * 36) := hr2.trans HSZ.out
      have H1 : Hid (∀ j, j < 36 → cur'[k * 36 + j]? = (slotV x)[j]?) := HAT.out k x cur' hx hr4
      have HM : Hid (m ≤ k) := by show _ ≤ _; rw [HS.out.hm]; exact filt_len _ _
      have R3 : Hid (cur'.toList.take (m * 36) = gcells slotV ((C.take k).filter fun x => !(p x))) := hr3
      have R4 : Hid (∀ j, k * 36 ≤ j → cur'[j]? = cur[j]?) := hr4
      have KN : Hid ((wr.alloc (.cells (slotV x) 38)).heap[wr.heap.size]? = some (.cells (slotV x) 38 (0, 0))) := heap_new _ _ _ rfl
      have KB : Hid (Below wr.heap.size wr (wr.alloc (.cells (slotV x) 38))) := (Below.refl _ _).alloc (Nat.le_refl _) _
      have KG : Hid (Kept (isB g) w (wr.alloc (.cells (slotV x) 38))) := HS.out.kept.add KB.out
      have hcall := HC.out x _ KG.out
      have ML : Hid (((C.take k).filter p).length ≤ 1000000) := by show _ ≤ _; have := filt_len (l := C) k p; omega
      clear hr1 hr2 hr3 hr4 hx
      cases hp : p x with
      | true =>
        rw [hp] at hcall
        have HPX : Hid (p x = true) := hp
        clear hp
        go_wp2_with (first
          | (refine wl_loadS rfl _ rfl g (k * 36) rfl x (ld_row K1.out H1.out) ?_)
          | (refine wl_allocS rfl rfl ?_)
          | (refine wl_storeS rfl _ _ rfl wr.heap.size x zeroS rfl rfl (heap_new _ _ _ rfl) _ (setRow_new _ _ _ _ _ rfl) ?_; refine of_stopS ?_))
        unfold StopS
        go_wp2_with (refine wl_loadS rfl _ rfl wr.heap.size 0 rfl x (ld_own KN.out) ?_)
        refine hcall.mono ?_
        rintro e w1 ⟨rfl, hb1⟩
        have B1 : Hid (Below wr.heap.size wr w1) := below_step KB.out KB.out.size hb1
        have KN1 : Hid (w1.heap[wr.heap.size]? = some (.cells (slotV x) 38 (0, 0))) := (hb1.block _ (by simp)).trans KN.out
        have GO : Hid (SlotsAt w.heap.size (w1.alloc (.cells (slotV x) 38)) u7 ((C.take k).filter p)) := (HS.out.gone.below B1.out).below ((Below.refl _ _).alloc (Nat.le_refl _) _)
        have B2 : Hid (Below wr.heap.size wr (w1.alloc (.cells (slotV x) 38))) := B1.out.alloc B1.out.size _
        clear hcall hb1
        go_wp2_with (first
          | (refine wl_loadS rfl _ rfl wr.heap.size 0 rfl x (ld_own KN1.out) ?_)
          | (refine wl_build1S rfl _ rfl x rfl ?_)
          | (at_builtin; refine of_stopS ?_))
        unfold StopS
        refine wl_appendS rfl _ _ rfl w.heap.size u7 ((C.take k).filter p) x rfl GO.out w1.heap.size 1 rfl (heap_new _ _ _ rfl) ML.out (by have h1 := HS.out.kept.size; have h2 := B2.out.size; omega) ?_
        intro v' w3 hown3 hgr3 hv'
        have B3 : Hid (PartS g n cap w w3 C p cur (k + 1) m v') := by
          have hne : u7.ownBlock ≠ some g := fun e => by have := (HS.out.gone.lt g e).1; omega
          have hgr : g < wr.heap.size := (Array.getElem?_eq_some_iff.1 K1.out).1
          refine ⟨?_, ⟨cur', ?_, K1s.out.trans HSZ.out.symm, ?_, fun j hj => R4.out j (by omega)⟩, ?_, ?_⟩
          · rw [filt_no HX.out (by rw [HPX.out]; rfl)]; exact HS.out.hm
          · rw [hgr3.block g (by have := B2.out.size; omega) (fun e => hne e.symm), B2.out.block g hgr]; exact K1.out
          · rw [filt_no HX.out (by rw [HPX.out]; rfl)]; exact R3.out
          · rw [filt_yes HX.out HPX.out]; exact hown3
          · exact (HS.out.kept.add B2.out).trans (Kept.of_grown (X := fun j => w.heap.size ≤ j) hgr3 fun j hj => (HS.out.gone.lt j hj).1) fun j hj => .inr hj
        clear hown3 hgr3 hv'
        simp only [Act.put, List.setIfInBounds_toArray, List.set_cons_succ, List.set_cons_zero]
        go_wp2_with fail
        go_roundw
        case rel => exact ⟨k + 1, m, by omega, by go_num, rfl, B3.out⟩
        case measure => simp [intOf]; omega
      | false =>
        rw [hp] at hcall
        have HPX : Hid (p x = false) := hp
        clear hp
        go_wp2_with (first
          | (refine wl_loadS rfl _ rfl g (k * 36) rfl x (ld_row K1.out H1.out) ?_)
          | (refine wl_allocS rfl rfl ?_)
          | (refine wl_storeS rfl _ _ rfl wr.heap.size x zeroS rfl rfl (heap_new _ _ _ rfl) _ (setRow_new _ _ _ _ _ rfl) ?_; refine of_stopS ?_))
        unfold StopS
        go_wp2_with (refine wl_loadS rfl _ rfl wr.heap.size 0 rfl x (ld_own KN.out) ?_)
        refine hcall.mono ?_
        rintro e w1 ⟨rfl, hb1⟩
        have B1 : Hid (Below wr.heap.size wr w1) := below_step KB.out KB.out.size hb1
        have KN1 : Hid (w1.heap[wr.heap.size]? = some (.cells (slotV x) 38 (0, 0))) := (hb1.block _ (by simp)).trans KN.out
        have B2 : Hid (Below wr.heap.size wr (w1.alloc (.cells (slotV x) 38))) := B1.out.alloc B1.out.size _
        have KR : Hid ((w1.alloc (.cells (slotV x) 38)).heap[g]? = some (.cells cur' 38 (0, 0))) := (B2.out.block g (Array.getElem?_eq_some_iff.1 K1.out).1).trans K1.out
        have hfit : m * 36 + 36 ≤ cur'.size := by have h1 := K1s.out; have h2 := HM.out; omega
        have hroom : m + 1 ≤ cap := by have h2 := HM.out; omega
        clear hcall hb1
        go_wp2_with (first
          | (refine wl_loadS rfl _ rfl wr.heap.size 0 rfl x (ld_own KN1.out) ?_)
          | (refine wl_build1S rfl _ rfl x rfl ?_)
          | (at_builtin; refine of_stopS ?_))
        unfold StopS
        obtain ⟨w3, hw3⟩ : ∃ w3, (w1.alloc (.cells (slotV x) 38)).setRow g (cur'.toList.take (m * 36) ++ (slotV x).toList ++ cur'.toList.drop (m * 36 + 36)).toArray = w3 := ⟨_, rfl⟩
        refine wl_appendRoomS rfl _ _ rfl g m cap rfl cur' KR.out w1.heap.size 1 x rfl (heap_new _ _ _ rfl) hroom hfit w3 hw3 ?_
        have B3 : Hid (PartS g n cap w w3 C p cur (k + 1) (m + 1) u7) := by
          obtain ⟨q1, q2, q3⟩ := room_row (n := m) (slotV_size x) hfit
          have hgw : w3.heap[g]? = some (.cells (cur'.toList.take (m * 36) ++ (slotV x).toList ++ cur'.toList.drop (m * 36 + 36)).toArray 38 (0, 0)) := by rw [← hw3]; exact setRow_heap _ _ _ _ _ _ KR.out
          have hot : ∀ j, j ≠ g → w3.heap[j]? = (w1.alloc (.cells (slotV x) 38)).heap[j]? := fun j hj => by rw [← hw3]; exact setRow_other _ g j _ hj
          have hks : Kept (isB g) (w1.alloc (.cells (slotV x) 38)) w3 := by
            rw [← hw3]
            exact ⟨rfl, rfl, rfl, by simp, fun j _ hj => setRow_other _ g j _ hj⟩
          have hhm := HS.out.hm
          refine ⟨?_, ⟨_, hgw, q1.trans (K1s.out.trans HSZ.out.symm), ?_, fun j hj => ?_⟩, ?_, ?_⟩
          · rw [filt_yes HX.out (by rw [HPX.out]; rfl), List.length_append, ← hhm]; rfl
          · rw [q2, R3.out, filt_yes HX.out (by rw [HPX.out]; rfl), gcells_append, gcells_one]
          · rw [q3 j (by have := HM.out; omega)]; exact R4.out j (by omega)
          · rw [filt_no HX.out HPX.out]
            exact ((HS.out.gone.below B1.out).below ((Below.refl _ _).alloc (Nat.le_refl _) _)).kept hks fun j hj e => by have := (HS.out.gone.lt j hj).1; unfold isB at e; omega
          · exact (HS.out.kept.add B2.out).trans hks fun j hj => .inl hj
        clear hw3
        simp only [Act.put, List.setIfInBounds_toArray, List.set_cons_succ, List.set_cons_zero]
        go_wp2_with fail
        go_roundw
        case rel => exact ⟨k + 1, m + 1, by omega, by go_num, rfl, B3.out⟩
        case measure => simp [intOf]; omega
    · have hlt' : ¬ (k : Int) < (n : Int) := by omega
      obtain rfl : k = n := by omega
      go_wp2_with fail
      go_ret2
      exact HE.out _ _ _ HS.out
end Go.Proofs.Ytojhckjdkafpmaa
namespace Go.Proofs.Ytojhckjdkafpmaa
open Go Go.RowKit
set_option maxRecDepth 20000

def rowX (v : Value) (k : Nat) : Prop := v.ownBlock = some k
set_option maxHeartbeats 4000000 in
theorem part_nil (w : World) (fv : Value) : Calls Try.prog 70 #[.slice none 0 0, fv] w fun e w' => e = .returned (.tuple #[.slice none 0 0, .slice none 0 0]) ∧ w' = w := by
  go_enter Try.func70, Try.ntmps70
  go_wp2_with fail
  go_loopw [6, 7, 14] (fun s6 s7 i wr => i = .int .i64 0 ∧ s6 = .slice none 0 0 ∧ s7 = .slice none 0 0 ∧ wr = w) (fun _ _ _ _ => 0)
  case atStart => exact ⟨rfl, rfl, rfl, rfl⟩
  case round =>
    obtain ⟨rfl, rfl, rfl, rfl⟩ := hrel
    go_wp2_with fail
    go_ret2
    exact ⟨rfl, rfl⟩
theorem part_any (B : Nat) (C : List Slt) (v : Value) (w : World) (hv : SlotsAt B w v C) (hn : C.length ≤ 1000000)
    (f : Nat) (cb : Array Value) (p : Slt → Bool) (eg : ∀ args w, (callFunc f args).run Try.prog w = .ok (.enter f args) w) (hc : ClosB (fun W => Kept (rowX v) w W) f cb p) :
    Calls Try.prog 70 #[v, .func (.func f) #[] cb] w fun e w' => ∃ v1 v2, e = .returned (.tuple #[v1, v2]) ∧ SlotsAt B w' v1 (C.filter fun x => !(p x)) ∧ v1.ownBlock = v.ownBlock ∧ SlotsAt w.heap.size w' v2 (C.filter p) ∧ Kept (rowX v) w w' := by
  obtain ⟨h1, ⟨rfl, h2⟩ | ⟨g, cap, cur, rfl, hB, hcur, h3, h4, h5, h6⟩⟩ := hv
  · have hC : C = [] := List.eq_nil_of_length_eq_zero h2
    subst hC
    refine (part_nil w _).mono ?_
    rintro e w' ⟨rfl, rfl⟩
    exact ⟨_, _, rfl, SlotsAt.nil _ _, rfl, SlotsAt.nil _ _, Kept.refl _ _⟩
  · have key : ∀ W, Kept (isB g) w W ↔ Kept (rowX (.slice (some ⟨g, 0, none⟩) C.length cap)) w W := fun W =>
      ⟨fun h => h.mono fun k _ e => by unfold isB at e; unfold rowX Value.ownBlock; rw [e], fun h => h.mono fun k _ e => by unfold rowX Value.ownBlock at e; simp only [Option.some.injEq] at e; exact e.symm⟩
    refine (partN_any B g C.length cap C w cur rfl hB hcur h3 h4 h5 h6 hn f cb p eg (fun x W hW => hc x W ((key W).1 hW))).mono ?_
    rintro e w' ⟨v1, v2, rfl, q1, q2, q3, q4⟩
    exact ⟨v1, v2, rfl, q1, q2, q3, (key w').1 q4⟩
def setV (v1 v2 v3 : Value) (b : Nat) (u : Value) : Value × Value × Value := if b = 1 then (u, v2, v3) else if b = 2 then (v1, u, v3) else if b = 3 then (v1, v2, u) else (v1, v2, v3)
def setL (S : Bks) (b : Nat) (l : List Slt) : Bks := if b = 1 then { S with c := l } else if b = 2 then { S with a := l } else if b = 3 then { S with p := l } else S
/-- A bank's row is put back into the table. -/
theorem TabV.put {B : Nat} {w w' : World} {g : Nat} {R : Rm} {S : Bks} {v1 v2 v3 : Value} (h : TabV B w g R S v1 v2 v3) (b : Nat) (hb : b < 4) (u : Value) (l : List Slt) (hk : Kept (rowX (bankV v1 v2 v3 b)) w w') (hu : SlotsAt B w' u l) (ho : u.ownBlock = (bankV v1 v2 v3 b).ownBlock ∨ ∀ k, u.ownBlock = some k → w.heap.size ≤ k) (hz : b = 0 → u = .slice none 0 0) :
    TabV B (w'.setCell ⟨g, 4 + b, none⟩ u) g R (setL S b l) (setV v1 v2 v3 b u).1 (setV v1 v2 v3 b u).2.1 (setV v1 v2 v3 b u).2.2 ∧ Kept (footT g v1 v2 v3) w (w'.setCell ⟨g, 4 + b, none⟩ u) ∧ ∀ k, footT g (setV v1 v2 v3 b u).1 (setV v1 v2 v3 b u).2.1 (setV v1 v2 v3 b u).2.2 k → footT g v1 v2 v3 k ∨ w.heap.size ≤ k := by
  have hgx : ¬ rowX (bankV v1 v2 v3 b) g := (h.bank b).ty h.blk (by decide)
  have hbk := hk.heap h.blk hgx
  have hset : (w'.setCell ⟨g, 4 + b, none⟩ u).heap[g]? = some (.cells ((tabV R v1 v2 v3).setIfInBounds (4 + b) u) 72 (0, 0)) := heap_setCell_same w' g (4 + b) _ _ _ hbk
  have hoth : ∀ k, k ≠ g → (w'.setCell ⟨g, 4 + b, none⟩ u).heap[k]? = w'.heap[k]? := fun k hkg => heap_setCell_other w' ⟨g, 4 + b, none⟩ k _ (by simpa using hkg)
  have hK2 : Kept (isB g) w' (w'.setCell ⟨g, 4 + b, none⟩ u) := ⟨rfl, rfl, rfl, by simp [World.setCell], fun k _ e => hoth k e⟩
  have hug : ∀ k, u.ownBlock = some k → ¬ isB g k := fun k e1 e2 => by unfold isB at e2; subst e2; exact hu.ty hbk (by decide) e1
  have old : ∀ (v : Value) (C : List Slt), SlotsAt B w v C → ApartR v.ownBlock (bankV v1 v2 v3 b).ownBlock → SlotsAt B (w'.setCell ⟨g, 4 + b, none⟩ u) v C := fun v C hv ha =>
    (hv.kept hk fun k e e' => ha.ne k e e').kept hK2 fun k e e' => by unfold isB at e'; subst e'; exact hv.ty h.blk (by decide) e
  have hu' : SlotsAt B (w'.setCell ⟨g, 4 + b, none⟩ u) u l := hu.kept hK2 hug
  have ap : ∀ v : Value, (∃ C, SlotsAt B w v C) → ApartR v.ownBlock (bankV v1 v2 v3 b).ownBlock → ApartR v.ownBlock u.ownBlock := fun v ⟨C, hv⟩ ha => by
    rcases ho with e | e
    · rw [e]; exact ha
    · cases hvb : v.ownBlock with
      | none => exact .inl rfl
      | some k =>
        refine .inr (.inr fun e' => ?_)
        have := (hv.lt k hvb).2
        have := e k e'.symm
        omega
  have hKf : Kept (footT g v1 v2 v3) w (w'.setCell ⟨g, 4 + b, none⟩ u) := by
    refine (hk.mono (Y := footT g v1 v2 v3) fun k _ e => ?_).trans hK2 fun k e => .inl (.inl e)
    unfold rowX bankV at e
    split at e
    · exact .inr (.inl e)
    · split at e
      · exact .inr (.inr (.inl e))
      · split at e
        · exact .inr (.inr (.inr e))
        · cases e
  have ho' : ∀ k, u.ownBlock = some k → (bankV v1 v2 v3 b).ownBlock = some k ∨ w.heap.size ≤ k := fun k e => by
    rcases ho with e' | e'
    · rw [e'] at e; exact .inl e
    · exact .inr (e' k e)
  rcases (show b = 0 ∨ b = 1 ∨ b = 2 ∨ b = 3 by omega) with rfl | rfl | rfl | rfl
  · have hu0 := hz rfl
    subst hu0
    exact ⟨⟨hset, old _ _ h.o1 (.inr (.inl rfl)), old _ _ h.o2 (.inr (.inl rfl)), old _ _ h.o3 (.inr (.inl rfl)), h.a12, h.a13, h.a23, h.hB⟩, hKf, fun k hk => .inl hk⟩
  · refine ⟨⟨hset, hu', old _ _ h.o2 h.a12.symm, old _ _ h.o3 h.a13.symm, (ap _ ⟨_, h.o2⟩ h.a12.symm).symm, (ap _ ⟨_, h.o3⟩ h.a13.symm).symm, h.a23, h.hB⟩, hKf, fun k hk => ?_⟩
    rcases hk with e | e | e | e
    · exact .inl (.inl e)
    · rcases ho' k e with e' | e'
      · exact .inl (.inr (.inl e'))
      · exact .inr e'
    · exact .inl (.inr (.inr (.inl e)))
    · exact .inl (.inr (.inr (.inr e)))
  · refine ⟨⟨hset, old _ _ h.o1 h.a12, hu', old _ _ h.o3 h.a23.symm, ap _ ⟨_, h.o1⟩ h.a12, h.a13, (ap _ ⟨_, h.o3⟩ h.a23.symm).symm, h.hB⟩, hKf, fun k hk => ?_⟩
    rcases hk with e | e | e | e
    · exact .inl (.inl e)
    · exact .inl (.inr (.inl e))
    · rcases ho' k e with e' | e'
      · exact .inl (.inr (.inr (.inl e')))
      · exact .inr e'
    · exact .inl (.inr (.inr (.inr e)))
  · refine ⟨⟨hset, old _ _ h.o1 h.a13, old _ _ h.o2 h.a23, hu', h.a12, ap _ ⟨_, h.o1⟩ h.a13, ap _ ⟨_, h.o2⟩ h.a23, h.hB⟩, hKf, fun k hk => ?_⟩
    rcases hk with e | e | e | e
    · exact .inl (.inl e)
    · exact .inl (.inr (.inl e))
    · exact .inl (.inr (.inr (.inl e)))
    · rcases ho' k e with e' | e'
      · exact .inl (.inr (.inr (.inr e')))
      · exact .inr e'
/-- What a call that changes the table leaves. -/
def TabTo (B : Nat) (w w' : World) (g : Nat) (R : Rm) (S' : Bks) (v1 v2 v3 : Value) : Prop := ∃ u1 u2 u3, TabV B w' g R S' u1 u2 u3 ∧ Kept (footT g v1 v2 v3) w w' ∧ ∀ k, footT g u1 u2 u3 k → footT g v1 v2 v3 k ∨ w.heap.size ≤ k
set_option maxHeartbeats 4000000 in
theorem drop_any (B : Nat) (w : World) (g : Nat) (R : Rm) (S : Bks) (v1 v2 v3 : Value) (h : TabV B w g R S v1 v2 v3) (b : Nat) (hb : b < 4) (hn : (bankL S b).length ≤ 1000000)
    (f : Nat) (cb : Array Value) (p : Slt → Bool) (eg : ∀ args w, (callFunc f args).run Try.prog w = .ok (.enter f args) w) (hc : ClosB (fun W => Kept (rowX (bankV v1 v2 v3 b)) w W) f cb p) :
    Calls Try.prog 52 #[.pointer (some ⟨g, 0, none⟩), .int .i64 (b : Int), .func (.func f) #[] cb] w fun e w' => ∃ u, e = .returned u ∧ SlotsAt w.heap.size w' u ((bankL S b).filter p) ∧ TabTo B w w' g R (setL S b ((bankL S b).filter fun x => !(p x))) v1 v2 v3 := by
  obtain ⟨vb, hvb⟩ : ∃ vb, vb = bankV v1 v2 v3 b := ⟨_, rfl⟩
  have hpt := part_any B _ _ w (h.bank b) hn f cb p eg hc
  have c1 := h.f.bankCell b hb
  rw [← hvb] at hpt c1
  have HP : Hid (∀ fv W, W = w → fv = Value.func (.func f) #[] cb → Calls Try.prog 70 #[vb, fv] W fun e w' => ∃ v1 v2, e = .returned (.tuple #[v1, v2]) ∧ SlotsAt B w' v1 ((bankL S b).filter fun x => !(p x)) ∧ v1.ownBlock = vb.ownBlock ∧ SlotsAt w.heap.size w' v2 ((bankL S b).filter p) ∧ Kept (rowX vb) w w') := fun fv W hW hf => by subst hW; subst hf; exact hpt
  have HSL : Hid (∀ w' u1 u2, SlotsAt B w' u1 ((bankL S b).filter fun x => !(p x)) → SlotsAt w.heap.size w' u2 ((bankL S b).filter p) → (∃ o n c, u1 = .slice o n c) ∧ ∃ o n c, u2 = .slice o n c) := fun w' u1 u2 h1 h2 => by
    obtain ⟨o, c, e, _⟩ := h1.slice
    obtain ⟨o', c', e', _⟩ := h2.slice
    exact ⟨⟨o, _, c, e⟩, ⟨o', _, c', e'⟩⟩
  have HF : Hid (∀ w' u1 u2, SlotsAt B w' u1 ((bankL S b).filter fun x => !(p x)) → u1.ownBlock = vb.ownBlock → SlotsAt w.heap.size w' u2 ((bankL S b).filter p) → Kept (rowX vb) w w' → (∀ k, w'.frozen? ⟨g, k, none⟩ = false) ∧ w'.cell? ⟨g, 4 + b, none⟩ = some vb ∧ SlotsAt w.heap.size (w'.setCell ⟨g, 4 + b, none⟩ u1) u2 ((bankL S b).filter p) ∧ TabTo B w (w'.setCell ⟨g, 4 + b, none⟩ u1) g R (setL S b ((bankL S b).filter fun x => !(p x))) v1 v2 v3) := fun w' u1 u2 q1 q2 q3 q4 => by
    have hgx : ¬ rowX vb g := by rw [hvb]; exact (h.bank b).ty h.blk (by decide)
    have hbk := q4.heap h.blk hgx
    have hK2 : Kept (isB g) w' (w'.setCell ⟨g, 4 + b, none⟩ u1) := ⟨rfl, rfl, rfl, by simp [World.setCell], fun k _ e => heap_setCell_other w' ⟨g, 4 + b, none⟩ k _ e⟩
    obtain ⟨r1, r2, r3⟩ := h.put b hb u1 _ (by rw [← hvb]; exact q4) q1 (.inl (by rw [← hvb]; exact q2)) (fun h0 => by
      subst h0
      have e0 : vb.ownBlock = none := by rw [hvb]; rfl
      obtain ⟨_, ⟨rfl, _⟩ | ⟨g', cap, cur, rfl, _⟩⟩ := q1
      · rfl
      · rw [e0] at q2; cases q2)
    refine ⟨fun k => by simp [World.frozen?, hbk], by rw [hvb]; exact (tabf_of hbk).bankCell b hb, q3.kept hK2 fun k e e' => ?_, _, _, _, r1, r2, r3⟩
    have h1 := (q3.lt k e).1
    have h2 := (Array.getElem?_eq_some_iff.1 h.blk).1
    unfold isB at e'
    omega
  have hb4 : (b : Int) < 4 := by omega
  obtain ⟨fv, hfv⟩ : ∃ fv, fv = Value.func (.func f) #[] cb := ⟨_, rfl⟩
  have HFV : Hid (fv = Value.func (.func f) #[] cb) := hfv
  rw [← hfv]
  clear hfv hpt hc h hvb
  go_enter Try.func52, Try.ntmps52
  go_wp2_with (go_at_call 70; refine (HP.out _ _ rfl HFV.out).mono ?_; rintro e w1 ⟨u1, u2, rfl, q1, q2, q3, q4⟩; obtain ⟨⟨o1, n1, p1, rfl⟩, o2, n2, p2, rfl⟩ := HSL.out w1 u1 u2 q1 q3; obtain ⟨f1, f2, f3, f4⟩ := HF.out w1 _ _ q1 q2 q3 q4; have f1' := f1 (4 + b); have F3 : Hid _ := f3; have F4 : Hid _ := f4; clear q1 q2 q3 q4 f3 f4 f1)
  go_ret
  exact ⟨_, rfl, F3.out, F4.out⟩
end Go.Proofs.Ytojhckjdkafpmaa
