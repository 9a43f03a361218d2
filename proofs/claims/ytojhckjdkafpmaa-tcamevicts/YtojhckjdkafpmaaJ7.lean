import Derived.Test.YtojhckjdkafpmaaJ2
import Derived.Test.YtojhckjdkafpmaaJ4
import Derived.Test.YtojhckjdkafpmaaJ6
import Derived.OwnWalk
import Derived.Test.YtojhckjdkafpmaaJ3
import Derived.Deep.QuietTactic
import Derived.Lib.Hide
import Derived.Lib.Walk
namespace Go.Proofs.Ytojhckjdkafpmaa
open Go Go.RowKit
set_option maxRecDepth 20000

/-- Thirteen of a list. -/
def pad (L : List Int) : List Int := (List.range 13).map fun i => L.getD i 0
theorem pad_len (L : List Int) : (pad L).length = 13 := by simp [pad]
theorem pad_id {L : List Int} (h : L.length = 13) : pad L = L := by
  apply List.ext_getElem?
  intro k
  unfold pad
  rcases Nat.lt_or_ge k 13 with hk | hk
  · rw [List.getElem?_map, List.getElem?_range hk, Option.map_some, List.getElem?_eq_getElem (by omega), List.getD, List.getElem?_eq_getElem (by omega)]; rfl
  · rw [List.getElem?_eq_none (by simpa using hk), List.getElem?_eq_none (by omega)]
/-- A slot as it lies in memory. -/
def slotV (x : Slt) : Array Value :=
  #[.int .i64 x.bank, .int .i64 x.epoch, .int .i64 x.place, .int .i64 x.order] ++ cv (pad x.cube.1) (pad x.cube.2) ++ #[.int .i64 x.action, .int .i64 x.one, .int .i64 x.two, .int .i64 x.born, .int .i64 x.used, .int .i64 x.count]
theorem slotV_size (x : Slt) : (slotV x).size = 36 := by
  unfold slotV
  simp only [Array.size_append, cv_size _ _ (pad_len _) (pad_len _)]
  rfl
theorem slotV_one (x : Slt) : (slotV x).all (·.oneCell') = true := by
  unfold slotV
  rw [Array.all_append, Array.all_append, cv_one]
  simp [Value.oneCell']
theorem slotV_lo (x : Slt) (j : Nat) (hj : j < 4) : (slotV x)[j]? = #[Value.int .i64 x.bank, .int .i64 x.epoch, .int .i64 x.place, .int .i64 x.order][j]? := by
  unfold slotV
  rw [Array.getElem?_append_left (by simp only [Array.size_append, cv_size _ _ (pad_len _) (pad_len _)]; simp; omega), Array.getElem?_append_left (by simpa using hj)]
theorem slotV_cube (x : Slt) (j : Nat) (hj : j < 26) : (slotV x)[4 + j]? = (cv (pad x.cube.1) (pad x.cube.2))[j]? := by
  unfold slotV
  rw [Array.getElem?_append_left (by simp only [Array.size_append, cv_size _ _ (pad_len _) (pad_len _)]; simp; omega), Array.getElem?_append_right (by simp)]
  simp
theorem slotV_hi (x : Slt) (j : Nat) : (slotV x)[30 + j]? = #[Value.int .i64 x.action, .int .i64 x.one, .int .i64 x.two, .int .i64 x.born, .int .i64 x.used, .int .i64 x.count][j]? := by
  unfold slotV
  rw [Array.getElem?_append_right (by simp only [Array.size_append, cv_size _ _ (pad_len _) (pad_len _)]; simp)]
  simp only [Array.size_append, cv_size _ _ (pad_len _) (pad_len _)]
  congr 1
  simp
def SlotE : El := ⟨38, 43, 36, 112, slotV zeroS⟩
theorem zero_slot : slotV zeroS = #[.int .i64 0, .int .i64 0, .int .i64 0, .int .i64 0] ++ zeroC ++ #[.int .i64 0, .int .i64 0, .int .i64 0, .int .i64 0, .int .i64 0, .int .i64 0] := by
  unfold slotV zeroS
  simp only [pad_id (L := List.replicate 13 0) (by simp), zeroC_eq, Z_eq]
  rfl
theorem SlotOk : SlotE.Ok := ⟨Try.underlying43, ⟨_, Try.underlying38, rfl⟩, by
    show _ = some (some (Value.agg (slotV zeroS)), _, _)
    rw [zero_slot]; kernel_rfl, slotV_size _, by decide, by decide, by decide⟩
theorem slot_fits (x : Slt) : Fits SlotE (slotV x) := ⟨slotV_size x, slotV_one x⟩
/-- A slot's fields, from a place on. -/
structure SlF (w : World) (g off : Nat) (x : Slt) : Prop where
  c0 : w.cell? ⟨g, off, none⟩ = some (.int .i64 x.bank)
  c1 : w.cell? ⟨g, off + 1, none⟩ = some (.int .i64 x.epoch)
  c2 : w.cell? ⟨g, off + 2, none⟩ = some (.int .i64 x.place)
  c3 : w.cell? ⟨g, off + 3, none⟩ = some (.int .i64 x.order)
  c30 : w.cell? ⟨g, off + 30, none⟩ = some (.int .i64 x.action)
  c31 : w.cell? ⟨g, off + 31, none⟩ = some (.int .i64 x.one)
  c32 : w.cell? ⟨g, off + 32, none⟩ = some (.int .i64 x.two)
  c33 : w.cell? ⟨g, off + 33, none⟩ = some (.int .i64 x.born)
  c34 : w.cell? ⟨g, off + 34, none⟩ = some (.int .i64 x.used)
  c35 : w.cell? ⟨g, off + 35, none⟩ = some (.int .i64 x.count)
theorem slf_of {w : World} {g off : Nat} {cur : Array Value} {ty : TypeId} {fr : Nat × Nat} {x : Slt} (hg : w.heap[g]? = some (.cells cur ty fr)) (hc : ∀ j, j < 36 → cur[off + j]? = (slotV x)[j]?) : SlF w g off x := by
  have key : ∀ j v, j < 36 → (slotV x)[j]? = some v → w.cell? ⟨g, off + j, none⟩ = some v := fun j v hj hv => by
    rw [cell_of_row w g (off + j) cur ty fr hg, hc j hj, hv]
  refine ⟨key 0 _ (by decide) ?_, key 1 _ (by decide) ?_, key 2 _ (by decide) ?_, key 3 _ (by decide) ?_, key 30 _ (by decide) ?_, key 31 _ (by decide) ?_, key 32 _ (by decide) ?_, key 33 _ (by decide) ?_, key 34 _ (by decide) ?_, key 35 _ (by decide) ?_⟩
  · rw [slotV_lo x 0 (by decide)]; rfl
  · rw [slotV_lo x 1 (by decide)]; rfl
  · rw [slotV_lo x 2 (by decide)]; rfl
  · rw [slotV_lo x 3 (by decide)]; rfl
  · exact (slotV_hi x 0).trans rfl
  · exact (slotV_hi x 1).trans rfl
  · exact (slotV_hi x 2).trans rfl
  · exact (slotV_hi x 3).trans rfl
  · exact (slotV_hi x 4).trans rfl
  · exact (slotV_hi x 5).trans rfl
theorem slf_own {w : World} {g : Nat} {ty : TypeId} {fr : Nat × Nat} {x : Slt} (hg : w.heap[g]? = some (.cells (slotV x) ty fr)) : SlF w g 0 x := slf_of hg fun j _ => by rw [Nat.zero_add]
theorem SlF.below {w w' : World} {g off : Nat} {x : Slt} (h : SlF w g off x) (hb : w'.heap[g]? = w.heap[g]?) : SlF w' g off x := by
  have e : ∀ k, w'.cell? ⟨g, k, none⟩ = w.cell? ⟨g, k, none⟩ := fun k => World.cell?_of_block hb
  exact ⟨(e _).trans h.c0, (e _).trans h.c1, (e _).trans h.c2, (e _).trans h.c3, (e _).trans h.c30, (e _).trans h.c31, (e _).trans h.c32, (e _).trans h.c33, (e _).trans h.c34, (e _).trans h.c35⟩
/-- A slot whose cube is made of bytes. -/
def OkC (c : Cub) : Prop := Byt c.1 ∧ Byt c.2
theorem zeroS_ok : OkC zeroS.cube := by
  have : Byt (List.replicate 13 (0 : Int)) := ⟨by simp, fun k => by
    rw [List.getD, List.getElem?_replicate]
    split <;> simp⟩
  exact ⟨this, this⟩
theorem slot_ext {x y : Slt} (h0 : x.bank = y.bank) (h1 : x.epoch = y.epoch) (h2 : x.place = y.place) (h3 : x.order = y.order) (h4 : x.cube = y.cube) (h5 : x.action = y.action) (h6 : x.one = y.one) (h7 : x.two = y.two) (h8 : x.born = y.born) (h9 : x.used = y.used) (h10 : x.count = y.count) : x = y := by
  cases x; cases y; simp_all
def eqS (x y : Slt) : Bool := x.bank == y.bank && (x.epoch == y.epoch && (x.place == y.place && (x.order == y.order && ((pad x.cube.1 == pad y.cube.1 && pad x.cube.2 == pad y.cube.2) && (x.action == y.action && (x.one == y.one && (x.two == y.two && (x.born == y.born && (x.used == y.used && x.count == y.count)))))))))
theorem eqS_iff {x y : Slt} (hx : OkC x.cube) (hy : OkC y.cube) : eqS x y = true ↔ x = y := by
  unfold eqS
  rw [pad_id hx.1.1, pad_id hx.2.1, pad_id hy.1.1, pad_id hy.2.1]
  simp only [Bool.and_eq_true, beq_iff_eq]
  constructor
  · rintro ⟨a, b, c, d, ⟨e1, e2⟩, f, g, h, i, j, k⟩
    exact slot_ext a b c d (Prod.ext e1 e2) f g h i j k
  · rintro rfl; simp
theorem eqS_self (x : Slt) : eqS x x = true := by unfold eqS; simp

/-! Held against each other. -/
theorem eqCd (d : Nat) (V M V' M' : List Int) (hV : V.length = 13) (hM : M.length = 13) (hV' : V'.length = 13) (hM' : M'.length = 13) (w : World) :
    (Op.equalIn (d + 3) 36 (.agg (cv V M)) (.agg (cv V' M'))).run Try.prog w = .ok (V == V' && M == M') w := by
  have eH : ∀ A B : List Int, A.length = 13 → B.length = 13 → ∀ w, (Op.equalIn (d + 2) 34 (.agg (hv A)) (.agg (hv B))).run Try.prog w = .ok (A == B) w := fun A B hA hB w => by
    have z5 : (sizeOf 5).run Try.prog w = .ok 1 w := by kernel_rfl
    rw [show d + 2 = (d + 1) + 1 from rfl, Op.equalIn]
    simp only [Sem.run_bind, run_underlying Try.underlying34, Result.andThen_ok, z5]
    simp only [Std.Legacy.Range.forIn_eq_forIn_range', Std.Legacy.Range.size, Nat.sub_zero, Nat.add_sub_cancel, Nat.div_one]
    rw [← all_eq A B hA hB]
    exact loopN d A B hA hB w _ rfl rfl (List.range' 0 13) (fun i hi => by simp at hi; omega)
  rw [show d + 3 = (d + 2) + 1 from rfl, run_equalIn_struct w (d + 2) 36 _ _ (by kernel_rfl) (by kernel_rfl)]
  rw [show (Try.prog.fieldsOf 36).toList = [{ name := "Value", type := 34, offset := 0, embedded := false, tag := "", pkgPath := "", byteOffset := 0 }, { name := "Mask", type := 34, offset := 13, embedded := false, tag := "", pkgPath := "", byteOffset := 13 }] from by kernel_rfl]
  simp only [Op.eqFields, ne_eq, String.reduceEq, not_false_eq_true, if_true, Sem.run_bind]
  simp only [part_val V M hV, part_val V' M' hV', Result.andThen_ok, eH V V' hV hV']
  cases hA : (V == V')
  · simp
  · simp only [Bool.not_true, Bool.false_eq_true, if_false, Sem.run_bind, part_mask V M hV hM, part_mask V' M' hV' hM', Result.andThen_ok, eH M M' hM hM']
    cases hB : (M == M') <;> simp
theorem eqC9 (V M V' M' : List Int) (hV : V.length = 13) (hM : M.length = 13) (hV' : V'.length = 13) (hM' : M'.length = 13) (w : World) : (Op.equalIn 9999 36 (.agg (cv V M)) (.agg (cv V' M'))).run Try.prog w = .ok (V == V' && M == M') w := by
  rw [show (9999 : Nat) = 9996 + 3 from rfl]; exact eqCd 9996 V M V' M' hV hM hV' hM' w
theorem part_int {x : Slt} {j : Nat} {z : Int} (h : (slotV x)[j]? = some (.int .i64 z)) (w : World) : (part 3 (slotV x) j).run Try.prog w = .ok (.int .i64 z) w := by
  have hz : ∀ w, (sizeOf 3).run Try.prog w = .ok 1 w := fun w => by kernel_rfl
  have ha : ∀ w, (isAgg 3).run Try.prog w = .ok false w := fun w => by kernel_rfl
  simp [part, ha, h, Sem.run_bind]
theorem part_cube (x : Slt) (w : World) : (part 36 (slotV x) 4).run Try.prog w = .ok (.agg (cv (pad x.cube.1) (pad x.cube.2))) w := by
  have hz : ∀ w, (sizeOf 36).run Try.prog w = .ok 26 w := fun w => by kernel_rfl
  have ha : ∀ w, (isAgg 36).run Try.prog w = .ok true w := fun w => by kernel_rfl
  have e : (slotV x).extract 4 30 = cv (pad x.cube.1) (pad x.cube.2) := by
    apply Array.ext_getElem?
    intro k
    by_cases hk : k < 26
    · rw [Array.getElem?_extract, if_pos (by rw [slotV_size]; omega), slotV_cube x k hk]
    · rw [Array.getElem?_eq_none (by rw [Array.size_extract, slotV_size]; omega), Array.getElem?_eq_none (by rw [cv_size _ _ (pad_len _) (pad_len _)]; omega)]
  simp [part, ha, hz, Sem.run_bind, e]
theorem eqF_step {xs ys : Array Value} {f : Field} {fs : List Field} {u v : Value} {b : Bool} {w : World} (hn : (f.name ≠ "_") = True) (hx : (part f.type xs f.offset).run Try.prog w = .ok u w) (hy : (part f.type ys f.offset).run Try.prog w = .ok v w) (he : (Op.equalIn 9999 f.type u v).run Try.prog w = .ok b w) {r : Bool} (hr : (Op.eqFields 9999 xs ys fs).run Try.prog w = .ok r w) :
    (Op.eqFields 9999 xs ys (f :: fs)).run Try.prog w = .ok (b && r) w := by
  cases b
  · simp only [Op.eqFields, hn, if_true, Sem.run_bind, hx, hy, he, Result.andThen_ok, Bool.not_false, Sem.run_pure, Bool.false_and]
  · simp only [Op.eqFields, hn, if_true, Sem.run_bind, hx, hy, he, Result.andThen_ok, Bool.not_true, Bool.false_eq_true, if_false, hr, Bool.true_and]
theorem eqF_int (x y : Slt) (w : World) (n : String) (o q : Nat) (fs : List Field) (a b : Int) (hn : (n ≠ "_") = True) (hx : (slotV x)[o]? = some (.int .i64 a)) (hy : (slotV y)[o]? = some (.int .i64 b)) (r : Bool) (hr : (Op.eqFields 9999 (slotV x) (slotV y) fs).run Try.prog w = .ok r w) :
    (Op.eqFields 9999 (slotV x) (slotV y) ({ name := n, type := 3, offset := o, embedded := false, tag := "", pkgPath := "", byteOffset := q } :: fs)).run Try.prog w = .ok ((a == b) && r) w :=
  eqF_step (u := .int .i64 a) (v := .int .i64 b) (b := a == b) (f := { name := n, type := 3, offset := o, embedded := false, tag := "", pkgPath := "", byteOffset := q }) hn (part_int hx w) (part_int hy w) (run_equalIn_int w 9998 3 .i64 .i64 _ _ Try.underlying3) hr
theorem eqF_cube (x y : Slt) (w : World) (n : String) (q : Nat) (fs : List Field) (hn : (n ≠ "_") = True) (r : Bool) (hr : (Op.eqFields 9999 (slotV x) (slotV y) fs).run Try.prog w = .ok r w) :
    (Op.eqFields 9999 (slotV x) (slotV y) ({ name := n, type := 36, offset := 4, embedded := false, tag := "", pkgPath := "", byteOffset := q } :: fs)).run Try.prog w = .ok ((pad x.cube.1 == pad y.cube.1 && pad x.cube.2 == pad y.cube.2) && r) w :=
  eqF_step (u := .agg (cv (pad x.cube.1) (pad x.cube.2))) (v := .agg (cv (pad y.cube.1) (pad y.cube.2))) (f := { name := n, type := 36, offset := 4, embedded := false, tag := "", pkgPath := "", byteOffset := q }) hn (part_cube x w) (part_cube y w) (eqC9 _ _ _ _ (pad_len _) (pad_len _) (pad_len _) (pad_len _) w) hr
theorem eqSlot (x y : Slt) (w : World) : (Op.equalIn 10000 38 (.agg (slotV x)) (.agg (slotV y))).run Try.prog w = .ok (eqS x y) w := by
  have p0 : ∀ x : Slt, (slotV x)[0]? = some (.int .i64 x.bank) := fun x => (slotV_lo x 0 (by decide)).trans rfl
  have p1 : ∀ x : Slt, (slotV x)[1]? = some (.int .i64 x.epoch) := fun x => (slotV_lo x 1 (by decide)).trans rfl
  have p2 : ∀ x : Slt, (slotV x)[2]? = some (.int .i64 x.place) := fun x => (slotV_lo x 2 (by decide)).trans rfl
  have p3 : ∀ x : Slt, (slotV x)[3]? = some (.int .i64 x.order) := fun x => (slotV_lo x 3 (by decide)).trans rfl
  have p30 : ∀ x : Slt, (slotV x)[30]? = some (.int .i64 x.action) := fun x => (slotV_hi x 0).trans rfl
  have p31 : ∀ x : Slt, (slotV x)[31]? = some (.int .i64 x.one) := fun x => (slotV_hi x 1).trans rfl
  have p32 : ∀ x : Slt, (slotV x)[32]? = some (.int .i64 x.two) := fun x => (slotV_hi x 2).trans rfl
  have p33 : ∀ x : Slt, (slotV x)[33]? = some (.int .i64 x.born) := fun x => (slotV_hi x 3).trans rfl
  have p34 : ∀ x : Slt, (slotV x)[34]? = some (.int .i64 x.used) := fun x => (slotV_hi x 4).trans rfl
  have p35 : ∀ x : Slt, (slotV x)[35]? = some (.int .i64 x.count) := fun x => (slotV_hi x 5).trans rfl
  rw [show (10000 : Nat) = 9999 + 1 from rfl, run_equalIn_struct w 9999 38 _ _ (by kernel_rfl) (by kernel_rfl)]
  have ef : (Try.prog.fieldsOf 38).toList = [{ name := "Bank", type := 3, offset := 0, embedded := false, tag := "", pkgPath := "", byteOffset := 0 }, { name := "Epoch", type := 3, offset := 1, embedded := false, tag := "", pkgPath := "", byteOffset := 8 }, { name := "At", type := 3, offset := 2, embedded := false, tag := "", pkgPath := "", byteOffset := 16 }, { name := "Order", type := 3, offset := 3, embedded := false, tag := "", pkgPath := "", byteOffset := 24 }, { name := "Cube", type := 36, offset := 4, embedded := false, tag := "", pkgPath := "", byteOffset := 32 }, { name := "Action", type := 3, offset := 30, embedded := false, tag := "", pkgPath := "", byteOffset := 64 }, { name := "One", type := 3, offset := 31, embedded := false, tag := "", pkgPath := "", byteOffset := 72 }, { name := "Two", type := 3, offset := 32, embedded := false, tag := "", pkgPath := "", byteOffset := 80 }, { name := "Born", type := 3, offset := 33, embedded := false, tag := "", pkgPath := "", byteOffset := 88 }, { name := "Used", type := 3, offset := 34, embedded := false, tag := "", pkgPath := "", byteOffset := 96 }, { name := "Count", type := 3, offset := 35, embedded := false, tag := "", pkgPath := "", byteOffset := 104 }] := by kernel_rfl
  rw [ef]
  clear ef
  have h35 := eqF_int x y w "Count" 35 104 [] x.count y.count (by simp) (p35 x) (p35 y) true (by simp [Op.eqFields])
  have h34 := eqF_int x y w "Used" 34 96 _ x.used y.used (by simp) (p34 x) (p34 y) _ h35
  have h33 := eqF_int x y w "Born" 33 88 _ x.born y.born (by simp) (p33 x) (p33 y) _ h34
  have h32 := eqF_int x y w "Two" 32 80 _ x.two y.two (by simp) (p32 x) (p32 y) _ h33
  have h31 := eqF_int x y w "One" 31 72 _ x.one y.one (by simp) (p31 x) (p31 y) _ h32
  have h30 := eqF_int x y w "Action" 30 64 _ x.action y.action (by simp) (p30 x) (p30 y) _ h31
  have h4 := eqF_cube x y w "Cube" 32 _ (by simp) _ h30
  have h3 := eqF_int x y w "Order" 3 24 _ x.order y.order (by simp) (p3 x) (p3 y) _ h4
  have h2 := eqF_int x y w "At" 2 16 _ x.place y.place (by simp) (p2 x) (p2 y) _ h3
  have h1 := eqF_int x y w "Epoch" 1 8 _ x.epoch y.epoch (by simp) (p1 x) (p1 y) _ h2
  have h0 := eqF_int x y w "Bank" 0 0 _ x.bank y.bank (by simp) (p0 x) (p0 y) _ h1
  rw [Bool.and_true] at h0
  exact h0
theorem egS (op : BinOp) (x y : Operand) (xs ys : Array Value) (w : World) : (eqGuard op 38 x y (.agg xs) (.agg ys)).run Try.prog w = .ok () w :=
  run_eqGuard_agg w op 38 x y xs ys (by kernel_rfl)
theorem build_zero (W : World) : (Instr.build 38 #[]).run Try.prog W = .ok (.agg (slotV zeroS)) W := by rw [zero_slot]; kernel_rfl
end Go.Proofs.Ytojhckjdkafpmaa
namespace Go.Proofs.Ytojhckjdkafpmaa
open Go Go.RowKit
set_option maxRecDepth 20000

/-- All blocks but these are as they were. -/
structure Kept (X : Nat → Prop) (w w' : World) : Prop where
  os : w'.os = w.os
  tape : w'.tape = w.tape
  output : w'.output = w.output
  size : w.heap.size ≤ w'.heap.size
  block : ∀ k, k < w.heap.size → ¬ X k → w'.heap[k]? = w.heap[k]?
theorem Kept.refl (X : Nat → Prop) (w : World) : Kept X w w := ⟨rfl, rfl, rfl, Nat.le_refl _, fun _ _ _ => rfl⟩
theorem Kept.of_below {X : Nat → Prop} {w w' : World} (h : Below w.heap.size w w') : Kept X w w' := ⟨h.os, h.tape, h.output, h.size, fun k hk _ => h.block k hk⟩
theorem Kept.of_grown {X : Nat → Prop} {w w' : World} {row : Option Nat} (h : w.grownBy w' row) (hr : ∀ k, row = some k → X k) : Kept X w w' :=
  ⟨h.os, h.tape, h.output, h.size, fun k hk hX => h.block k hk fun e => hX (hr k e.symm)⟩
theorem Kept.trans {X Y : Nat → Prop} {w w1 w2 : World} (h : Kept X w w1) (h' : Kept Y w1 w2) (hY : ∀ k, Y k → X k ∨ w.heap.size ≤ k) : Kept X w w2 :=
  ⟨h'.os.trans h.os, h'.tape.trans h.tape, h'.output.trans h.output, Nat.le_trans h.size h'.size, fun k hk hX => by
    rw [h'.block k (Nat.lt_of_lt_of_le hk h.size) (fun hy => by rcases hY k hy with e | e; exact hX e; omega)]
    exact h.block k hk hX⟩
theorem Kept.mono {X Y : Nat → Prop} {w w' : World} (h : Kept X w w') (hXY : ∀ k, k < w.heap.size → X k → Y k) : Kept Y w w' := ⟨h.os, h.tape, h.output, h.size, fun k hk hY => h.block k hk fun hX => hY (hXY k hk hX)⟩
theorem Kept.below {X : Nat → Prop} {w w' : World} {B : Nat} (h : Kept X w w') (hX : ∀ k, X k → B ≤ k) (hB : B ≤ w.heap.size) : Below B w w' :=
  ⟨h.os, h.tape, h.output, h.size, fun k hk => h.block k (by omega) fun hx => by have := hX k hx; omega⟩
theorem Kept.add {X : Nat → Prop} {w w1 w2 : World} (h : Kept X w w1) (h' : Below w1.heap.size w1 w2) : Kept X w w2 := h.trans (Y := fun _ => False) (Kept.of_below h') fun _ h => h.elim
theorem Kept.pre {X : Nat → Prop} {w w1 w2 : World} (h : Below w.heap.size w w1) (h' : Kept X w1 w2) : Kept X w w2 := (Kept.of_below (X := X) h).trans h' fun _ hk => .inl hk
theorem Kept.heap {X : Nat → Prop} {w w' : World} {k : Nat} {o : Obj} (h : Kept X w w') (hk : w.heap[k]? = some o) (hX : ¬ X k) : w'.heap[k]? = some o := (h.block k (Array.getElem?_eq_some_iff.1 hk).1 hX).trans hk
theorem Kept.own {X : Nat → Prop} {w w' : World} (h : Kept X w w') {B : Nat} {e : TypeId} {s : Nat} {v : Value} {n : Nat} {xs : List Value} (ho : w.ownsRow B e s v n xs) (hX : ∀ k, v.ownBlock = some k → ¬ X k) : w'.ownsRow B e s v n xs := by
  obtain ⟨h1, h2 | ⟨g, cap, cur, rfl, hB, hcur, h3⟩⟩ := ho
  · exact ⟨h1, .inl h2⟩
  · exact ⟨h1, .inr ⟨g, cap, cur, rfl, hB, h.heap hcur (hX g rfl), h3⟩⟩

/-- Two rows lie apart. -/
def ApartR (a b : Option Nat) : Prop := a = none ∨ b = none ∨ a ≠ b
theorem ApartR.symm {a b : Option Nat} (h : ApartR a b) : ApartR b a := by
  rcases h with h | h | h
  · exact .inr (.inl h)
  · exact .inl h
  · exact .inr (.inr fun e => h e.symm)
theorem ApartR.ne {a b : Option Nat} (h : ApartR a b) : ∀ k, a = some k → b ≠ some k := by
  intro k ha hb
  subst ha
  subst hb
  rcases h with h | h | h
  · cases h
  · cases h
  · exact h rfl
def SlotsAt (B : Nat) (w : World) (v : Value) (C : List Slt) : Prop := w.ownsRow B 38 36 v C.length (gcells slotV C)
theorem SlotsAt.sl {B : Nat} {w : World} {v : Value} {C : List Slt} (h : SlotsAt B w v C) : GSl SlotE slotV w v C := gsl_of (E := SlotE) h fun c _ => slotV_size c
theorem SlotsAt.lt {B : Nat} {w : World} {v : Value} {C : List Slt} (h : SlotsAt B w v C) : ∀ k, v.ownBlock = some k → B ≤ k ∧ k < w.heap.size := World.ownsRow.lt h
theorem SlotsAt.nil (B : Nat) (w : World) : SlotsAt B w (.slice none 0 0) [] := World.ownsRow_nil _ _ _ _
theorem SlotsAt.kept {X : Nat → Prop} {B : Nat} {w w' : World} {v : Value} {C : List Slt} (h : SlotsAt B w v C) (hk : Kept X w w') (hX : ∀ k, v.ownBlock = some k → ¬ X k) : SlotsAt B w' v C := hk.own h hX
theorem SlotsAt.below {B : Nat} {w w' : World} {v : Value} {C : List Slt} (h : SlotsAt B w v C) (hb : Below w.heap.size w w') : SlotsAt B w' v C := gown_below h hb
theorem SlotsAt.base {B B' : Nat} {w : World} {v : Value} {C : List Slt} (h : SlotsAt B w v C) (hB : B' ≤ B) : SlotsAt B' w v C := gown_base h hB
theorem SlotsAt.slice {B : Nat} {w : World} {v : Value} {C : List Slt} (h : SlotsAt B w v C) : ∃ o cap, v = .slice o C.length cap ∧ C.length ≤ cap ∧ cap ≤ maxLen := h.sl.slice
theorem SlotsAt.ty {B : Nat} {w : World} {v : Value} {C : List Slt} (h : SlotsAt B w v C) {g : Nat} {cs : Array Value} {t : TypeId} {fr : Nat × Nat} (hg : w.heap[g]? = some (.cells cs t fr)) (ht : t ≠ 38) : v.ownBlock ≠ some g := by
  intro e
  obtain ⟨_, ⟨rfl, _⟩ | ⟨g', cap, cur, rfl, _, h1, _⟩⟩ := h
  · cases e
  · simp only [Value.ownBlock, Option.some.injEq] at e
    subst e
    rw [hg] at h1
    simp only [Option.some.injEq, Obj.cells.injEq] at h1
    exact ht h1.2.1

/-- A table's cells. -/
def tabV (R : Rm) (v1 v2 v3 : Value) : Array Value := #[.int .i64 0, .int .i64 R.cache, .int .i64 R.auth, .int .i64 R.part, .slice none 0 0, v1, v2, v3, .int .i64 R.idle, .int .i64 R.hard]
/-- A table in memory: its block, its rows. -/
structure TabV (B : Nat) (w : World) (g : Nat) (R : Rm) (S : Bks) (v1 v2 v3 : Value) : Prop where
  blk : w.heap[g]? = some (.cells (tabV R v1 v2 v3) 72 (0, 0))
  o1 : SlotsAt B w v1 S.c
  o2 : SlotsAt B w v2 S.a
  o3 : SlotsAt B w v3 S.p
  a12 : ApartR v1.ownBlock v2.ownBlock
  a13 : ApartR v1.ownBlock v3.ownBlock
  a23 : ApartR v2.ownBlock v3.ownBlock
  hB : B ≤ g
def footT (g : Nat) (v1 v2 v3 : Value) (k : Nat) : Prop := k = g ∨ v1.ownBlock = some k ∨ v2.ownBlock = some k ∨ v3.ownBlock = some k
/-- The same with its blocks within X. -/
def Tab (B : Nat) (X : Nat → Prop) (w : World) (g : Nat) (R : Rm) (S : Bks) : Prop := ∃ v1 v2 v3, TabV B w g R S v1 v2 v3 ∧ (∀ k, footT g v1 v2 v3 k → X k) ∧ ∀ k, X k → B ≤ k ∧ k < w.heap.size
theorem TabV.foot_in {B : Nat} {w : World} {g : Nat} {R : Rm} {S : Bks} {v1 v2 v3 : Value} (h : TabV B w g R S v1 v2 v3) : ∀ k, footT g v1 v2 v3 k → B ≤ k ∧ k < w.heap.size := by
  rintro k (rfl | e | e | e)
  · exact ⟨h.hB, (Array.getElem?_eq_some_iff.1 h.blk).1⟩
  · exact h.o1.lt k e
  · exact h.o2.lt k e
  · exact h.o3.lt k e
theorem TabV.kept {X : Nat → Prop} {B : Nat} {w w' : World} {g : Nat} {R : Rm} {S : Bks} {v1 v2 v3 : Value} (h : TabV B w g R S v1 v2 v3) (hk : Kept X w w') (hX : ∀ k, footT g v1 v2 v3 k → ¬ X k) : TabV B w' g R S v1 v2 v3 :=
  ⟨hk.heap h.blk (hX g (.inl rfl)), h.o1.kept hk fun k e => hX k (.inr (.inl e)), h.o2.kept hk fun k e => hX k (.inr (.inr (.inl e))), h.o3.kept hk fun k e => hX k (.inr (.inr (.inr e))), h.a12, h.a13, h.a23, h.hB⟩
theorem TabV.below {B : Nat} {w w' : World} {g : Nat} {R : Rm} {S : Bks} {v1 v2 v3 : Value} (h : TabV B w g R S v1 v2 v3) (hb : Below w.heap.size w w') : TabV B w' g R S v1 v2 v3 := h.kept (X := fun _ => False) (Kept.of_below hb) fun _ _ e => e
theorem Tab.kept {X Y : Nat → Prop} {B : Nat} {w w' : World} {g : Nat} {R : Rm} {S : Bks} (h : Tab B X w g R S) (hk : Kept Y w w') (hX : ∀ k, X k → ¬ Y k) : Tab B X w' g R S := by
  obtain ⟨v1, v2, v3, h1, h2, h3⟩ := h
  exact ⟨v1, v2, v3, h1.kept hk fun k e => hX k (h2 k e), h2, fun k e => ⟨(h3 k e).1, Nat.lt_of_lt_of_le (h3 k e).2 hk.size⟩⟩
theorem Tab.below {X : Nat → Prop} {B : Nat} {w w' : World} {g : Nat} {R : Rm} {S : Bks} (h : Tab B X w g R S) (hb : Below w.heap.size w w') : Tab B X w' g R S := h.kept (Y := fun _ => False) (Kept.of_below hb) fun _ _ e => e
/-- What a call may add. -/
def addX (X : Nat → Prop) (w w' : World) (k : Nat) : Prop := X k ∨ w.heap.size ≤ k ∧ k < w'.heap.size
theorem Tab.of {X : Nat → Prop} {B : Nat} {w w' : World} {g : Nat} {R : Rm} {S : Bks} {v1 v2 v3 : Value} (h : TabV B w' g R S v1 v2 v3) (hX : ∀ k, footT g v1 v2 v3 k → X k ∨ w.heap.size ≤ k) (hX0 : ∀ k, X k → B ≤ k ∧ k < w.heap.size) (hB : B ≤ w.heap.size) (hs : w.heap.size ≤ w'.heap.size) : Tab B (addX X w w') w' g R S :=
  ⟨v1, v2, v3, h, fun k hk => by
    rcases hX k hk with e | e
    · exact .inl e
    · exact .inr ⟨e, (h.foot_in k hk).2⟩, fun k hk => by
    rcases hk with e | e
    · have := hX0 k e; omega
    · omega⟩
/-- A table's fields. -/
structure TabF (w : World) (g : Nat) (R : Rm) (v1 v2 v3 : Value) : Prop where
  c0 : w.cell? ⟨g, 0, none⟩ = some (.int .i64 0)
  c1 : w.cell? ⟨g, 1, none⟩ = some (.int .i64 R.cache)
  c2 : w.cell? ⟨g, 2, none⟩ = some (.int .i64 R.auth)
  c3 : w.cell? ⟨g, 3, none⟩ = some (.int .i64 R.part)
  c4 : w.cell? ⟨g, 4, none⟩ = some (.slice none 0 0)
  c5 : w.cell? ⟨g, 5, none⟩ = some v1
  c6 : w.cell? ⟨g, 6, none⟩ = some v2
  c7 : w.cell? ⟨g, 7, none⟩ = some v3
  c8 : w.cell? ⟨g, 8, none⟩ = some (.int .i64 R.idle)
  c9 : w.cell? ⟨g, 9, none⟩ = some (.int .i64 R.hard)
  fz : ∀ k, w.frozen? ⟨g, k, none⟩ = false
theorem tabf_of {w : World} {g : Nat} {R : Rm} {v1 v2 v3 : Value} {t : TypeId} (h : w.heap[g]? = some (.cells (tabV R v1 v2 v3) t (0, 0))) : TabF w g R v1 v2 v3 :=
  ⟨by rw [cell_of_row w g _ _ _ _ h]; rfl, by rw [cell_of_row w g _ _ _ _ h]; rfl, by rw [cell_of_row w g _ _ _ _ h]; rfl, by rw [cell_of_row w g _ _ _ _ h]; rfl, by rw [cell_of_row w g _ _ _ _ h]; rfl, by rw [cell_of_row w g _ _ _ _ h]; rfl, by rw [cell_of_row w g _ _ _ _ h]; rfl, by rw [cell_of_row w g _ _ _ _ h]; rfl, by rw [cell_of_row w g _ _ _ _ h]; rfl, by rw [cell_of_row w g _ _ _ _ h]; rfl, fun k => by simp [World.frozen?, h]⟩
theorem TabV.f {B : Nat} {w : World} {g : Nat} {R : Rm} {S : Bks} {v1 v2 v3 : Value} (h : TabV B w g R S v1 v2 v3) : TabF w g R v1 v2 v3 := tabf_of h.blk
/-- One of the banks. -/
def bankL (S : Bks) (b : Nat) : List Slt := if b = 1 then S.c else if b = 2 then S.a else if b = 3 then S.p else []
def bankV (v1 v2 v3 : Value) (b : Nat) : Value := if b = 1 then v1 else if b = 2 then v2 else if b = 3 then v3 else .slice none 0 0
def roomL (R : Rm) (b : Nat) : Nat := if b = 1 then R.cache else if b = 2 then R.auth else if b = 3 then R.part else 0
theorem TabV.bank {B : Nat} {w : World} {g : Nat} {R : Rm} {S : Bks} {v1 v2 v3 : Value} (h : TabV B w g R S v1 v2 v3) (b : Nat) : SlotsAt B w (bankV v1 v2 v3 b) (bankL S b) := by
  unfold bankV bankL
  split
  · exact h.o1
  · split
    · exact h.o2
    · split
      · exact h.o3
      · exact SlotsAt.nil _ _
theorem TabF.bankCell {w : World} {g : Nat} {R : Rm} {v1 v2 v3 : Value} (h : TabF w g R v1 v2 v3) (b : Nat) (hb : b < 4) : w.cell? ⟨g, 4 + b, none⟩ = some (bankV v1 v2 v3 b) := by
  rcases (show b = 0 ∨ b = 1 ∨ b = 2 ∨ b = 3 by omega) with rfl | rfl | rfl | rfl
  · exact h.c4
  · exact h.c5
  · exact h.c6
  · exact h.c7
theorem TabF.roomCell {w : World} {g : Nat} {R : Rm} {v1 v2 v3 : Value} (h : TabF w g R v1 v2 v3) (b : Nat) (hb : b < 4) : w.cell? ⟨g, b, none⟩ = some (.int .i64 (roomL R b : Nat)) := by
  rcases (show b = 0 ∨ b = 1 ∨ b = 2 ∨ b = 3 by omega) with rfl | rfl | rfl | rfl
  · exact h.c0
  · exact h.c1
  · exact h.c2
  · exact h.c3
end Go.Proofs.Ytojhckjdkafpmaa
namespace Go.Proofs.Ytojhckjdkafpmaa
open Go Go.RowKit
set_option maxRecDepth 20000

theorem ticks_any (n : Int) (w : World) : Calls Try.prog 46 #[.int .i64 n] w fun e w' => e = .returned (.int .i64 (timeT n)) ∧ w' = w := by
  have HV : Hid (timeT n = min (max n 0) 1099511627776) := by
    show _ = _
    unfold timeT MAXT
    split
    · omega
    · split <;> omega
  go_enter Try.func46, Try.ntmps46
  go_wp2
  go_ret
  exact ⟨by rw [HV.out]; simp, rfl⟩
theorem rtime_any (n : Int) (w : World) : Calls Try.prog 21 #[.int .i64 n] w fun e w' => e = .returned (.int .i64 (timeT n)) ∧ w' = w := by
  by_cases h1 : n < 0
  · have HV : Hid (timeT n = 0) := timeT_neg h1
    go_enter Try.func21, Try.ntmps21
    go_wp2
    go_ret
    exact ⟨by rw [HV.out]; rfl, rfl⟩
  · by_cases h2 : 1099511627776 < n
    · have HV : Hid (timeT n = 1099511627776) := timeT_big h1 h2
      go_enter Try.func21, Try.ntmps21
      go_wp2
      go_ret
      exact ⟨by rw [HV.out]; rfl, rfl⟩
    · have HV : Hid (timeT n = n) := timeT_mid h1 h2
      go_enter Try.func21, Try.ntmps21
      go_wp2
      go_ret
      exact ⟨by rw [HV.out]; rfl, rfl⟩
theorem within_any (n top : Int) (w : World) : Calls Try.prog 39 #[.int .i64 n, .int .i64 top] w fun e w' => e = .returned (.bool (decide (0 ≤ n ∧ n ≤ top))) ∧ w' = w := by
  obtain ⟨b, hb⟩ : ∃ b, b = decide (0 ≤ n ∧ n ≤ top) := ⟨_, rfl⟩
  rw [← hb]
  by_cases h1 : 0 ≤ n
  · by_cases h2 : n ≤ top
    · have HB : Hid (b = true) := by show _ = _; rw [hb]; simp [h1, h2]
      clear hb
      go_enter Try.func39, Try.ntmps39
      go_wp2
      go_ret
      exact ⟨by rw [HB.out]; first | rfl | (simp; done) | (simp; exact h1), rfl⟩
    · have HB : Hid (b = false) := by show _ = _; rw [hb]; simp [h2]
      clear hb
      go_enter Try.func39, Try.ntmps39
      go_wp2
      go_ret
      exact ⟨by rw [HB.out]; first | rfl | (simp; done) | (simp; exact h1), rfl⟩
  · have HB : Hid (b = false) := by show _ = _; rw [hb]; simp [h1]
    clear hb
    go_enter Try.func39, Try.ntmps39
    go_wp2
    go_ret
    exact ⟨by rw [HB.out]; first | rfl | (simp; done) | (simp; exact h1), rfl⟩
theorem over_any (n top : Int) (w : World) : Calls Try.prog 54 #[.int .i64 n, .int .i64 top] w fun e w' => e = .returned (.bool (decide (top ≠ 0) && decide (top ≤ n))) ∧ w' = w := by
  obtain ⟨b, hb⟩ : ∃ b, b = (decide (top ≠ 0) && decide (top ≤ n)) := ⟨_, rfl⟩
  rw [← hb]
  by_cases h1 : top = 0
  · have HB : Hid (b = false) := by show _ = _; rw [hb]; simp [h1]
    clear hb
    subst h1
    go_enter Try.func54, Try.ntmps54
    go_wp2
    go_ret
    exact ⟨by rw [HB.out]; first | rfl | (simp; done) | (simp; exact h1), rfl⟩
  · by_cases h2 : top ≤ n
    · have HB : Hid (b = true) := by show _ = _; rw [hb]; simp [h1, h2]
      clear hb
      go_enter Try.func54, Try.ntmps54
      go_wp2
      go_ret
      exact ⟨by rw [HB.out]; first | rfl | (simp; done) | (simp; exact h1), rfl⟩
    · have HB : Hid (b = false) := by show _ = _; rw [hb]; simp [h2]
      clear hb
      go_enter Try.func54, Try.ntmps54
      go_wp2
      go_ret
      exact ⟨by rw [HB.out]; first | rfl | (simp; done) | (simp; exact h1), rfl⟩
def cmpT (a b : Int) : Int := if a < b then -1 else if b < a then 1 else 0
theorem nanT_any (x : Int) (w : World) : Calls Try.prog 76 #[.int .i64 x] w fun e w' => e = .returned (.bool false) ∧ w' = w := by
  go_enter Try.func76, Try.ntmps76
  go_wp2
  go_ret
  exact ⟨by simp, rfl⟩
theorem compareT_any (x y : Int) (w : World) : Calls Try.prog 62 #[.int .i64 x, .int .i64 y] w fun e w' => e = .returned (.int .i64 (cmpT x y)) ∧ w' = w := by
  have HN : Hid (∀ x W, Calls Try.prog 76 #[.int .i64 x] W fun e w' => e = .returned (.bool false) ∧ w' = W) := nanT_any
  by_cases h1 : x < y
  · have HV : Hid (cmpT x y = -1) := by show _ = _; unfold cmpT; rw [if_pos h1]
    go_enter Try.func62, Try.ntmps62
    go_wp2_with (go_at_call 76; refine (HN.out _ _).mono ?_; rintro e w' ⟨rfl, rfl⟩)
    go_ret
    exact ⟨by rw [HV.out]; rfl, rfl⟩
  · by_cases h2 : y < x
    · have HV : Hid (cmpT x y = 1) := by show _ = _; unfold cmpT; rw [if_neg h1, if_pos h2]
      go_enter Try.func62, Try.ntmps62
      go_wp2_with (go_at_call 76; refine (HN.out _ _).mono ?_; rintro e w' ⟨rfl, rfl⟩)
      go_ret
      exact ⟨by rw [HV.out]; rfl, rfl⟩
    · have HV : Hid (cmpT x y = 0) := by show _ = _; unfold cmpT; rw [if_neg h1, if_neg h2]
      go_enter Try.func62, Try.ntmps62
      go_wp2_with (go_at_call 76; refine (HN.out _ _).mono ?_; rintro e w' ⟨rfl, rfl⟩)
      go_ret
      exact ⟨by rw [HV.out]; rfl, rfl⟩
/-- A slot that is laid in a new block. -/
theorem new_slf (w : World) (x : Slt) (t : TypeId) : SlF (w.alloc (.cells (slotV x) t)) w.heap.size 0 x := slf_own (heap_new _ _ _ rfl)
theorem rules1_any (x y : Slt) (w : World) : Calls Try.prog 61 #[.agg (slotV x), .agg (slotV y)] w fun e w' => e = .returned (.int .i64 (cmpT x.order y.order)) ∧ w' = (w.alloc (.cells (slotV x) 38)).alloc (.cells (slotV y) 38) := by
  have HC : Hid (∀ a b W, Calls Try.prog 62 #[.int .i64 a, .int .i64 b] W fun e w' => e = .returned (.int .i64 (cmpT a b)) ∧ w' = W) := compareT_any
  have c1 := (SlF.below (w' := (w.alloc (.cells (slotV x) 38)).alloc (.cells (slotV y) 38)) (new_slf w x 38) (Below.heap_alloc _ _ _ (by simp))).c3
  have c2 := (new_slf (w.alloc (.cells (slotV x) 38)) y 38).c3
  rw [show (w.alloc (.cells (slotV x) 38)).heap.size = w.heap.size + 1 by simp] at c2
  go_enter Try.func61, Try.ntmps61
  go_wp2_with (go_at_call 62; refine (HC.out _ _ _).mono ?_; rintro e w' ⟨rfl, rfl⟩)
  go_ret
  exact ⟨rfl, rfl⟩
end Go.Proofs.Ytojhckjdkafpmaa
