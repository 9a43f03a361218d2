import Derived.Test.YtbhnjhiecoapbaaJ1
import Derived.Great.BuildSlice
import Derived.Laws.AppendOwn
import Derived.Laws.OwnMore
import Derived.Maps.AppendAt
import Derived.Test.YtbhnjhiecoapbaaJ4
import Derived.Deep.Slices
namespace Go.Proofs.Ytbhnjhiecoapbaa
open Go Go.RowKit
set_option maxRecDepth 20000

/-- A type of elements that are structs or arrays, and the type of its slices. -/
structure El where
  elem : TypeId
  slice : TypeId
  size : Nat
  bytes : Nat
  zero : Array Value
/-- What the program says of it. -/
structure El.Ok (E : El) : Prop where
  hs : Try.prog.underlying E.slice = some (.slice E.elem)
  hu : ∃ d, Try.prog.underlying E.elem = some d ∧ (match d with | .struct _ | .array _ _ => true | _ => false) = true
  hi : (Try.prog.info? E.elem).map (fun i => (i.zero, i.size, i.bytes)) = some (some (.agg E.zero), E.size, E.bytes)
  hz : E.zero.size = E.size
  hp : 0 < E.size
  hb : E.bytes ≤ 100000
  hn : E.size ≤ 100000
theorem El.Ok.info {E : El} (H : E.Ok) : ∃ i, Try.prog.info? E.elem = some i ∧ i.zero = some (.agg E.zero) ∧ i.size = E.size ∧ i.bytes = E.bytes := by
  have h1 := H.hi
  cases h : Try.prog.info? E.elem with
  | none => rw [h] at h1; simp at h1
  | some i =>
    rw [h] at h1
    simp only [Option.map_some, Option.some.injEq, Prod.mk.injEq] at h1
    exact ⟨i, rfl, h1.1, h1.2.1, h1.2.2⟩
theorem El.Ok.cellsz {E : El} (H : E.Ok) (cs : Array Value) (hc : cs.size = E.size) : (Try.prog.info? E.elem).map (·.size) = some cs.size := by
  obtain ⟨i, h1, _, h2, _⟩ := H.info
  rw [h1, Option.map_some, h2, hc]

/-- A value that is laid in cells, one each. -/
def Fits (E : El) (cs : Array Value) : Prop := cs.size = E.size ∧ cs.all (·.oneCell') = true

/-- An element that lies within a block, from a place on. -/
theorem El.Ok.load {E : El} (H : E.Ok) (w : World) (g off : Nat) (cur : Array Value) (t : TypeId) (fr : Nat × Nat) (cs : Array Value) (hcs : cs.size = E.size) (hg : w.heap[g]? = some (.cells cur t fr)) (hc : ∀ j, j < E.size → cur[off + j]? = cs[j]?) :
    (loadVar E.elem ⟨g, off, none⟩).run Try.prog w = .ok (.agg cs) w := by
  have hl : (loadCells ⟨g, off, none⟩ cs.toList.length).run Try.prog w = .ok cs.toList.toArray w :=
    run_loadCells_list (P := Try.prog) w ⟨g, off, none⟩ cs.toList (fun j v hv => by
      have hadd : (⟨g, off, none⟩ : Addr).add j = ⟨g, off + j, none⟩ := by unfold Addr.add; split <;> simp_all
      have hj : j < E.size := by
        have := (List.getElem?_eq_some_iff.1 hv).1
        rw [Array.length_toList] at this
        omega
      rw [hadd, cell_of_row w g (off + j) cur t fr hg, hc j hj]
      simpa using hv)
  obtain ⟨i, hq, _, hs, _⟩ := H.info
  have hagg : (isAgg E.elem).run Try.prog w = .ok true w := by
    obtain ⟨d, hd, hm⟩ := H.hu
    unfold isAgg
    rw [Sem.run_bind, run_underlying hd w]
    revert hm
    cases d <;> simp [go_sem]
  rw [Array.length_toList, hcs, Array.toArray_toList] at hl
  simp [loadVar, Sem.run_bind, hagg, sizeOf, typeInfo, hq, hs, hl]
theorem wl_loadE {E : El} (H : E.Ok) {ops : Array Oper} {rest : List Oper} {o : Oper} {a : Act} {w : World} {Q : Exit → Act → World → Prop} (hw : Region.wanted o (yielded ops a.tmps) = true) (x : Operand) (ho : o.op = .load E.elem x)
    (g off : Nat) (hx : a.eval x = .pointer (some ⟨g, off, none⟩)) (cur : Array Value) (t : TypeId) (fr : Nat × Nat) (cs : Array Value) (hcs : cs.size = E.size) (hg : w.heap[g]? = some (.cells cur t fr)) (hc : ∀ j, j < E.size → cur[off + j]? = cs[j]?)
    (h : wpList Try.prog ops Q rest (a.put o.dst (.agg cs)) w) : wpList Try.prog ops Q (o :: rest) a w := by
  refine wpList_step fun K hK => ?_
  rw [if_pos hw]
  unfold Oper.wp execOp
  simp only [ho, hx, Instr.loadAt, Instr.sureAddr, Sem.run_bind, Sem.run_pure, Result.andThen_ok, H.load w g off cur t fr cs hcs hg hc]
  exact hK _ _ h
theorem own_cells (n : Nat) (cs : Array Value) : ∀ j, j < n → cs[0 + j]? = cs[j]? := fun j _ => by rw [Nat.zero_add]
theorem wl_storeE {E : El} (H : E.Ok) {ops : Array Oper} {rest : List Oper} {o : Oper} {a : Act} {w : World} {Q : Exit → Act → World → Prop} (hgd : o.guard = none) (x y : Operand) (ho : o.op = .store E.elem x y)
    (g : Nat) (cs : Array Value) (hf : Fits E cs) (hx : a.eval x = .pointer (some ⟨g, 0, none⟩)) (hy : a.eval y = .agg cs) (old : Array Value) (hg : w.heap[g]? = some (.cells old E.elem (0, 0))) (hold : old.size = E.size)
    (w' : World) (hw' : w.setRow g cs = w')
    (h : wpList Try.prog ops Q rest (a.put o.dst undef) w') : wpList Try.prog ops Q (o :: rest) a w :=
  wpList_store_row hgd E.elem x y ho g cs hx hy E.elem old hg (H.cellsz cs hf.1) (by rw [hf.1, hold]) hf.2 (by rw [hw']; exact h)
theorem qlE {E : El} (H : E.Ok) {C : World → Prop} {ops : Array Oper} {Q : Act → Prop} {rest : List Oper} {o : Oper} {a : Act} (hw : Region.wanted o (yielded ops a.tmps) = true) (x : Operand) (ho : o.op = .load E.elem x)
    (g off : Nat) (hx : a.eval x = .pointer (some ⟨g, off, none⟩)) (cur : Array Value) (t : TypeId) (fr : Nat × Nat) (cs : Array Value) (hcs : cs.size = E.size) (hg : ∀ w', C w' → w'.heap[g]? = some (.cells cur t fr)) (hc : ∀ j, j < E.size → cur[off + j]? = cs[j]?)
    (h : wpQuiet Try.prog ops C Q rest (a.put o.dst (.agg cs))) : wpQuiet Try.prog ops C Q (o :: rest) a := by
  refine BigFrame.wpQuiet_want hw fun K hK => ⟨.agg cs, fun w hC => ?_, hK _ h⟩
  unfold Oper.quietAt execOp
  simp only [ho, hx, Instr.loadAt, Instr.sureAddr, Sem.run_bind, Sem.run_pure, Result.andThen_ok, H.load w g off cur t fr cs hcs (hg w hC) hc]
  exact ⟨rfl, rfl⟩

/-- The cells of a list of elements. -/
def gcells {α : Type} (enc : α → Array Value) (C : List α) : List Value := C.flatMap fun c => (enc c).toList
theorem gcells_append {α : Type} (enc : α → Array Value) (C D : List α) : gcells enc (C ++ D) = gcells enc C ++ gcells enc D := by simp [gcells]
theorem gcells_one {α : Type} (enc : α → Array Value) (c : α) : gcells enc [c] = (enc c).toList := by simp [gcells]
theorem gcells_cons {α : Type} (enc : α → Array Value) (c : α) (C : List α) : gcells enc (c :: C) = (enc c).toList ++ gcells enc C := by simp [gcells]
theorem gcells_at {α : Type} (enc : α → Array Value) (n : Nat) : ∀ (C : List α), (∀ c ∈ C, (enc c).size = n) → ∀ (i : Nat) (hi : i < C.length) (j : Nat), j < n → (gcells enc C)[n * i + j]? = (enc C[i])[j]?
  | [], _, i, hi, _, _ => absurd hi (by simp)
  | c :: C, h, 0, _, j, hj => by
    have h1 := h c (by simp)
    rw [gcells_cons, Nat.mul_zero, Nat.zero_add, List.getElem?_append_left (by rw [Array.length_toList, h1]; exact hj)]
    simp
  | c :: C, h, i + 1, hi, j, hj => by
    have h1 := h c (by simp)
    have ih := gcells_at enc n C (fun d hd => h d (by simp [hd])) i (by simpa using hi) j hj
    rw [gcells_cons, show n * (i + 1) + j = n + (n * i + j) by rw [Nat.mul_add, Nat.mul_one]; omega, List.getElem?_append_right (by rw [Array.length_toList, h1]; omega), Array.length_toList, h1, Nat.add_sub_cancel_left]
    simpa using ih

theorem gfold_get (off : Nat) : ∀ (xs : List Value) (n : Nat) (cells : Array Value) (k : Nat), off + n + xs.length ≤ cells.size →
    ((xs.zipIdx n).foldl (fun cs (x : Value × Nat) => cs.setIfInBounds (off + x.2) x.1) cells)[k]? = if off + n ≤ k ∧ k < off + n + xs.length then xs[k - (off + n)]? else cells[k]?
  | [], n, cells, k, _ => by
    simp only [List.zipIdx_nil, List.foldl_nil, List.length_nil, Nat.add_zero]
    rw [if_neg (by omega)]
  | x :: xs, n, cells, k, h => by
    simp only [List.length_cons] at h
    rw [List.zipIdx_cons, List.foldl_cons, gfold_get off xs (n + 1) _ k (by simp; omega)]
    simp only [List.length_cons]
    by_cases h1 : off + (n + 1) ≤ k ∧ k < off + (n + 1) + xs.length
    · rw [if_pos h1, if_pos (by omega), show k - (off + n) = (k - (off + (n + 1))) + 1 by omega, List.getElem?_cons_succ]
    · rw [if_neg h1]
      by_cases h2 : k = off + n
      · subst h2
        rw [if_pos (by omega), Nat.sub_self, List.getElem?_cons_zero, Array.getElem?_setIfInBounds_self_of_lt (by omega)]
      · rw [if_neg (by omega), Array.getElem?_setIfInBounds_ne (by omega)]
theorem gfold_all (xs cells : Array Value) (h : xs.size = cells.size) : xs.zipIdx.foldl (fun cs (x : Value × Nat) => cs.setIfInBounds (0 + x.2) x.1) cells = xs := by
  have e : xs.zipIdx.foldl (fun cs (x : Value × Nat) => cs.setIfInBounds (0 + x.2) x.1) cells = (xs.toList.zipIdx 0).foldl (fun cs (x : Value × Nat) => cs.setIfInBounds (0 + x.2) x.1) cells := by
    rw [← Array.foldl_toList]; simp
  rw [e]
  apply Array.ext_getElem?
  intro k
  rw [gfold_get 0 xs.toList 0 cells k (by simp; omega)]
  by_cases hk : k < xs.size
  · rw [if_pos (by simp; omega)]; simp
  · rw [if_neg (by simp; omega), Array.getElem?_eq_none (by omega), Array.getElem?_eq_none (by omega)]

set_option maxRecDepth 20000 in
/-- A slice of one element. -/
theorem wl_buildE {E : El} (H : E.Ok) {ops : Array Oper} {rest : List Oper} {o : Oper} {a : Act} {w : World} {Q : Exit → Act → World → Prop} (hg : o.guard = none) (x : Operand) (ho : o.op = .buildSlice E.slice 1 #[(0, x)]) (cs : Array Value) (hcs : cs.size = E.size) (hx : a.eval x = .agg cs)
    (h : wpList Try.prog ops Q rest (a.put o.dst (.slice (some ⟨w.heap.size, 0, none⟩) 1 1)) (w.alloc (.cells cs E.elem))) : wpList Try.prog ops Q (o :: rest) a w := by
  obtain ⟨ie, hie, hz, hs, _⟩ := H.info
  refine wpList_buildSlice hg E.slice E.elem 1 _ ho cs ie (.agg E.zero) H.hs hie hz (by rw [hs]; have := H.hn; omega) (by rw [hs]; have := H.hp; omega) ?_ h
  simp only [List.map_toArray, List.map_cons, List.map_nil, hx, Instr.fill, hs, Nat.zero_mul, Value.cells, hcs]
  rw [if_neg (by simp)]
  congr 1
  exact gfold_all _ _ (by rw [hcs]; simp)

/-- One element appended to one's own row of them, and where the new row lies. -/
theorem wl_appendE {E : El} (H : E.Ok) {α : Type} (enc : α → Array Value) {ops : Array Oper} {rest : List Oper} {o : Oper} {a : Act} {w : World} {Q : Exit → Act → World → Prop} (hgd : o.guard = none) (s x : Operand) (ho : o.op = .call { callee := .builtin .append, args := #[s, x], argTypes := #[E.slice, E.slice] })
    (base : Nat) (v : Value) (C : List α) (c : α) (hf : Fits E (enc c)) (hs : a.eval s = v) (hown : w.ownsRow base E.elem E.size v C.length (gcells enc C)) (g cap : Nat) (hx : a.eval x = .slice (some ⟨g, 0, none⟩) 1 cap) (hg : w.heap[g]? = some (.cells (enc c) E.elem (0, 0)))
    (hn : C.length ≤ 1000000) (hbase : base ≤ w.heap.size)
    (h : ∀ v' w', w'.ownsRow base E.elem E.size v' (C ++ [c]).length (gcells enc (C ++ [c])) → w.grownBy w' v.ownBlock → (v'.ownBlock = v.ownBlock ∨ v'.ownBlock = some w.heap.size) → wpList Try.prog ops Q rest (a.put o.dst v') w') : wpList Try.prog ops Q (o :: rest) a w := by
  obtain ⟨i0, hi, hz0, hz1, hz2⟩ := H.info
  have hb := H.hb
  refine wpList_append_own_at _ hgd s x E.slice ho base E.elem i0 (.agg E.zero) E.size E.bytes H.hs hi hz0 hz1 hz2 (by simpa [Value.cells] using H.hz) H.hp v _ _ hs hown ⟨g, 0, none⟩ 1 cap (enc c).toList hx (by rw [Array.length_toList, hf.1, Nat.one_mul]) (fun j y hy => ?_) (fun u hu => ?_) (by unfold maxLen; omega) ?_ hbase ?_
  · have hadd : (⟨g, 0, none⟩ : Addr).add j = ⟨g, j, none⟩ := by unfold Addr.add; split <;> simp_all
    rw [hadd, cell_of_row w g j _ _ _ hg, ← hy]
    simp
  · exact (Array.all_eq_true_iff_forall_mem.1 hf.2) u (by simpa using hu)
  · exact Nat.le_trans (Nat.mul_le_mul (show C.length + 1 ≤ 1000001 by omega) hb) (by decide)
  · intro v' w' h5 h6 _ h7
    refine h v' w' ?_ h6 h7
    rw [List.length_append, gcells_append, gcells_one]; exact h5

/-- A slice, wherever it lies, whose elements are these. -/
def GSl {α : Type} (E : El) (enc : α → Array Value) (w : World) (v : Value) (C : List α) : Prop :=
  ∃ (o : Option Addr) (cap : Nat), v = .slice o C.length cap ∧ C.length ≤ cap ∧ cap ≤ maxLen ∧ ∀ (i : Nat) (hi : i < C.length), ∃ g off cur t fr, o = some ⟨g, off, none⟩ ∧ w.heap[g]? = some (.cells cur t fr) ∧ ∀ j, j < E.size → cur[off + i * E.size + j]? = (enc C[i])[j]?
theorem GSl.below {α : Type} {E : El} {enc : α → Array Value} {w w' : World} {v : Value} {C : List α} (h : GSl E enc w v C) (hb : Below w.heap.size w w') : GSl E enc w' v C := by
  obtain ⟨o, cap, rfl, h1, h2, h3⟩ := h
  refine ⟨o, cap, rfl, h1, h2, fun i hi => ?_⟩
  obtain ⟨g, off, cur, t, fr, h4, h5, h6⟩ := h3 i hi
  exact ⟨g, off, cur, t, fr, h4, (hb.block g (Array.getElem?_eq_some_iff.1 h5).1).trans h5, h6⟩
theorem GSl.slice {α : Type} {E : El} {enc : α → Array Value} {w : World} {v : Value} {C : List α} (h : GSl E enc w v C) : ∃ (o : Option Addr) (cap : Nat), v = .slice o C.length cap ∧ C.length ≤ cap ∧ cap ≤ maxLen := by
  obtain ⟨o, cap, h1, h2, h3, _⟩ := h
  exact ⟨o, cap, h1, h2, h3⟩
theorem GSl.at {α : Type} {E : El} {enc : α → Array Value} {w : World} {o : Option Addr} {n cap : Nat} {C : List α} (h : GSl E enc w (.slice o n cap) C) (k : Nat) (hk : k < n) :
    ∃ g off cur t fr, ∃ c : α, o = some ⟨g, off, none⟩ ∧ w.heap[g]? = some (.cells cur t fr) ∧ (∀ j, j < E.size → cur[off + k * E.size + j]? = (enc c)[j]?) ∧ C[k]? = some c := by
  obtain ⟨o', cap', h1, _, _, h3⟩ := h
  simp only [Value.slice.injEq] at h1
  obtain ⟨rfl, rfl, rfl⟩ := h1
  obtain ⟨g, off, cur, t, fr, h4, h5, h6⟩ := h3 k hk
  exact ⟨g, off, cur, t, fr, C[k], h4, h5, h6, List.getElem?_eq_getElem hk⟩
theorem gsl_of {α : Type} {E : El} {enc : α → Array Value} {w : World} {B : Nat} {v : Value} {C : List α} (h : w.ownsRow B E.elem E.size v C.length (gcells enc C)) (hC : ∀ c ∈ C, (enc c).size = E.size) : GSl E enc w v C := by
  obtain ⟨h1, ⟨rfl, h2⟩ | ⟨g, cap, cur, rfl, hB, hcur, h5, h6, _, h4⟩⟩ := h
  · exact ⟨none, 0, by rw [h2], by omega, Nat.zero_le _, fun i hi => by omega⟩
  · refine ⟨_, cap, rfl, h5, h6, fun i hi => ⟨g, 0, cur, _, _, rfl, hcur, fun j hj => ?_⟩⟩
    have hlt : E.size * i + j < C.length * E.size := by
      have : E.size * (i + 1) ≤ E.size * C.length := Nat.mul_le_mul_left _ hi
      rw [Nat.mul_add, Nat.mul_one] at this
      rw [Nat.mul_comm C.length]
      omega
    rw [← gcells_at enc E.size C hC i hi j hj, ← h4, List.getElem?_take_of_lt hlt, Nat.zero_add, Nat.mul_comm]
    simp
theorem gsl_nil {α : Type} (E : El) (enc : α → Array Value) (w : World) : GSl E enc w (.slice none 0 0) [] := ⟨none, 0, rfl, Nat.le_refl _, Nat.zero_le _, fun i hi => absurd hi (by simp)⟩
theorem gown_slice {w : World} {B : Nat} {e : TypeId} {s : Nat} {v : Value} {n : Nat} {xs : List Value} (h : w.ownsRow B e s v n xs) : ∃ o cap, v = .slice o n cap := by
  obtain ⟨_, ⟨rfl, rfl⟩ | ⟨g, cap, cur, rfl, _⟩⟩ := h
  · exact ⟨none, 0, rfl⟩
  · exact ⟨_, cap, rfl⟩
theorem gown_below {w w' : World} {B : Nat} {e : TypeId} {s : Nat} {v : Value} {n : Nat} {xs : List Value} (h : w.ownsRow B e s v n xs) (hb : Below w.heap.size w w') : w'.ownsRow B e s v n xs := by
  obtain ⟨h1, h2 | ⟨g, cap, cur, rfl, hB, hcur, h3⟩⟩ := h
  · exact ⟨h1, .inl h2⟩
  · exact ⟨h1, .inr ⟨g, cap, cur, rfl, hB, (hb.block g (Array.getElem?_eq_some_iff.1 hcur).1).trans hcur, h3⟩⟩
theorem gown_ne {w : World} {B : Nat} {e : TypeId} {s : Nat} {v : Value} {n : Nat} {xs : List Value} (h : w.ownsRow B e s v n xs) {g : Nat} (hg : w.heap.size ≤ g) : v.ownBlock ≠ some g := fun hq => by
  have := (h.lt g hq).2
  omega
theorem gown_base {w : World} {B B' : Nat} {e : TypeId} {s : Nat} {v : Value} {n : Nat} {xs : List Value} (h : w.ownsRow B e s v n xs) (hB' : B' ≤ B) : w.ownsRow B' e s v n xs := by
  obtain ⟨h1, h2 | ⟨g', cap, cur, rfl, hB, h3⟩⟩ := h
  · exact ⟨h1, .inl h2⟩
  · exact ⟨h1, .inr ⟨g', cap, cur, rfl, by omega, h3⟩⟩
end Go.Proofs.Ytbhnjhiecoapbaa
namespace Go.Proofs.Ytbhnjhiecoapbaa
open Go.ChangeShapes Go.WideShapes Go.ChangeAt Go.WideMaps Go.WideElems Go.RowKit
set_option maxRecDepth 20000

theorem El.Ok.cellsOf {E : El} (H : E.Ok) : Try.prog.cellsOf E.elem = E.size := by
  obtain ⟨i, h1, _, h2, _⟩ := H.info
  simp [Program.cellsOf, h1, h2]

/-- A slice that comes in, of elements that are opened one by one. -/
theorem open_any {E : El} (HE : E.Ok) {α : Type} [Inhabited α] (row : α → Array Value) (hrow : ∀ a, (row a).size = E.size) (Q : α → Prop) {H : Type} {enc : TypeId × Value → H} {W : World} {base : Nat} {spare : Nat → Bool} {held : Bool}
    (elem : ∀ (fuel : Nat) (cs : List Value) (x : DataW H × List MemPlace), cs.length = E.size → DataW.trod enc Try.prog W base spare held fuel E.elem cs = some x → ∃ a, cs = (row a).toList ∧ Q a)
    {fuel : Nat} {v : Value} {x : DataW H × List MemPlace} (hf : DataW.trod enc Try.prog W base spare held fuel E.slice [v] = some x) : ∃ C : List α, GSl E row W v C ∧ ∀ c ∈ C, Q c := by
  have hp := HE.hp
  rcases Deep.open_slice HE.hs hf with ⟨h0, _⟩ | ⟨a, len, cap, m, n, D, Pl, h0, hb, hl, hm, hmm, _, hx⟩
  · obtain rfl : v = .slice none 0 0 := by simpa using h0
    exact ⟨[], gsl_nil E row W, fun c hc => absurd hc (by simp)⟩
  · obtain rfl : v = .slice (some a) len cap := by simpa using h0
    rw [HE.cellsOf] at hx
    have hlm : len ≤ m := by rw [hmm]; split <;> omega
    have each : ∀ i, i < len → ∃ c : α, Q c ∧ ∀ j, j < E.size → W.cell? (a.add (i * E.size + j)) = (row c)[j]? := fun i hi => by
      obtain ⟨cs', h1, h2⟩ := hx i (by omega)
      obtain ⟨_, hlen, hcell⟩ := World.cells?_some h1
      obtain ⟨c, h3, h4⟩ := elem _ cs' _ hlen h2
      refine ⟨c, h4, fun j hj => ?_⟩
      have := hcell j hj
      rw [Deep.add_add] at this
      rw [this, h3]
      simp
    obtain ⟨f, hf⟩ := Deep.choose_lt each
    refine ⟨(List.range len).map f, ⟨some a, cap, by simp, by simpa using hl, hm, fun i hi => ?_⟩, fun c hc => ?_⟩
    · have hi' : i < len := by simpa using hi
      have h1 := (hf i hi').2
      obtain ⟨g, off, sp⟩ := a
      have hj : ∀ j, j < E.size → ∃ cur t fr, W.heap[g]? = some (.cells cur t fr) ∧ cur[off + i * E.size + j]? = (row (f i))[j]? ∧ (i * E.size + j = 0 → sp = none) := fun j hj => by
        have h2 := h1 j hj
        obtain ⟨y, hy⟩ : ∃ y, (row (f i))[j]? = some y := ⟨_, Array.getElem?_eq_getElem (by rw [hrow]; exact hj)⟩
        rw [hy] at h2 ⊢
        unfold World.cell? at h2
        split at h2
        · rename_i cur t fr hq
          have hbk : (Addr.add ⟨g, off, sp⟩ (i * E.size + j)).block = g := by unfold Addr.add; split <;> rfl
          have hof : (Addr.add ⟨g, off, sp⟩ (i * E.size + j)).off = off + i * E.size + j := by unfold Addr.add; split <;> simp_all [Nat.add_assoc]
          rw [hbk] at hq
          rw [hof] at h2
          split at h2
          · cases h2
          · rename_i hsp
            refine ⟨cur, t, fr, hq, h2, fun h0 => ?_⟩
            unfold Addr.add at hsp
            rw [if_pos h0] at hsp
            simpa using hsp
        · cases h2
      have hsp : sp = none := by
        obtain ⟨cur, t, fr, h2, h3, h4⟩ := hj 0 hp
        by_cases hi0 : i = 0
        · exact h4 (by rw [hi0]; simp)
        · have h5 := (hf 0 (by omega)).2 0 hp
          obtain ⟨y, hy⟩ : ∃ y, (row (f 0))[0]? = some y := ⟨_, Array.getElem?_eq_getElem (by rw [hrow]; exact hp)⟩
          rw [hy] at h5
          unfold World.cell? at h5
          split at h5
          · split at h5
            · cases h5
            · rename_i hs
              simpa [Addr.add] using hs
          · cases h5
      subst hsp
      obtain ⟨cur, t, fr, h2, _, _⟩ := hj 0 hp
      refine ⟨g, off, cur, t, fr, rfl, h2, fun j hjl => ?_⟩
      obtain ⟨cur', t', fr', h3, h4, _⟩ := hj j hjl
      rw [h2] at h3
      obtain ⟨rfl, rfl, rfl⟩ : cur = cur' ∧ t = t' ∧ fr = fr' := by simpa using h3
      rw [h4]
      simp
    · rw [List.mem_map] at hc
      obtain ⟨i, hi, rfl⟩ := hc
      exact (hf i (by simpa using hi)).1

/-- A list whose elements hold lists of their own: each row with the value of its inner list. -/
def NSl {α : Type} (E : El) (row : α → Value → Array Value) (R : World → α → Value → Prop) (w : World) (v : Value) (C : List α) : Prop :=
  ∃ P : List (α × Value), P.map (·.1) = C ∧ GSl E (fun p => row p.1 p.2) w v P ∧ ∀ p ∈ P, R w p.1 p.2
theorem NSl.below {α : Type} {E : El} {row : α → Value → Array Value} {R : World → α → Value → Prop} (hR : ∀ w w' a v, Below w.heap.size w w' → R w a v → R w' a v) {w w' : World} {v : Value} {C : List α} (h : NSl E row R w v C) (hb : Below w.heap.size w w') : NSl E row R w' v C := by
  obtain ⟨P, h1, h2, h3⟩ := h
  exact ⟨P, h1, h2.below hb, fun p hp => hR w w' _ _ hb (h3 p hp)⟩
theorem NSl.slice {α : Type} {E : El} {row : α → Value → Array Value} {R : World → α → Value → Prop} {w : World} {v : Value} {C : List α} (h : NSl E row R w v C) : ∃ (o : Option Addr) (cap : Nat), v = .slice o C.length cap ∧ C.length ≤ cap ∧ cap ≤ maxLen := by
  obtain ⟨P, h1, h2, _⟩ := h
  obtain ⟨o, cap, e, h4, h5⟩ := h2.slice
  have hl : P.length = C.length := by rw [← h1, List.length_map]
  rw [hl] at e h4
  exact ⟨o, cap, e, h4, h5⟩
theorem NSl.at {α : Type} {E : El} {row : α → Value → Array Value} {R : World → α → Value → Prop} {w : World} {o : Option Addr} {n cap : Nat} {C : List α} (h : NSl E row R w (.slice o n cap) C) (k : Nat) (hk : k < n) :
    ∃ g off cur t fr, ∃ (c : α) (u : Value), o = some ⟨g, off, none⟩ ∧ w.heap[g]? = some (.cells cur t fr) ∧ (∀ j, j < E.size → cur[off + k * E.size + j]? = (row c u)[j]?) ∧ C[k]? = some c ∧ R w c u := by
  obtain ⟨P, h1, h2, h3⟩ := h
  obtain ⟨g, off, cur, t, fr, c, e1, e2, e3, e4⟩ := h2.at k hk
  exact ⟨g, off, cur, t, fr, c.1, c.2, e1, e2, e3, by rw [← h1, List.getElem?_map, e4]; rfl, h3 c (List.mem_of_getElem? e4)⟩
/-- The same of one's own row. -/
def NOwn {α : Type} (E : El) (row : α → Value → Array Value) (R : World → α → Value → Prop) (w : World) (B : Nat) (v : Value) (C : List α) : Prop :=
  ∃ P : List (α × Value), P.map (·.1) = C ∧ w.ownsRow B E.elem E.size v P.length (gcells (fun p : α × Value => row p.1 p.2) P) ∧ ∀ p ∈ P, R w p.1 p.2
theorem NOwn.sl {α : Type} {E : El} {row : α → Value → Array Value} {R : World → α → Value → Prop} (hrow : ∀ a u, (row a u).size = E.size) {w : World} {B : Nat} {v : Value} {C : List α} (h : NOwn E row R w B v C) : NSl E row R w v C := by
  obtain ⟨P, h1, h2, h3⟩ := h
  exact ⟨P, h1, gsl_of h2 fun c _ => hrow c.1 c.2, h3⟩
theorem NOwn.nil {α : Type} (E : El) (row : α → Value → Array Value) (R : World → α → Value → Prop) (w : World) (B : Nat) : NOwn E row R w B (.slice none 0 0) [] :=
  ⟨[], rfl, World.ownsRow_nil _ _ _ _, fun p hp => by simp at hp⟩
theorem NOwn.below {α : Type} {E : El} {row : α → Value → Array Value} {R : World → α → Value → Prop} (hR : ∀ w w' a v, Below w.heap.size w w' → R w a v → R w' a v) {w w' : World} {B : Nat} {v : Value} {C : List α} (h : NOwn E row R w B v C) (hb : Below w.heap.size w w') : NOwn E row R w' B v C := by
  obtain ⟨P, h1, h2, h3⟩ := h
  exact ⟨P, h1, gown_below h2 hb, fun p hp => hR w w' _ _ hb (h3 p hp)⟩
/-- Rows of two types lie apart. -/
theorem own_apart {w : World} {B B' : Nat} {e e' : TypeId} {s s' : Nat} {v u : Value} {n m : Nat} {xs ys : List Value} (h : w.ownsRow B e s v n xs) (h' : w.ownsRow B' e' s' u m ys) (hne : e ≠ e') : ∀ g, v.ownBlock = some g → u.ownBlock ≠ some g := by
  intro g hg hu
  obtain ⟨_, ⟨rfl, _⟩ | ⟨g1, cap, cur, rfl, _, h1, _⟩⟩ := h
  · simp [Value.ownBlock] at hg
  · obtain ⟨_, ⟨rfl, _⟩ | ⟨g2, cap', cur', rfl, _, h2, _⟩⟩ := h'
    · simp [Value.ownBlock] at hu
    · simp only [Value.ownBlock, Option.some.injEq] at hg hu
      subst hg
      subst hu
      rw [h1] at h2
      simp only [Option.some.injEq, Obj.cells.injEq] at h2
      exact hne h2.2.1
/-- A row stays as it is while another one grows. -/
theorem own_grown {w w' : World} {b : Option Nat} (hgr : w.grownBy w' b) {B : Nat} {e : TypeId} {s : Nat} {u : Value} {m : Nat} {ys : List Value} (h : w.ownsRow B e s u m ys) (hne : ∀ g, b = some g → u.ownBlock ≠ some g) : w'.ownsRow B e s u m ys := by
  obtain ⟨h0, h1 | ⟨g, cap, cur, rfl, hB, hcur, h3⟩⟩ := h
  · exact ⟨h0, .inl h1⟩
  · refine ⟨h0, .inr ⟨g, cap, cur, rfl, hB, ?_, h3⟩⟩
    rw [hgr.block g (Array.getElem?_eq_some_iff.1 hcur).1 (fun hq => hne g hq.symm rfl)]
    exact hcur
theorem NOwn.grown {α : Type} {E : El} {row : α → Value → Array Value} {R : World → α → Value → Prop} {w w' : World} {b : Option Nat} (hgr : w.grownBy w' b) {B : Nat} {v : Value} {C : List α} (h : NOwn E row R w B v C) (hne : ∀ g, b = some g → v.ownBlock ≠ some g) (hR : ∀ a u, R w a u → R w' a u) : NOwn E row R w' B v C := by
  obtain ⟨P, h1, h2, h3⟩ := h
  exact ⟨P, h1, own_grown hgr h2 hne, fun p hp => hR _ _ (h3 p hp)⟩
theorem NOwn.snoc {α : Type} {E : El} {row : α → Value → Array Value} {R : World → α → Value → Prop} {w' : World} {B : Nat} {v' : Value} {C : List α} {c : α} {u : Value} {P : List (α × Value)} (h1 : P.map (·.1) = C) (h2 : w'.ownsRow B E.elem E.size v' (P ++ [(c, u)]).length (gcells (fun p : α × Value => row p.1 p.2) (P ++ [(c, u)])))
    (h3 : ∀ p ∈ P, R w' p.1 p.2) (h4 : R w' c u) : NOwn E row R w' B v' (C ++ [c]) :=
  ⟨P ++ [(c, u)], by rw [List.map_append, h1]; rfl, h2, fun p hp => by
    rcases List.mem_append.1 hp with hp | hp
    · exact h3 p hp
    · obtain rfl : p = (c, u) := by simpa using hp
      exact h4⟩
end Go.Proofs.Ytbhnjhiecoapbaa
