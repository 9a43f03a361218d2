import Derived.Test.YtjmbdoiibchokaaProg
import Derived.WalkKit
import Derived.WalkSpells
import Derived.WalkLawsBesides
import Derived.BigQuiet
import Derived.KernelRfl
import Derived.Laws.StructEq
import Derived.Laws.Tables
import Derived.Laws.Rows
import Derived.StillTailTactics
import Derived.StillTail
namespace Go.Proofs.Ytjmbdoiibchokaa
open Go Go.RowKit
set_option maxRecDepth 20000

theorem ret_bool {a b : Bool} (h : a = b) : Ending.returned (.bool a) = .returned (.bool b) := by rw [h]
theorem ret_int {k : IntKind} {a b : Int} (h : a = b) : Ending.returned (.int k a) = .returned (.int k b) := by rw [h]

def hv (L : List Int) : Array Value := (L.map (Value.int .u8)).toArray
def Byt (L : List Int) : Prop := L.length = 13 ∧ ∀ k, 0 ≤ L.getD k 0 ∧ L.getD k 0 < 256

theorem hv_size (L : List Int) : (hv L).size = L.length := by simp [hv]
theorem hv_at (L : List Int) (hL : L.length = 13) (k : Nat) (hk : k < 13) : (hv L)[k]? = some (.int .u8 (L.getD k 0)) := by
  unfold hv
  simp [List.getElem?_map, List.getElem?_eq_getElem (show k < L.length by omega), List.getD]
theorem hv_one (L : List Int) : (hv L).all (·.oneCell') = true := by
  simp [hv, Value.oneCell']
theorem part5 (L : List Int) (hL : L.length = 13) (k : Nat) (hk : k < 13) (w : World) : (part 5 (hv L) k).run Try.prog w = .ok (.int .u8 (L.getD k 0)) w := by
  have u5 := Try.underlying5
  have hx := hv_at L hL k hk
  have hz : ∀ w, (sizeOf 5).run Try.prog w = .ok 1 w := fun w => by kernel_rfl
  have ha : ∀ w, (isAgg 5).run Try.prog w = .ok false w := fun w => by kernel_rfl
  simp [part, ha, hx, Sem.run_bind]

theorem loop26 (L M : List Int) (hL : L.length = 13) (hM : M.length = 13) (w : World) (k : Option Bool × Unit → World → Result Bool) (k1 : k (some false, ()) w = .ok false w) (k2 : k (none, ()) w = .ok true w) : ∀ (is : List Nat), (∀ i ∈ is, i < 13) →
    ((forIn is ((none, ()) : Option Bool × Unit) fun i (_ : Option Bool × Unit) => (do
            if !(← Op.equalIn 9999 5 (← part 5 (hv L) (i * 1)) (← part 5 (hv M) (i * 1))) then pure (ForInStep.done (some false, ())) else pure (ForInStep.yield (none, ())) : Sem (ForInStep (Option Bool × Unit)))).run Try.prog w).andThen k = .ok (is.all fun i => L.getD i 0 == M.getD i 0) w := by
  intro is
  induction is with
  | nil => intro _; simpa using k2
  | cons i is ih =>
    intro h
    have hi := h i (by simp)
    have ih' := ih (fun j hj => h j (by simp [hj]))
    have e : (Op.equalIn 9999 5 (.int .u8 (L.getD i 0)) (.int .u8 (M.getD i 0))).run Try.prog w = .ok (L.getD i 0 == M.getD i 0) w := run_equalIn_int w 9998 5 .u8 .u8 _ _ Try.underlying5
    simp only [List.forIn_cons, Sem.run_bind, Nat.mul_one, part5 L hL i hi, part5 M hM i hi, Result.andThen_ok, e]
    by_cases hc : (L.getD i 0 == M.getD i 0) = true
    · simp only [hc, Bool.not_true, Bool.false_eq_true, if_false, Sem.run_pure, Result.andThen_ok, List.all_cons, Bool.true_and]
      simpa only [Sem.run_bind, Nat.mul_one] using ih'
    · have hc' : (L.getD i 0 == M.getD i 0) = false := by simpa using hc
      simp only [hc', Bool.not_false, if_true, Sem.run_pure, Result.andThen_ok, List.all_cons, Bool.false_and]
      exact k1

theorem loopN (d : Nat) (L M : List Int) (hL : L.length = 13) (hM : M.length = 13) (w : World) (k : Option Bool × Unit → World → Result Bool) (k1 : k (some false, ()) w = .ok false w) (k2 : k (none, ()) w = .ok true w) : ∀ (is : List Nat), (∀ i ∈ is, i < 13) →
    ((forIn is ((none, ()) : Option Bool × Unit) fun i (_ : Option Bool × Unit) => (do
            if !(← Op.equalIn (d + 1) 5 (← part 5 (hv L) (i * 1)) (← part 5 (hv M) (i * 1))) then pure (ForInStep.done (some false, ())) else pure (ForInStep.yield (none, ())) : Sem (ForInStep (Option Bool × Unit)))).run Try.prog w).andThen k = .ok (is.all fun i => L.getD i 0 == M.getD i 0) w := by
  intro is
  induction is with
  | nil => intro _; simpa using k2
  | cons i is ih =>
    intro h
    have hi := h i (by simp)
    have ih' := ih (fun j hj => h j (by simp [hj]))
    have e : (Op.equalIn (d + 1) 5 (.int .u8 (L.getD i 0)) (.int .u8 (M.getD i 0))).run Try.prog w = .ok (L.getD i 0 == M.getD i 0) w := run_equalIn_int w d 5 .u8 .u8 _ _ Try.underlying5
    simp only [List.forIn_cons, Sem.run_bind, Nat.mul_one, part5 L hL i hi, part5 M hM i hi, Result.andThen_ok, e]
    by_cases hc : (L.getD i 0 == M.getD i 0) = true
    · simp only [hc, Bool.not_true, Bool.false_eq_true, if_false, Sem.run_pure, Result.andThen_ok, List.all_cons, Bool.true_and]
      simpa only [Sem.run_bind, Nat.mul_one] using ih'
    · have hc' : (L.getD i 0 == M.getD i 0) = false := by simpa using hc
      simp only [hc', Bool.not_false, if_true, Sem.run_pure, Result.andThen_ok, List.all_cons, Bool.false_and]
      exact k1

theorem all_eq (L M : List Int) (hL : L.length = 13) (hM : M.length = 13) : ((List.range' 0 13).all fun i => L.getD i 0 == M.getD i 0) = (L == M) := by
  rw [Bool.eq_iff_iff]
  simp only [List.all_eq_true, List.mem_range'_1, beq_iff_eq]
  constructor
  · intro h
    apply List.ext_getElem (by omega)
    intro k h1 h2
    have := h k ⟨by omega, by omega⟩
    simpa [List.getD, h1, h2] using this
  · rintro rfl k _; rfl

theorem eq26 (L M : List Int) (hL : L.length = 13) (hM : M.length = 13) (w : World) :
    (Op.equalIn 10000 23 (.agg (hv L)) (.agg (hv M))).run Try.prog w = .ok (L == M) w := by
  have z5 : (sizeOf 5).run Try.prog w = .ok 1 w := by kernel_rfl
  rw [show (10000 : Nat) = 9999 + 1 from rfl, Op.equalIn]
  simp only [Sem.run_bind, run_underlying Try.underlying23, Result.andThen_ok, z5]
  simp only [Std.Legacy.Range.forIn_eq_forIn_range', Std.Legacy.Range.size, Nat.sub_zero, Nat.add_sub_cancel, Nat.div_one]
  rw [← all_eq L M hL hM]
  exact loop26 L M hL hM w _ rfl rfl (List.range' 0 13) (fun i hi => by simp at hi; omega)

structure Later (W : World) where
  world : World
  below : Below W.heap.size W world

theorem Later.ne (W : World) : Nonempty (Later W) := ⟨⟨W, Below.refl _ _⟩⟩

theorem wp_region_later {P : Program} {id : Nat} {Q : Exit → Act → World → Prop} {a : Act} {w : World} {l : List Oper} (hm : P.follows .mixedOrders = true) (hB : Region.lexB .any l.toArray = true)
    (h : wpQuiet P l.toArray (fun w' => ∃ u : Later w, w' = u.world) (fun a' => ∀ w', (∃ u : Later w, w' = u.world) → Q .normal a' w') l a) : (Code.region id l.toArray true).wp P Q a w :=
  wp_region_quiet (C := fun w' => ∃ u : Later w, w' = u.world) hm hB ⟨⟨w.drew, (Below.refl _ _).drew⟩, rfl⟩ (by simpa using h)

theorem Calls.later_of {P : Program} {f : FuncId} {args : Array Value} {W : World} {u : Later W} {v : Value}
    (h : Calls P f args u.world fun e w' => e = .returned v ∧ Below u.world.heap.size u.world w') : Calls P f args u.world fun e w'' => e = .returned v ∧ ∃ u' : Later W, w'' = u'.world :=
  h.mono fun _ w1 ⟨he, hb⟩ => ⟨he, ⟨w1, u.below.trans (hb.mono u.below.size)⟩, rfl⟩

theorem q_load_row {P : Program} {ops : Array Oper} {C : World → Prop} {Q : Act → Prop} {rest : List Oper} {o : Oper} {a : Act} (hw : Region.wanted o (yielded ops a.tmps) = true) (ty : TypeId) (x : Operand) (ho : o.op = .load ty x)
    (g : Nat) (hx : a.eval x = .pointer (some ⟨g, 0, none⟩)) (t : TypeId) (cs : Array Value) (fr : Nat × Nat) (d : TypeDesc) (hg : ∀ w', C w' → w'.heap[g]? = some (.cells cs t fr))
    (hu : P.underlying ty = some d) (hd : (match d with | .struct _ | .array _ _ => true | _ => false) = true) (hi : (P.info? ty).map (·.size) = some cs.size)
    (h : wpQuiet P ops C Q rest (a.put o.dst (.agg cs))) : wpQuiet P ops C Q (o :: rest) a := by
  refine BigFrame.wpQuiet_want hw fun K hK => ⟨.agg cs, fun w hC => ?_, hK _ h⟩
  unfold Oper.quietAt execOp
  simp only [ho, hx, Instr.loadAt, Instr.sureAddr, Sem.run_bind, Sem.run_pure, Result.andThen_ok, run_loadVar_row w g t ty cs fr d (hg w hC) hu hd hi]
  exact ⟨rfl, rfl⟩

theorem later_block {W : World} {g : Nat} {o : Obj} (h : W.heap[g]? = some o) : ∀ w', (∃ u : Later W, w' = u.world) → w'.heap[g]? = some o := by
  rintro w' ⟨u, rfl⟩
  have hlt : g < W.heap.size := by
    rcases Array.getElem?_eq_some_iff.1 h with ⟨hl, _⟩
    exact hl
  rw [u.below.block g hlt, h]

theorem size26 (L : List Int) (hL : L.length = 13) : (Try.prog.info? 23).map (·.size) = some (hv L).size := by
  rw [hv_size, hL]; kernel_rfl

/-- A whole header is read out of its block. -/
theorem wl_load26 {ops : Array Oper} {rest : List Oper} {o : Oper} {a : Act} {w : World} {Q : Exit → Act → World → Prop} (hgd : o.guard = none) (x : Operand) (ho : o.op = .load 23 x)
    (g : Nat) (hx : a.eval x = .pointer (some ⟨g, 0, none⟩)) (L : List Int) (hg : w.heap[g]? = some (.cells (hv L) 23 (0, 0))) (hL : L.length = 13)
    (h : wpList Try.prog ops Q rest (a.put o.dst (.agg (hv L))) w) : wpList Try.prog ops Q (o :: rest) a w :=
  wpList_load_row hgd 23 x ho g hx 23 (hv L) (0, 0) _ hg Try.underlying23 rfl (size26 L hL) h

/-- A whole header is stored into a block that holds one. -/
theorem wl_store26 {ops : Array Oper} {rest : List Oper} {o : Oper} {a : Act} {w : World} {Q : Exit → Act → World → Prop} (hgd : o.guard = none) (x y : Operand) (ho : o.op = .store 23 x y)
    (g : Nat) (L : List Int) (hx : a.eval x = .pointer (some ⟨g, 0, none⟩)) (hy : a.eval y = .agg (hv L)) (old : Array Value) (hg : w.heap[g]? = some (.cells old 23 (0, 0))) (hold : old.size = 13) (hL : L.length = 13)
    (w' : World) (hw' : w.setRow g (hv L) = w')
    (h : wpList Try.prog ops Q rest (a.put o.dst undef) w') : wpList Try.prog ops Q (o :: rest) a w :=
  wpList_store_row hgd 23 x y ho g (hv L) hx hy 23 old hg (size26 L hL) (by rw [hv_size, hold, hL]) (hv_one L) (by rw [hw']; exact h)

theorem setRow_new (w : World) (old cs : Array Value) (t : TypeId) (g : Nat) (hg : g = w.heap.size) : (w.alloc (.cells old t)).setRow g cs = w.alloc (.cells cs t) := by
  subst hg
  simp only [World.setRow, World.alloc]
  congr 1
  apply Array.ext
  · simp
  · intro k h1 h2
    simp only [Array.getElem_modify, Array.getElem_push]
    by_cases hk : k < w.heap.size
    · simp [hk, show ¬ w.heap.size = k by omega]
    · have : w.heap.size = k := by simp at h2; omega
      simp [this]

theorem below_setRow {B : Nat} {a w : World} (h : Below B a w) {g : Nat} (hg : B ≤ g) (cs : Array Value) : Below B a (w.setRow g cs) :=
  ⟨h.os, h.tape, h.output, by simpa using h.size, fun k hk => (setRow_other w g k cs (by omega)).trans (h.block k hk)⟩

/-- The end of a function whose one result is a header in memory. -/
theorem ret26 {fn : Func} {R : Ending → World → Prop} {a : Act} {w : World} {p : Tmp} (hr : fn.results = #[.cell p 23]) (hd : a.defers = []) (g : Nat) (hp : a.tmps.getD p undef = .pointer (some ⟨g, 0, none⟩)) (L : List Int) (hL : L.length = 13)
    (hg : w.heap[g]? = some (.cells (hv L) 23 (0, 0))) (h : R (.returned (.agg (hv L))) w) : bodyPost Try.prog fn R .ret a w :=
  bodyPost_ret (v := .agg (hv L)) (results_cell_row hr _ _ g 23 (hv L) (0, 0) _ hp hg Try.underlying23 rfl (size26 L hL)) hd h

theorem heap_new (w : World) (o : Obj) (g : Nat) (hg : g = w.heap.size) : (w.alloc o).heap[g]? = some o := by rw [hg]; exact heap_alloc_new w o
theorem heap_past (w : World) (o x : Obj) (g : Nat) (h : w.heap[g]? = some x) : (w.alloc o).heap[g]? = some x := by
  rw [Below.heap_alloc w o g (Array.getElem?_eq_some_iff.1 h).1]; exact h

end Go.Proofs.Ytjmbdoiibchokaa
namespace Go.Proofs.Ytjmbdoiibchokaa
open Go Go.RowKit
set_option maxRecDepth 20000

def byteAt (L : List Int) (i : Int) : Int := L.getD (i / 8).toNat 0
def bitB (L : List Int) (i : Int) : Bool := decide (0 ≤ i ∧ i < 104) && (byteAt L i / 2 ^ (7 - i % 8).toNat % 2 == 1)

set_option maxHeartbeats 400000 in
theorem refBit_any (L : List Int) (hL : Byt L) (i : Int) (w : World) :
    Calls Try.prog 49 #[.agg (hv L), .int .i64 i] w fun e w' => e = .returned (.bool (bitB L i)) ∧ Below w.heap.size w w' := by
  by_cases hin : 0 ≤ i ∧ i < 104
  · obtain ⟨h0, h1⟩ := hin
    obtain ⟨x, hx, hxe⟩ : ∃ x, (hv L)[(i / 8).toNat]? = some (.int .u8 x) ∧ x = byteAt L i := ⟨_, hv_at L hL.1 _ (by omega), rfl⟩
    have hb : 0 ≤ x ∧ x < 256 := by rw [hxe]; exact hL.2 _
    obtain ⟨hb0, hb1⟩ := hb
    have HX : Hid (x = byteAt L i) := hxe
    clear hxe
    go_enter Try.func49, Try.ntmps49
    go_wp2
    go_ret
    refine ⟨ret_bool ?_, (Below.refl _ _).alloc (Nat.le_refl _) _⟩
    rw [Int.tmod_eq_emod_of_nonneg (Int.ediv_nonneg hb0 (Int.pow_nonneg (by decide))), HX.out]
    simp [bitB, h0, h1]
  · by_cases h0 : i < 0
    · go_enter Try.func49, Try.ntmps49
      go_wp2
      go_ret
      exact ⟨ret_bool (by simp [bitB]; omega), (Below.refl _ _).alloc (Nat.le_refl _) _⟩
    · have h1 : 103 < i := by omega
      have h0' : 0 ≤ i := by omega
      go_enter Try.func49, Try.ntmps49
      go_wp2
      go_ret
      exact ⟨ret_bool (by simp [bitB]; omega), (Below.refl _ _).alloc (Nat.le_refl _) _⟩

end Go.Proofs.Ytjmbdoiibchokaa
namespace Go.Proofs.Ytjmbdoiibchokaa
open Go Go.RowKit
set_option maxRecDepth 20000

theorem still_of_quiet {P : Program} {ops : Array Oper} {w : World} {Q : Act → Prop} : ∀ (l : List Oper) (a : Act), wpQuiet P ops (fun w' => w' = w) Q l a → wpStill P ops w Q l a
  | [], _, h => h
  | o :: rest, a, h => by
    unfold wpQuiet at h
    unfold wpStill
    split at h
    · rename_i hw
      rw [if_pos hw]
      obtain ⟨v, h1, h2⟩ := h
      have h2' := still_of_quiet rest _ h2
      have h1' := h1 w rfl
      unfold Oper.quietAt at h1'
      unfold Oper.still
      revert h1'
      generalize (execOp a.eval o).run P w = r
      intro h1'
      match r, h1' with
      | .ok (.value u) w', ⟨e1, e2⟩ => exact ⟨e1, by rw [e2]; exact h2'⟩
      | .ok .skip w', ⟨e1, e2⟩ => exact ⟨e1, by rw [← e2]; exact h2'⟩
      | .ok (.enter f args) w', ⟨e1, e2⟩ => exact ⟨e1, v, e2, h2'⟩
    · rename_i hw
      rw [if_neg hw]
      exact still_of_quiet rest _ h

theorem wp_region_tail {P : Program} {id : Nat} {Q : Exit → Act → World → Prop} {a : Act} {w : World} {l : List Oper} (n : Nat) (hm : P.follows .mixedOrders = true) (hB : Region.lexTailB .any l.toArray n = true)
    (h : wpQuiet P l.toArray (fun w' => w' = w.drew) (fun a' => wpList P l.toArray Q (l.drop n) a' w.drew) (l.take n) a) : (Code.region id l.toArray true).wp P Q a w :=
  wp_region_still_tail n hm hB (still_of_quiet _ _ h)

theorem hv_set (L : List Int) (k : Nat) (v : Int) : (hv L).setIfInBounds k (.int .u8 v) = hv (L.set k v) := by
  unfold hv
  rw [List.setIfInBounds_toArray, ← List.map_set]

end Go.Proofs.Ytjmbdoiibchokaa
namespace Go.Proofs.Ytjmbdoiibchokaa
open Go Go.RowKit
set_option maxRecDepth 20000

theorem getD_set (L : List Int) (j k : Nat) (v : Int) (hj : j < L.length) : (L.set j v).getD k 0 = if j = k then v else L.getD k 0 := by
  simp only [List.getD, List.getElem?_set]
  by_cases h : j = k
  · subst h; simp [hj]
  · simp [h]

end Go.Proofs.Ytjmbdoiibchokaa
namespace Go.Proofs.Ytjmbdoiibchokaa
open Go Go.RowKit
set_option maxRecDepth 20000

abbrev zero26 : Array Value := #[.int .u8 0, .int .u8 0, .int .u8 0, .int .u8 0, .int .u8 0, .int .u8 0, .int .u8 0, .int .u8 0, .int .u8 0, .int .u8 0, .int .u8 0, .int .u8 0, .int .u8 0]

/-- The header with a bit set as the reference sets it. -/
def setB (L : List Int) (i : Int) (b : Bool) : List Int :=
  if bitB L i = b then L else if b then L.set (i / 8).toNat (byteAt L i + 128 / 2 ^ (i % 8).toNat) else L.set (i / 8).toNat (byteAt L i - 128 / 2 ^ (i % 8).toNat)

set_option maxRecDepth 100000 in
theorem up_fin : ∀ x : Fin 256, ∀ j : Fin 8, ((x.val : Int) / 2 ^ (7 - j.val) % 2 == 1) = false → (x.val : Int) + 128 / 2 ^ j.val < 256 ∧ ∀ k : Fin 8, (((x.val : Int) + 128 / 2 ^ j.val) / 2 ^ (7 - k.val) % 2 == 1) = if k = j then true else ((x.val : Int) / 2 ^ (7 - k.val) % 2 == 1) := by decide +kernel
set_option maxRecDepth 100000 in
theorem down_fin : ∀ x : Fin 256, ∀ j : Fin 8, ((x.val : Int) / 2 ^ (7 - j.val) % 2 == 1) = true → 0 ≤ (x.val : Int) - 128 / 2 ^ j.val ∧ ∀ k : Fin 8, (((x.val : Int) - 128 / 2 ^ j.val) / 2 ^ (7 - k.val) % 2 == 1) = if k = j then false else ((x.val : Int) / 2 ^ (7 - k.val) % 2 == 1) := by decide +kernel

theorem up_byte (x i : Int) (hx : 0 ≤ x ∧ x < 256) (h : (x / 2 ^ (7 - i % 8).toNat % 2 == 1) = false) : x + 128 / 2 ^ (i % 8).toNat < 256 ∧ ∀ k : Int, ((x + 128 / 2 ^ (i % 8).toNat) / 2 ^ (7 - k % 8).toNat % 2 == 1) = if k % 8 = i % 8 then true else (x / 2 ^ (7 - k % 8).toNat % 2 == 1) := by
  have hh := up_fin ⟨x.toNat, by omega⟩ ⟨(i % 8).toNat, by omega⟩
  simp only [show ((x.toNat : Nat) : Int) = x by omega, show 7 - (i % 8).toNat = (7 - i % 8).toNat by omega] at hh
  obtain ⟨h1, h2⟩ := hh h
  refine ⟨h1, fun k => ?_⟩
  have h3 := h2 ⟨(k % 8).toNat, by omega⟩
  simp only [Fin.mk.injEq, show 7 - (k % 8).toNat = (7 - k % 8).toNat by omega] at h3
  rw [h3]
  by_cases e : k % 8 = i % 8
  · rw [if_pos (by rw [e]), if_pos e]
  · rw [if_neg (by omega), if_neg e]
theorem down_byte (x i : Int) (hx : 0 ≤ x ∧ x < 256) (h : (x / 2 ^ (7 - i % 8).toNat % 2 == 1) = true) : 0 ≤ x - 128 / 2 ^ (i % 8).toNat ∧ ∀ k : Int, ((x - 128 / 2 ^ (i % 8).toNat) / 2 ^ (7 - k % 8).toNat % 2 == 1) = if k % 8 = i % 8 then false else (x / 2 ^ (7 - k % 8).toNat % 2 == 1) := by
  have hh := down_fin ⟨x.toNat, by omega⟩ ⟨(i % 8).toNat, by omega⟩
  simp only [show ((x.toNat : Nat) : Int) = x by omega, show 7 - (i % 8).toNat = (7 - i % 8).toNat by omega] at hh
  obtain ⟨h1, h2⟩ := hh h
  refine ⟨h1, fun k => ?_⟩
  have h3 := h2 ⟨(k % 8).toNat, by omega⟩
  simp only [Fin.mk.injEq, show 7 - (k % 8).toNat = (7 - k % 8).toNat by omega] at h3
  rw [h3]
  by_cases e : k % 8 = i % 8
  · rw [if_pos (by rw [e]), if_pos e]
  · rw [if_neg (by omega), if_neg e]
theorem sieve_pos (i : Int) : 0 ≤ (128 : Int) / 2 ^ (i % 8).toNat ∧ (128 : Int) / 2 ^ (i % 8).toNat ≤ 128 := by
  have : ∀ j : Fin 8, 0 ≤ (128 : Int) / 2 ^ j.val ∧ (128 : Int) / 2 ^ j.val ≤ 128 := by decide
  exact this ⟨(i % 8).toNat, by omega⟩

theorem bitB_in (L : List Int) (i : Int) (h0 : 0 ≤ i) (h1 : i < 104) : bitB L i = (byteAt L i / 2 ^ (7 - i % 8).toNat % 2 == 1) := by
  unfold bitB; rw [decide_eq_true ⟨h0, h1⟩, Bool.true_and]

theorem setB_bit (L : List Int) (hL : Byt L) (i : Int) (b : Bool) (h0 : 0 ≤ i) (h1 : i < 104) :
    Byt (setB L i b) ∧ ∀ k, 0 ≤ k → k < 104 → bitB (setB L i b) k = if k = i then b else bitB L k := by
  have hlt : (i / 8).toNat < L.length := by rw [hL.1]; omega
  have hx : 0 ≤ byteAt L i ∧ byteAt L i < 256 := hL.2 _
  have hs := sieve_pos i
  by_cases e : bitB L i = b
  · have es : setB L i b = L := by unfold setB; rw [if_pos e]
    rw [es]
    refine ⟨hL, fun k _ _ => ?_⟩
    by_cases ek : k = i
    · rw [if_pos ek, ek, e]
    · rw [if_neg ek]
  · cases b
    · have hbt : (byteAt L i / 2 ^ (7 - i % 8).toNat % 2 == 1) = true := by
        rw [← bitB_in L i h0 h1]; cases h : bitB L i
        · exact absurd h e
        · rfl
      have es : setB L i false = L.set (i / 8).toNat (byteAt L i - 128 / 2 ^ (i % 8).toNat) := by unfold setB; rw [if_neg e]; rfl
      obtain ⟨g1, g2⟩ := down_byte _ i hx hbt
      rw [es]
      refine ⟨⟨by rw [List.length_set]; exact hL.1, fun k => ?_⟩, fun k hk0 hk1 => ?_⟩
      · rw [getD_set _ _ _ _ hlt]; split
        · omega
        · exact hL.2 k
      · rw [bitB_in _ k hk0 hk1, bitB_in _ k hk0 hk1]
        unfold byteAt
        rw [getD_set _ _ _ _ hlt]
        by_cases ek : (i / 8).toNat = (k / 8).toNat
        · rw [if_pos ek]
          have g3 := g2 k
          unfold byteAt at g3
          rw [g3, ek]
          by_cases e2 : k = i
          · rw [if_pos e2, if_pos (by rw [e2])]
          · rw [if_neg e2, if_neg (by omega)]
        · rw [if_neg ek, if_neg (by rintro rfl; exact ek rfl)]
    · have hbt : (byteAt L i / 2 ^ (7 - i % 8).toNat % 2 == 1) = false := by
        rw [← bitB_in L i h0 h1]; cases h : bitB L i
        · rfl
        · exact absurd h e
      have es : setB L i true = L.set (i / 8).toNat (byteAt L i + 128 / 2 ^ (i % 8).toNat) := by unfold setB; rw [if_neg e]; rfl
      obtain ⟨g1, g2⟩ := up_byte _ i hx hbt
      rw [es]
      refine ⟨⟨by rw [List.length_set]; exact hL.1, fun k => ?_⟩, fun k hk0 hk1 => ?_⟩
      · rw [getD_set _ _ _ _ hlt]; split
        · omega
        · exact hL.2 k
      · rw [bitB_in _ k hk0 hk1, bitB_in _ k hk0 hk1]
        unfold byteAt
        rw [getD_set _ _ _ _ hlt]
        by_cases ek : (i / 8).toNat = (k / 8).toNat
        · rw [if_pos ek]
          have g3 := g2 k
          unfold byteAt at g3
          rw [g3, ek]
          by_cases e2 : k = i
          · rw [if_pos e2, if_pos (by rw [e2])]
          · rw [if_neg e2, if_neg (by omega)]
        · rw [if_neg ek, if_neg (by rintro rfl; exact ek rfl)]
end Go.Proofs.Ytjmbdoiibchokaa
namespace Go.Proofs.Ytjmbdoiibchokaa
open Go Go.RowKit
set_option maxRecDepth 20000

set_option maxHeartbeats 1000000 in
theorem refPut_same (L : List Int) (hL : Byt L) (i : Int) (b : Bool) (w : World) (he : bitB L i = b) :
    Calls Try.prog 48 #[.agg (hv L), .int .i64 i, .bool b] w fun e w' => e = .returned (.agg (hv L)) ∧ Below w.heap.size w w' := by
  have hl := hL.1
  have cb := refBit_any L hL i
  rw [he] at cb
  have CB : Hid _ := cb
  clear cb he
  go_enter Try.func48, Try.ntmps48
  go_wp2_with (refine wl_load26 rfl _ rfl w.heap.size rfl L (heap_past _ _ _ _ (heap_new _ _ _ rfl)) hl ?_)
  refine (CB.out _).mono ?_
  rintro e w1 ⟨rfl, hb1⟩
  have g1 : w1.heap[w.heap.size]? = some (.cells (hv L) 23 (0, 0)) := by
    rw [hb1.block _ (by simp; omega)]; exact heap_past _ _ _ _ (heap_new _ _ _ rfl)
  have g2 : w1.heap[w.heap.size + 1]? = some (.cells zero26 23 (0, 0)) := by
    rw [hb1.block _ (by simp)]; exact heap_new _ _ _ (by simp)
  have hB1 : Below w.heap.size w w1 := (((Below.refl _ _).alloc (Nat.le_refl _) _).alloc (by simp) _).trans (hb1.mono (by simp; omega))
  clear hb1
  go_wp2_with (first
    | (refine wl_load26 rfl _ rfl w.heap.size rfl L g1 hl ?_)
    | (refine wl_store26 rfl _ _ rfl (w.heap.size + 1) L rfl rfl _ g2 rfl hl _ rfl ?_))
  refine ret26 (p := 6) rfl rfl (w.heap.size + 1) rfl L hl (setRow_heap _ _ _ _ _ _ g2) ⟨rfl, ?_⟩
  exact below_setRow hB1 (by omega) _

set_option maxHeartbeats 1000000 in
theorem refPut_up (L : List Int) (hL : Byt L) (i : Int) (w : World) (h0 : 0 ≤ i) (h1 : i < 104) (he : bitB L i = false) :
    Calls Try.prog 48 #[.agg (hv L), .int .i64 i, .bool true] w fun e w' => e = .returned (.agg (hv (setB L i true))) ∧ Below w.heap.size w w' := by
  have hl := hL.1
  obtain ⟨x, hx, hxe⟩ : ∃ x, (hv L)[(i / 8).toNat]? = some (.int .u8 x) ∧ x = byteAt L i := ⟨_, hv_at L hL.1 _ (by omega), rfl⟩
  have hb : 0 ≤ x ∧ x < 256 := by rw [hxe]; exact hL.2 _
  obtain ⟨hb0, hb1⟩ := hb
  have hs := sieve_pos i
  have hup : x + 128 / 2 ^ (i % 8).toNat < 256 := by
    rw [hxe]; exact (up_byte (byteAt L i) i (hL.2 _) (by rw [← bitB_in L i h0 h1]; exact he)).1
  have HX : Hid (x = byteAt L i) := hxe
  have HE : Hid (bitB L i = false) := he
  have cb := refBit_any L hL i
  rw [he] at cb
  have CB : Hid _ := cb
  clear cb he hxe
  go_enter Try.func48, Try.ntmps48
  go_wp2_with (refine wl_load26 rfl _ rfl w.heap.size rfl L (heap_past _ _ _ _ (heap_new _ _ _ rfl)) hl ?_)
  refine (CB.out _).mono ?_
  rintro e w1 ⟨rfl, hb1⟩
  have g1 : w1.heap[w.heap.size]? = some (.cells (hv L) 23 (0, 0)) := by
    rw [hb1.block _ (by simp; omega)]; exact heap_past _ _ _ _ (heap_new _ _ _ rfl)
  have g2 : w1.heap[w.heap.size + 1]? = some (.cells zero26 23 (0, 0)) := by
    rw [hb1.block _ (by simp)]; exact heap_new _ _ _ (by simp)
  have hB1 : Below w.heap.size w w1 := (((Below.refl _ _).alloc (Nat.le_refl _) _).alloc (by simp) _).trans (hb1.mono (by simp; omega))
  have hc1 : w1.cell? ⟨w.heap.size, (i / 8).toNat, none⟩ = some (.int .u8 x) := by rw [cell_of_row w1 _ _ _ _ _ g1]; exact hx
  have hf1 : w1.frozen? ⟨w.heap.size, (i / 8).toNat, none⟩ = false := frozen_of_row w1 _ _ _ _ g1
  clear hb1
  go_wp2_with fail
  refine wp_region_tail 11 (by kernel_rfl) (by kernel_rfl) ?_
  simp only [List.take_succ_cons, List.take_zero, List.drop_succ_cons, List.drop_zero]
  repeat go_big_quiet_step (fail)
  refine wpQuiet_nil ?_
  have gS : ((w1.setCell ⟨w.heap.size, (i / 8).toNat, none⟩ (.int .u8 (x + 128 / 2 ^ (i % 8).toNat))).drew).heap[w.heap.size]? = some (.cells (hv (L.set (i / 8).toNat (x + 128 / 2 ^ (i % 8).toNat))) 23 (0, 0)) := by
    rw [← hv_set]; exact heap_setCell_same w1 _ _ _ _ _ g1
  have gO : ((w1.setCell ⟨w.heap.size, (i / 8).toNat, none⟩ (.int .u8 (x + 128 / 2 ^ (i % 8).toNat))).drew).heap[w.heap.size + 1]? = some (.cells zero26 23 (0, 0)) := by
    have := heap_setCell_other w1 ⟨w.heap.size, (i / 8).toNat, none⟩ (w.heap.size + 1) (.int .u8 (x + 128 / 2 ^ (i % 8).toNat)) (by simp)
    exact this.trans g2
  have hl2 : (L.set (i / 8).toNat (x + 128 / 2 ^ (i % 8).toNat)).length = 13 := by rw [List.length_set]; exact hl
  go_wp2_with (first
    | (refine wl_load26 rfl _ rfl w.heap.size rfl (L.set (i / 8).toNat (x + 128 / 2 ^ (i % 8).toNat)) gS hl2 ?_)
    | (refine wl_store26 rfl _ _ rfl (w.heap.size + 1) (L.set (i / 8).toNat (x + 128 / 2 ^ (i % 8).toNat)) rfl rfl _ gO rfl hl2 _ rfl ?_))
  refine ret26 (p := 6) rfl rfl (w.heap.size + 1) rfl (L.set (i / 8).toNat (x + 128 / 2 ^ (i % 8).toNat)) hl2 (setRow_heap _ _ _ _ _ _ gO) ⟨?_, ?_⟩
  · unfold setB; rw [if_neg (by rw [HE.out]; decide), if_pos rfl, HX.out]
  · exact below_setRow (hB1.setCell (Nat.le_refl _) _).drew (by omega) _

set_option maxHeartbeats 1000000 in
theorem refPut_down (L : List Int) (hL : Byt L) (i : Int) (w : World) (h0 : 0 ≤ i) (h1 : i < 104) (he : bitB L i = true) :
    Calls Try.prog 48 #[.agg (hv L), .int .i64 i, .bool false] w fun e w' => e = .returned (.agg (hv (setB L i false))) ∧ Below w.heap.size w w' := by
  have hl := hL.1
  obtain ⟨x, hx, hxe⟩ : ∃ x, (hv L)[(i / 8).toNat]? = some (.int .u8 x) ∧ x = byteAt L i := ⟨_, hv_at L hL.1 _ (by omega), rfl⟩
  have hb : 0 ≤ x ∧ x < 256 := by rw [hxe]; exact hL.2 _
  obtain ⟨hb0, hb1⟩ := hb
  have hs := sieve_pos i
  have hdn : 0 ≤ x - 128 / 2 ^ (i % 8).toNat := by
    rw [hxe]; exact (down_byte (byteAt L i) i (hL.2 _) (by rw [← bitB_in L i h0 h1]; exact he)).1
  have HX : Hid (x = byteAt L i) := hxe
  have HE : Hid (bitB L i = true) := he
  have cb := refBit_any L hL i
  rw [he] at cb
  have CB : Hid _ := cb
  clear cb he hxe
  go_enter Try.func48, Try.ntmps48
  go_wp2_with (refine wl_load26 rfl _ rfl w.heap.size rfl L (heap_past _ _ _ _ (heap_new _ _ _ rfl)) hl ?_)
  refine (CB.out _).mono ?_
  rintro e w1 ⟨rfl, hb1⟩
  have g1 : w1.heap[w.heap.size]? = some (.cells (hv L) 23 (0, 0)) := by
    rw [hb1.block _ (by simp; omega)]; exact heap_past _ _ _ _ (heap_new _ _ _ rfl)
  have g2 : w1.heap[w.heap.size + 1]? = some (.cells zero26 23 (0, 0)) := by
    rw [hb1.block _ (by simp)]; exact heap_new _ _ _ (by simp)
  have hB1 : Below w.heap.size w w1 := (((Below.refl _ _).alloc (Nat.le_refl _) _).alloc (by simp) _).trans (hb1.mono (by simp; omega))
  have hc1 : w1.cell? ⟨w.heap.size, (i / 8).toNat, none⟩ = some (.int .u8 x) := by rw [cell_of_row w1 _ _ _ _ _ g1]; exact hx
  have hf1 : w1.frozen? ⟨w.heap.size, (i / 8).toNat, none⟩ = false := frozen_of_row w1 _ _ _ _ g1
  clear hb1
  go_wp2_with fail
  refine wp_region_tail 11 (by kernel_rfl) (by kernel_rfl) ?_
  simp only [List.take_succ_cons, List.take_zero, List.drop_succ_cons, List.drop_zero]
  repeat go_big_quiet_step (fail)
  refine wpQuiet_nil ?_
  have gS : ((w1.setCell ⟨w.heap.size, (i / 8).toNat, none⟩ (.int .u8 (x - 128 / 2 ^ (i % 8).toNat))).drew).heap[w.heap.size]? = some (.cells (hv (L.set (i / 8).toNat (x - 128 / 2 ^ (i % 8).toNat))) 23 (0, 0)) := by
    rw [← hv_set]; exact heap_setCell_same w1 _ _ _ _ _ g1
  have gO : ((w1.setCell ⟨w.heap.size, (i / 8).toNat, none⟩ (.int .u8 (x - 128 / 2 ^ (i % 8).toNat))).drew).heap[w.heap.size + 1]? = some (.cells zero26 23 (0, 0)) := by
    have := heap_setCell_other w1 ⟨w.heap.size, (i / 8).toNat, none⟩ (w.heap.size + 1) (.int .u8 (x - 128 / 2 ^ (i % 8).toNat)) (by simp)
    exact this.trans g2
  have hl2 : (L.set (i / 8).toNat (x - 128 / 2 ^ (i % 8).toNat)).length = 13 := by rw [List.length_set]; exact hl
  go_wp2_with (first
    | (refine wl_load26 rfl _ rfl w.heap.size rfl (L.set (i / 8).toNat (x - 128 / 2 ^ (i % 8).toNat)) gS hl2 ?_)
    | (refine wl_store26 rfl _ _ rfl (w.heap.size + 1) (L.set (i / 8).toNat (x - 128 / 2 ^ (i % 8).toNat)) rfl rfl _ gO rfl hl2 _ rfl ?_))
  refine ret26 (p := 6) rfl rfl (w.heap.size + 1) rfl (L.set (i / 8).toNat (x - 128 / 2 ^ (i % 8).toNat)) hl2 (setRow_heap _ _ _ _ _ _ gO) ⟨?_, ?_⟩
  · unfold setB; rw [if_neg (by rw [HE.out]; decide), if_neg (by decide), HX.out]
  · exact below_setRow (hB1.setCell (Nat.le_refl _) _).drew (by omega) _

theorem refPut_any (L : List Int) (hL : Byt L) (i : Int) (b : Bool) (w : World) (h0 : 0 ≤ i) (h1 : i < 104) :
    Calls Try.prog 48 #[.agg (hv L), .int .i64 i, .bool b] w fun e w' => e = .returned (.agg (hv (setB L i b))) ∧ Below w.heap.size w w' := by
  by_cases e : bitB L i = b
  · have es : setB L i b = L := by unfold setB; rw [if_pos e]
    rw [es]; exact refPut_same L hL i b w e
  · cases b
    · exact refPut_down L hL i w h0 h1 (by simpa using e)
    · exact refPut_up L hL i w h0 h1 (by simpa using e)
end Go.Proofs.Ytjmbdoiibchokaa
namespace Go.Proofs.Ytjmbdoiibchokaa
open Go Go.RowKit
set_option maxRecDepth 20000

/-- A byte's bit, the highest first. -/
def yb (x : Int) (j : Nat) : Bool := x / 2 ^ (7 - j) % 2 == 1
/-- A header's bit. -/
def bt (L : List Int) (i : Nat) : Bool := yb (L.getD (i / 8) 0) (i % 8)

theorem yb_test (x : Int) (h : 0 ≤ x) (j : Nat) : yb x j = x.toNat.testBit (7 - j) := by
  unfold yb
  obtain ⟨n, rfl⟩ := Int.eq_ofNat_of_zero_le h
  rw [Nat.testBit_eq_decide_div_mod_eq, Bool.eq_iff_iff, beq_iff_eq, decide_eq_true_eq, Int.toNat_natCast]
  constructor
  · intro h; exact_mod_cast h
  · intro h; exact_mod_cast h

theorem bits_u8 (op : BinOp) (x y : Int) : 0 ≤ bits op .u8 x y ∧ bits op .u8 x y < 256 := by
  unfold bits
  simp only []
  rw [IntKind.wrap_u8]
  omega

theorem ofInt8 (x : Int) (h0 : 0 ≤ x) (h1 : x < 256) : (BitVec.ofInt 8 x).toNat = x.toNat := by
  rw [BitVec.toNat_ofInt]; omega

theorem and_nat (x y : Int) (hx : 0 ≤ x ∧ x < 256) (hy : 0 ≤ y ∧ y < 256) : (bits .and .u8 x y).toNat = x.toNat &&& y.toNat := by
  have e : bits .and .u8 x y = ((BitVec.ofInt 8 x &&& BitVec.ofInt 8 y).toNat : Int) % 256 := by
    unfold bits
    simp only []
    rw [IntKind.wrap_u8]
    rfl
  rw [e, BitVec.toNat_and, ofInt8 x hx.1 hx.2, ofInt8 y hy.1 hy.2]
  have := Nat.and_lt_two_pow (n := 8) x.toNat (y := y.toNat) (by omega)
  omega
theorem and_yb (x y : Int) (hx : 0 ≤ x ∧ x < 256) (hy : 0 ≤ y ∧ y < 256) (j : Nat) : yb (bits .and .u8 x y) j = (yb x j && yb y j) := by
  rw [yb_test _ (bits_u8 _ _ _).1, yb_test _ hx.1, yb_test _ hy.1, and_nat x y hx hy, Nat.testBit_and]
theorem byte_ext (x y : Int) (hx : 0 ≤ x ∧ x < 256) (hy : 0 ≤ y ∧ y < 256) (h : ∀ j, j < 8 → yb x j = yb y j) : x = y := by
  have g : ∀ j, j < 8 → x / 2 ^ (7 - j) % 2 = y / 2 ^ (7 - j) % 2 := fun j hj => by
    have := h j hj
    unfold yb at this
    rw [Bool.eq_iff_iff, beq_iff_eq, beq_iff_eq] at this
    have a1 : x / 2 ^ (7 - j) % 2 = 0 ∨ x / 2 ^ (7 - j) % 2 = 1 := by omega
    have a2 : y / 2 ^ (7 - j) % 2 = 0 ∨ y / 2 ^ (7 - j) % 2 = 1 := by omega
    omega
  have g0 := g 0 (by decide)
  have g1 := g 1 (by decide)
  have g2 := g 2 (by decide)
  have g3 := g 3 (by decide)
  have g4 := g 4 (by decide)
  have g5 := g 5 (by decide)
  have g6 := g 6 (by decide)
  have g7 := g 7 (by decide)
  simp only [Nat.sub_zero, Nat.reduceSub, Int.reducePow, Int.pow_zero, Int.ediv_one] at g0 g1 g2 g3 g4 g5 g6 g7
  omega

theorem ext13 (A B : List Int) (hA : A.length = 13) (hB : B.length = 13) (h : ∀ k, k < 13 → A.getD k 0 = B.getD k 0) : A = B := by
  apply List.ext_getElem (by omega)
  intro k h1 h2
  have := h k (by omega)
  simpa [List.getD, h1, h2] using this

theorem bt_ext (A B : List Int) (hA : Byt A) (hB : Byt B) (h : ∀ i, i < 104 → bt A i = bt B i) : A = B :=
  ext13 A B hA.1 hB.1 fun k hk => byte_ext _ _ (hA.2 k) (hB.2 k) fun j hj => by
    have := h (8 * k + j) (by omega)
    unfold bt at this
    rwa [show (8 * k + j) / 8 = k by omega, show (8 * k + j) % 8 = j by omega] at this

/-- The byte with these bits. -/
def mkY (f : Nat → Bool) : Int :=
  (if f 0 then 128 else 0) + (if f 1 then 64 else 0) + (if f 2 then 32 else 0) + (if f 3 then 16 else 0) + (if f 4 then 8 else 0) + (if f 5 then 4 else 0) + (if f 6 then 2 else 0) + (if f 7 then 1 else 0)
theorem mkY_yb (f : Nat → Bool) (j : Nat) (hj : j < 8) : yb (mkY f) j = f j := by
  have h : ∀ a b c d e g h i : Bool, ∀ j : Fin 8, yb ((if a then 128 else 0) + (if b then 64 else 0) + (if c then 32 else 0) + (if d then 16 else 0) + (if e then 8 else 0) + (if g then 4 else 0) + (if h then 2 else 0) + (if i then 1 else 0)) j.val = [a, b, c, d, e, g, h, i].getD j.val false := by decide +kernel
  unfold mkY
  rw [h _ _ _ _ _ _ _ _ ⟨j, hj⟩]
  rcases (show j = 0 ∨ j = 1 ∨ j = 2 ∨ j = 3 ∨ j = 4 ∨ j = 5 ∨ j = 6 ∨ j = 7 by omega) with h | h | h | h | h | h | h | h <;> subst h <;> rfl
theorem mkY_bd (f : Nat → Bool) : 0 ≤ mkY f ∧ mkY f < 256 := by
  unfold mkY
  constructor <;> (repeat' split) <;> omega

/-- The header with these bits. -/
def mk (f : Nat → Bool) : List Int := (List.range 13).map fun k => mkY fun j => f (8 * k + j)
theorem mk_at (f : Nat → Bool) (k : Nat) (hk : k < 13) : (mk f).getD k 0 = mkY fun j => f (8 * k + j) := by
  unfold mk
  simp [List.getD, hk]
theorem mk_byt (f : Nat → Bool) : Byt (mk f) := by
  refine ⟨by simp [mk], fun k => ?_⟩
  rcases Nat.lt_or_ge k 13 with h | h
  · rw [mk_at f k h]; exact mkY_bd _
  · rw [List.getD, List.getElem?_eq_none (by simpa [mk] using h)]; decide
theorem mk_bt (f : Nat → Bool) (i : Nat) (hi : i < 104) : bt (mk f) i = f i := by
  unfold bt
  rw [mk_at f _ (by omega), mkY_yb _ _ (by omega)]
  congr 1; omega
theorem mk_eq (L : List Int) (hL : Byt L) (f : Nat → Bool) (h : ∀ i, i < 104 → bt L i = f i) : L = mk f :=
  bt_ext L _ hL (mk_byt f) fun i hi => by rw [h i hi, mk_bt f i hi]
theorem mk_ext (f g : Nat → Bool) (h : ∀ i, i < 104 → f i = g i) : mk f = mk g :=
  mk_eq _ (mk_byt f) g fun i hi => by rw [mk_bt f i hi, h i hi]
theorem mk_of (L : List Int) (hL : Byt L) : mk (bt L) = L := (mk_eq L hL _ fun _ _ => rfl).symm
theorem bitB_bt (L : List Int) (i : Nat) (hi : i < 104) : bitB L (i : Int) = bt L i := by
  unfold bitB byteAt bt yb
  rw [decide_eq_true (by omega), Bool.true_and, show ((i : Int) / 8).toNat = i / 8 by omega, show (7 - (i : Int) % 8).toNat = 7 - i % 8 by omega]
theorem setB_mk (L : List Int) (hL : Byt L) (i : Nat) (b : Bool) (hi : i < 104) : setB L (i : Int) b = mk fun k => if k = i then b else bt L k := by
  obtain ⟨h1, h2⟩ := setB_bit L hL i b (by omega) (by omega)
  refine mk_eq _ h1 _ fun k hk => ?_
  rw [← bitB_bt _ k hk, h2 k (by omega) (by omega), ← bitB_bt L k hk]
  by_cases e : k = i
  · rw [if_pos e, if_pos (by omega)]
  · rw [if_neg e, if_neg (by omega)]
theorem Byt.at {L : List Int} (h : Byt L) (k : Nat) : 0 ≤ L.getD k 0 ∧ L.getD k 0 < 256 := h.2 k
theorem byt_set (L : List Int) (hL : Byt L) (k : Nat) (x : Int) (hk : k < 13) (hx : 0 ≤ x ∧ x < 256) : Byt (L.set k x) := by
  refine ⟨by rw [List.length_set]; exact hL.1, fun j => ?_⟩
  rw [getD_set _ _ _ _ (by rw [hL.1]; exact hk)]
  split
  · exact hx
  · exact hL.2 j
end Go.Proofs.Ytjmbdoiibchokaa
namespace Go.Proofs.Ytjmbdoiibchokaa
open Go Go.RowKit
set_option maxRecDepth 20000

section
variable {P : Program} {ops : Array Oper} {md : Region.Mode} {C : World → Prop}
def anyL (P : Program) (md : Region.Mode) (ops : Array Oper) (C : World → Prop) (n : Nat) (L : Array Bool → Act → Prop) : Nat → Array Bool → Act → Prop
  | 0, listed, a => L listed a
  | f + 1, listed, a =>
    Region.ready md ops listed ≠ [] ∧ ∀ i ∈ Region.ready md ops listed, i < n ∧ qOp P ops C i (anyL P md ops C n L f (listed.setIfInBounds i true)) a
theorem any_of_head {n g : Nat} {L : Array Bool → Act → Prop} {Q' : Exit → Act → World → Prop} (hL : ∀ listed a w, C w → L listed a → wpAny P md ops Q' g listed a w) :
    ∀ (f : Nat) (listed : Array Bool) (a : Act) (w : World), C w → anyL P md ops C n L f listed a → wpAny P md ops Q' (f + g) listed a w
  | 0, listed, a, w, hw, h => by rw [Nat.zero_add]; exact hL _ _ _ hw h
  | f + 1, listed, a, w, hw, h => by
    rw [show f + 1 + g = (f + g) + 1 by omega]
    exact ⟨fun h0 => absurd h0 h.1, fun i hi => wpOp_of_qOp hw (fun a' w' hw' h' => any_of_head hL f _ a' w' hw' h') (h.2 i hi).2⟩
theorem anyL_first {n i : Nat} {oi : Oper} {v : Value} {L : Array Bool → Act → Prop} (hi : ops[i]? = some oi) (hsel : ∀ (j : Nat) (o : Oper) cs b, ops[j]? = some o → o.op ≠ .select cs b)
    (hs : Region.sinkB md ops n = true) (hc : Region.chainB md ops n = true) (hn : n < ops.size) (hin : i < n)
    (hdone : ∀ listed a, L listed a → ∀ j ∈ Region.ready md ops listed, n ≤ j) :
    ∀ (f : Nat) (listed : Array Bool) (a : Act), HeadInv md ops n listed →
      (∀ j oj, ops[j]? = some oj → j ≠ i → listed.getD j true = false → (∀ e ∈ oj.after, Region.binds md e = true → e.on ≠ i) → oi.apart ops oj = true) →
      i ∈ Region.ready md ops listed → YieldsIn P ops C oi v a →
      anyL P md ops C n L f (listed.setIfInBounds i true) (a.put oi.dst v) → anyL P md ops C n L (f + 1) listed a := by
  intro f
  induction f with
  | zero =>
    intro listed a inv _ hr hy H
    have hun := (mem_ready.1 hr).1
    refine ⟨fun h => (by rw [h] at hr; cases hr), fun j hj => ?_⟩
    have hjn : j < n := by
      rcases Nat.lt_or_ge j n with h | h
      · exact h
      · exact absurd hj (tail_waits hs hc hn inv _ i rfl hin hun j h)
    refine ⟨hjn, ?_⟩
    by_cases hji : j = i
    · subst hji; exact hy.qOp hi H
    · have := hdone _ _ H j (ready_mono hj hji)
      omega
  | succ f ih =>
    intro listed a inv hfree hr hy H
    have hun := (mem_ready.1 hr).1
    refine ⟨fun h => (by rw [h] at hr; cases hr), fun j hj => ?_⟩
    have hjn : j < n := by
      rcases Nat.lt_or_ge j n with h | h
      · exact h
      · exact absurd hj (tail_waits hs hc hn inv _ i rfl hin hun j h)
    refine ⟨hjn, ?_⟩
    by_cases hji : j = i
    · subst hji; exact hy.qOp hi H
    · have h1 := (H.2 j (ready_mono hj hji)).2
      obtain ⟨hjun, oj, hoj, hall⟩ := mem_ready.1 hj
      have hnot : ∀ e ∈ oj.after, Region.binds md e = true → e.on ≠ i := fun e he hb heq => by
        have h1 := hall e he hb
        rw [heq, getD_both hun] at h1
        cases h1
      have h2 := qOp_put hoj (hfree j oj hoj hji hjun hnot) (fun cs b => hsel i oi cs b hi) (fun cs b => hsel j oj cs b hoj) hy h1
      have hfree' : ∀ k ok, ops[k]? = some ok → k ≠ i → (listed.setIfInBounds j true).getD k true = false →
          (∀ e ∈ ok.after, Region.binds md e = true → e.on ≠ i) → oi.apart ops ok = true := fun k ok hk hki hun hno => by
        refine hfree k ok hk hki ?_ hno
        by_cases hjk : j = k
        · subst hjk; exact hjun
        · rw [getD_set_ne true hjk] at hun; exact hun
      refine qOp_mono (fun a' h3 => ih (listed.setIfInBounds j true) a' (inv.set hj hjn) hfree' (ready_mono hr (Ne.symm hji)) h3.1 ?_) h2
      rw [Array.setIfInBounds_comm _ _ hji]
      exact h3.2
theorem anyL_lex {n g : Nat} {Lq : Act → Prop} (hsel : Region.noSelect ops = true) (hs : Region.sinkB md ops n = true) (hc : Region.chainB md ops n = true) (hn : n < ops.size) :
    ∀ (l : List Oper) (k : Nat) (listed : Array Bool) (a : Act), (∀ j, j < l.length → l[j]? = ops[k + j]?) → k + l.length = n → HeadInv md ops n listed →
    Region.lexHead md ops g l.length k listed = true → wpQuiet P ops C Lq l a →
    anyL P md ops C n (fun listed' a' => Region.seqB md ops g n listed' = true ∧ Lq a') l.length listed a
  | [], k, listed, a, _, hk, _, hB, h => by
    have : k = n := by simpa using hk
    subst this
    exact ⟨by simpa [Region.lexHead] using hB, h⟩
  | o :: l, k, listed, a, hl, hk, inv, hB, h => by
    have h0 : ops[k]? = some o := by simpa using (hl 0 (by simp)).symm
    simp only [List.length_cons, Region.lexHead, Bool.and_eq_true] at hB
    obtain ⟨⟨hr, hf⟩, hB'⟩ := hB
    have hkn : k < n := by simp only [List.length_cons] at hk; omega
    have hr' : k ∈ Region.ready md ops listed := by simpa using hr
    have hst : qOp P ops C k (wpQuiet P ops C Lq l) a := by unfold qOp; simp only [h0]; exact h
    obtain ⟨v, hy, hK⟩ := yieldsIn_of_qOp h0 hst
    exact anyL_first h0 (Region.noSelect_spec hsel) hs hc hn hkn (fun listed' a' hL => seqB_ready hL.1) l.length listed a inv (Region.free_spec h0 hf) hr' hy
      (anyL_lex hsel hs hc hn l (k + 1) _ _ (fun j hj => by have := hl (j + 1) (by simp; omega); simpa [Nat.add_assoc, Nat.add_comm 1 j] using this) (by simp only [List.length_cons] at hk; omega) (inv.set hr' hkn) hB' hK)
end

/-- A drawn region whose first n operations only read and call, in any order, and whose rest comes behind them in order. -/
theorem wp_region_latertail {P : Program} {id : Nat} {Q : Exit → Act → World → Prop} {a : Act} {w : World} {l : List Oper} (n : Nat) (hm : P.follows .mixedOrders = true) (hB : Region.lexTailB .any l.toArray n = true)
    (h : wpQuiet P l.toArray (fun w' => ∃ u : Later w, w' = u.world) (fun a' => ∀ w', (∃ u : Later w, w' = u.world) → wpList P l.toArray Q (l.drop n) a' w') (l.take n) a) : (Code.region id l.toArray true).wp P Q a w := by
  simp only [Region.lexTailB, Bool.and_eq_true, decide_eq_true_eq] at hB
  obtain ⟨⟨⟨⟨hsel, hn⟩, hs⟩, hc⟩, hlex⟩ := hB
  have hn' : n < l.length := by simpa using hn
  have htl : (l.take n).length = n := by simp; omega
  have hdl : (l.drop n).length = l.toArray.size - n := by simp
  have inv0 : HeadInv .any l.toArray n (Array.replicate l.toArray.size false) :=
    ⟨by simp, fun j oj _ hl => (by rw [getD_replicate_false] at hl; cases hl), fun t _ ht => getD_in (by simpa using ht) (getD_replicate_false _ _)⟩
  have H := anyL_lex (md := .any) (g := l.toArray.size - n) hsel hs hc hn (l.take n) 0 _ a (fun j hj => by
    have hj' : j < n := by rw [htl] at hj; exact hj
    simp [hj']) (by simpa using htl) inv0 (by rw [htl]; exact hlex) h
  refine wp_region_any hm ?_
  have hC : (fun w' => ∃ u : Later w, w' = u.world) w.drew := ⟨⟨w.drew, (Below.refl _ _).drew⟩, rfl⟩
  have := any_of_head (Q' := Q) (g := l.toArray.size - n) (fun listed a' w' hw' hL => by
    rw [← hdl] at hL ⊢
    exact wpAny_of_seq (l.drop n) n listed a' w' (fun j => by simp) hL.1 (hL.2 w' hw')) _ _ _ _ hC H
  rw [htl, show n + (l.toArray.size - n) = l.toArray.size by omega] at this
  exact this
end Go.Proofs.Ytjmbdoiibchokaa
