import Derived.Test.YtdibjhlckjjlfaaProg
import Derived.WalkKit
import Derived.WalkSpells
import Derived.WalkLawsBesides
import Derived.BigQuiet
import Derived.KernelRfl
import Derived.Laws.StructEq
import Derived.Laws.Tables
import Derived.Laws.Rows
import Derived.StillTailTactics
namespace Go.Proofs.Ytdibjhlckjjlfaa
open Go Go.RowKit
set_option maxRecDepth 20000

theorem ret_bool {a b : Bool} (h : a = b) : Ending.returned (.bool a) = .returned (.bool b) := by rw [h]
def hv (L : List Int) : Array Value := (L.map (Value.int .u8)).toArray
def Byt (L : List Int) : Prop := L.length = 13 ∧ ∀ k, 0 ≤ L.getD k 0 ∧ L.getD k 0 < 256

theorem hv_size (L : List Int) : (hv L).size = L.length := by simp [hv]
theorem hv_at (L : List Int) (hL : L.length = 13) (k : Nat) (hk : k < 13) : (hv L)[k]? = some (.int .u8 (L.getD k 0)) := by
  unfold hv
  simp [List.getElem?_map, List.getElem?_eq_getElem (show k < L.length by omega), List.getD]
theorem hv_one (L : List Int) : (hv L).all (·.oneCell') = true := by
  simp [hv, Value.oneCell']
theorem part5 (L : List Int) (hL : L.length = 13) (k : Nat) (hk : k < 13) (w : World) : (part 5 (hv L) k).run Try.prog w = .ok (.int .u8 (L.getD k 0)) w := by
  have u5 := Try.underlying5
  have hx := hv_at L hL k hk
  have hz : ∀ w, (sizeOf 5).run Try.prog w = .ok 1 w := fun w => by kernel_rfl
  have ha : ∀ w, (isAgg 5).run Try.prog w = .ok false w := fun w => by kernel_rfl
  simp [part, ha, hx, Sem.run_bind]

theorem loopN (d : Nat) (L M : List Int) (hL : L.length = 13) (hM : M.length = 13) (w : World) (k : Option Bool × Unit → World → Result Bool) (k1 : k (some false, ()) w = .ok false w) (k2 : k (none, ()) w = .ok true w) : ∀ (is : List Nat), (∀ i ∈ is, i < 13) →
    ((forIn is ((none, ()) : Option Bool × Unit) fun i (_ : Option Bool × Unit) => (do
            if !(← Op.equalIn (d + 1) 5 (← part 5 (hv L) (i * 1)) (← part 5 (hv M) (i * 1))) then pure (ForInStep.done (some false, ())) else pure (ForInStep.yield (none, ())) : Sem (ForInStep (Option Bool × Unit)))).run Try.prog w).andThen k = .ok (is.all fun i => L.getD i 0 == M.getD i 0) w := by
  intro is
  induction is with
  | nil => intro _; simpa using k2
  | cons i is ih =>
    intro h
    have hi := h i (by simp)
    have ih' := ih (fun j hj => h j (by simp [hj]))
    have e : (Op.equalIn (d + 1) 5 (.int .u8 (L.getD i 0)) (.int .u8 (M.getD i 0))).run Try.prog w = .ok (L.getD i 0 == M.getD i 0) w := run_equalIn_int w d 5 .u8 .u8 _ _ Try.underlying5
    simp only [List.forIn_cons, Sem.run_bind, Nat.mul_one, part5 L hL i hi, part5 M hM i hi, Result.andThen_ok, e]
    by_cases hc : (L.getD i 0 == M.getD i 0) = true
    · simp only [hc, Bool.not_true, Bool.false_eq_true, if_false, Sem.run_pure, Result.andThen_ok, List.all_cons, Bool.true_and]
      simpa only [Sem.run_bind, Nat.mul_one] using ih'
    · have hc' : (L.getD i 0 == M.getD i 0) = false := by simpa using hc
      simp only [hc', Bool.not_false, if_true, Sem.run_pure, Result.andThen_ok, List.all_cons, Bool.false_and]
      exact k1

theorem all_eq (L M : List Int) (hL : L.length = 13) (hM : M.length = 13) : ((List.range' 0 13).all fun i => L.getD i 0 == M.getD i 0) = (L == M) := by
  rw [Bool.eq_iff_iff]
  simp only [List.all_eq_true, List.mem_range'_1, beq_iff_eq]
  constructor
  · intro h
    apply List.ext_getElem (by omega)
    intro k h1 h2
    have := h k ⟨by omega, by omega⟩
    simpa [List.getD, h1, h2] using this
  · rintro rfl k _; rfl

structure Later (W : World) where
  world : World
  below : Below W.heap.size W world

theorem Later.ne (W : World) : Nonempty (Later W) := ⟨⟨W, Below.refl _ _⟩⟩

theorem wp_region_later {P : Program} {id : Nat} {Q : Exit → Act → World → Prop} {a : Act} {w : World} {l : List Oper} (hm : P.follows .mixedOrders = true) (hB : Region.lexB .any l.toArray = true)
    (h : wpQuiet P l.toArray (fun w' => ∃ u : Later w, w' = u.world) (fun a' => ∀ w', (∃ u : Later w, w' = u.world) → Q .normal a' w') l a) : (Code.region id l.toArray true).wp P Q a w :=
  wp_region_quiet (C := fun w' => ∃ u : Later w, w' = u.world) hm hB ⟨⟨w.drew, (Below.refl _ _).drew⟩, rfl⟩ (by simpa using h)

theorem Calls.later_of {P : Program} {f : FuncId} {args : Array Value} {W : World} {u : Later W} {v : Value}
    (h : Calls P f args u.world fun e w' => e = .returned v ∧ Below u.world.heap.size u.world w') : Calls P f args u.world fun e w'' => e = .returned v ∧ ∃ u' : Later W, w'' = u'.world :=
  h.mono fun _ w1 ⟨he, hb⟩ => ⟨he, ⟨w1, u.below.trans (hb.mono u.below.size)⟩, rfl⟩

theorem q_load_row {P : Program} {ops : Array Oper} {C : World → Prop} {Q : Act → Prop} {rest : List Oper} {o : Oper} {a : Act} (hw : Region.wanted o (yielded ops a.tmps) = true) (ty : TypeId) (x : Operand) (ho : o.op = .load ty x)
    (g : Nat) (hx : a.eval x = .pointer (some ⟨g, 0, none⟩)) (t : TypeId) (cs : Array Value) (fr : Nat × Nat) (d : TypeDesc) (hg : ∀ w', C w' → w'.heap[g]? = some (.cells cs t fr))
    (hu : P.underlying ty = some d) (hd : (match d with | .struct _ | .array _ _ => true | _ => false) = true) (hi : (P.info? ty).map (·.size) = some cs.size)
    (h : wpQuiet P ops C Q rest (a.put o.dst (.agg cs))) : wpQuiet P ops C Q (o :: rest) a := by
  refine BigFrame.wpQuiet_want hw fun K hK => ⟨.agg cs, fun w hC => ?_, hK _ h⟩
  unfold Oper.quietAt execOp
  simp only [ho, hx, Instr.loadAt, Instr.sureAddr, Sem.run_bind, Sem.run_pure, Result.andThen_ok, run_loadVar_row w g t ty cs fr d (hg w hC) hu hd hi]
  exact ⟨rfl, rfl⟩

theorem later_block {W : World} {g : Nat} {o : Obj} (h : W.heap[g]? = some o) : ∀ w', (∃ u : Later W, w' = u.world) → w'.heap[g]? = some o := by
  rintro w' ⟨u, rfl⟩
  have hlt : g < W.heap.size := by
    rcases Array.getElem?_eq_some_iff.1 h with ⟨hl, _⟩
    exact hl
  rw [u.below.block g hlt, h]

theorem size26 (L : List Int) (hL : L.length = 13) : (Try.prog.info? 28).map (·.size) = some (hv L).size := by
  rw [hv_size, hL]; kernel_rfl

/-- A whole header is read out of its block. -/
theorem wl_load26 {ops : Array Oper} {rest : List Oper} {o : Oper} {a : Act} {w : World} {Q : Exit → Act → World → Prop} (hgd : o.guard = none) (x : Operand) (ho : o.op = .load 28 x)
    (g : Nat) (hx : a.eval x = .pointer (some ⟨g, 0, none⟩)) (L : List Int) (hg : w.heap[g]? = some (.cells (hv L) 28 (0, 0))) (hL : L.length = 13)
    (h : wpList Try.prog ops Q rest (a.put o.dst (.agg (hv L))) w) : wpList Try.prog ops Q (o :: rest) a w :=
  wpList_load_row hgd 28 x ho g hx 28 (hv L) (0, 0) _ hg Try.underlying28 rfl (size26 L hL) h

/-- A whole header is stored into a block that holds one. -/
theorem wl_store26 {ops : Array Oper} {rest : List Oper} {o : Oper} {a : Act} {w : World} {Q : Exit → Act → World → Prop} (hgd : o.guard = none) (x y : Operand) (ho : o.op = .store 28 x y)
    (g : Nat) (L : List Int) (hx : a.eval x = .pointer (some ⟨g, 0, none⟩)) (hy : a.eval y = .agg (hv L)) (old : Array Value) (hg : w.heap[g]? = some (.cells old 28 (0, 0))) (hold : old.size = 13) (hL : L.length = 13)
    (w' : World) (hw' : w.setRow g (hv L) = w')
    (h : wpList Try.prog ops Q rest (a.put o.dst undef) w') : wpList Try.prog ops Q (o :: rest) a w :=
  wpList_store_row hgd 28 x y ho g (hv L) hx hy 28 old hg (size26 L hL) (by rw [hv_size, hold, hL]) (hv_one L) (by rw [hw']; exact h)

theorem setRow_new (w : World) (old cs : Array Value) (t : TypeId) (g : Nat) (hg : g = w.heap.size) : (w.alloc (.cells old t)).setRow g cs = w.alloc (.cells cs t) := by
  subst hg
  simp only [World.setRow, World.alloc]
  congr 1
  apply Array.ext
  · simp
  · intro k h1 h2
    simp only [Array.getElem_modify, Array.getElem_push]
    by_cases hk : k < w.heap.size
    · simp [hk, show ¬ w.heap.size = k by omega]
    · have : w.heap.size = k := by simp at h2; omega
      simp [this]

theorem setRow_drew (w : World) (g : Nat) (cs : Array Value) : w.drew.setRow g cs = (w.setRow g cs).drew := rfl
theorem below_setRow {B : Nat} {a w : World} (h : Below B a w) {g : Nat} (hg : B ≤ g) (cs : Array Value) : Below B a (w.setRow g cs) :=
  ⟨h.os, h.tape, h.output, by simpa using h.size, fun k hk => (setRow_other w g k cs (by omega)).trans (h.block k hk)⟩

/-- The end of a function whose one result is a header in memory. -/
theorem ret26 {fn : Func} {R : Ending → World → Prop} {a : Act} {w : World} {p : Tmp} (hr : fn.results = #[.cell p 28]) (hd : a.defers = []) (g : Nat) (hp : a.tmps.getD p undef = .pointer (some ⟨g, 0, none⟩)) (L : List Int) (hL : L.length = 13)
    (hg : w.heap[g]? = some (.cells (hv L) 28 (0, 0))) (h : R (.returned (.agg (hv L))) w) : bodyPost Try.prog fn R .ret a w :=
  bodyPost_ret (v := .agg (hv L)) (results_cell_row hr _ _ g 28 (hv L) (0, 0) _ hp hg Try.underlying28 rfl (size26 L hL)) hd h

theorem heap_new (w : World) (o : Obj) (g : Nat) (hg : g = w.heap.size) : (w.alloc o).heap[g]? = some o := by rw [hg]; exact heap_alloc_new w o
theorem heap_past (w : World) (o x : Obj) (g : Nat) (h : w.heap[g]? = some x) : (w.alloc o).heap[g]? = some x := by
  rw [Below.heap_alloc w o g (Array.getElem?_eq_some_iff.1 h).1]; exact h

end Go.Proofs.Ytdibjhlckjjlfaa
namespace Go.Proofs.Ytdibjhlckjjlfaa
open Go Go.RowKit
set_option maxRecDepth 20000

theorem isBit_yes (i : Int) (w : World) (h0 : 0 ≤ i) (h1 : i < 104) :
    Calls Try.prog 40 #[.int .i64 i] w fun e w' => e = .returned (.bool true) ∧ w' = w := by
  go_enter Try.func40, Try.ntmps40
  go_wp2
  go_ret
  exact ⟨ret_bool (by simp), rfl⟩
theorem isBit_no (i : Int) (w : World) (h : ¬ (0 ≤ i ∧ i < 104)) :
    Calls Try.prog 40 #[.int .i64 i] w fun e w' => e = .returned (.bool false) ∧ w' = w := by
  by_cases h0 : 0 ≤ i
  · have h1 : 104 ≤ i := by omega
    go_enter Try.func40, Try.ntmps40
    go_wp2
    go_ret
    exact ⟨ret_bool (by simp; omega), rfl⟩
  · go_enter Try.func40, Try.ntmps40
    go_wp2
    go_ret
    exact ⟨ret_bool (by simp), rfl⟩

theorem sieve_any (i : Int) (w : World) (h0 : 0 ≤ i) (h1 : i < 104) :
    Calls Try.prog 41 #[.int .i64 i] w fun e w' => e = .returned (.int .u8 (128 / 2 ^ (i % 8).toNat)) ∧ w' = w := by
  go_enter Try.func41, Try.ntmps41
  go_wp2
  go_ret
  exact ⟨rfl, rfl⟩

set_option maxRecDepth 100000 in
theorem and_fin : ∀ x : Fin 256, ∀ j : Fin 8, (bits .and .u8 (x.val : Int) (128 / 2 ^ j.val) != 0) = ((x.val : Int) / 2 ^ (7 - j.val) % 2 == 1) := by decide +kernel
set_option maxRecDepth 100000 in
theorem xor_fin : ∀ x : Fin 256, ∀ j : Fin 8, bits .xor .u8 (bits .xor .u8 (x.val : Int) (128 / 2 ^ j.val)) (128 / 2 ^ j.val) = (x.val : Int) ∧ bits .xor .u8 (x.val : Int) (128 / 2 ^ j.val) ≠ (x.val : Int) ∧ 0 ≤ bits .xor .u8 (x.val : Int) (128 / 2 ^ j.val) ∧ bits .xor .u8 (x.val : Int) (128 / 2 ^ j.val) < 256 := by decide +kernel
set_option maxRecDepth 100000 in
theorem turn_fin : ∀ x : Fin 256, ∀ j : Fin 8, ∀ k : Fin 8, (bits .xor .u8 (x.val : Int) (128 / 2 ^ j.val) / 2 ^ (7 - k.val) % 2 == 1) = (((x.val : Int) / 2 ^ (7 - k.val) % 2 == 1) != decide (j = k)) := by decide +kernel

theorem and_bit (x i : Int) (hb0 : 0 ≤ x) (hb1 : x < 256) : (bits .and .u8 x (128 / 2 ^ (i % 8).toNat) != 0) = (x / 2 ^ (7 - i % 8).toNat % 2 == 1) := by
  have h := and_fin ⟨x.toNat, by omega⟩ ⟨(i % 8).toNat, by omega⟩
  simp only [] at h
  rw [show ((x.toNat : Nat) : Int) = x by omega, show 7 - (i % 8).toNat = (7 - i % 8).toNat by omega] at h
  exact h

def byteAt (L : List Int) (i : Int) : Int := L.getD (i / 8).toNat 0
def bitB (L : List Int) (i : Int) : Bool := decide (0 ≤ i ∧ i < 104) && (byteAt L i / 2 ^ (7 - i % 8).toNat % 2 == 1)

set_option maxHeartbeats 400000 in
theorem refBit_any (L : List Int) (hL : Byt L) (i : Int) (w : World) :
    Calls Try.prog 33 #[.agg (hv L), .int .i64 i] w fun e w' => e = .returned (.bool (bitB L i)) ∧ Below w.heap.size w w' := by
  by_cases hin : 0 ≤ i ∧ i < 104
  · obtain ⟨h0, h1⟩ := hin
    obtain ⟨x, hx, hxe⟩ : ∃ x, (hv L)[(i / 8).toNat]? = some (.int .u8 x) ∧ x = byteAt L i := ⟨_, hv_at L hL.1 _ (by omega), rfl⟩
    have hb : 0 ≤ x ∧ x < 256 := by rw [hxe]; exact hL.2 _
    obtain ⟨hb0, hb1⟩ := hb
    have HX : Hid (x = byteAt L i) := hxe
    clear hxe
    go_enter Try.func33, Try.ntmps33
    go_wp2
    go_ret
    refine ⟨ret_bool ?_, (Below.refl _ _).alloc (Nat.le_refl _) _⟩
    rw [Int.tmod_eq_emod_of_nonneg (Int.ediv_nonneg hb0 (Int.pow_nonneg (by decide))), HX.out]
    simp [bitB, h0, h1]
  · by_cases h0 : i < 0
    · go_enter Try.func33, Try.ntmps33
      go_wp2
      go_ret
      exact ⟨ret_bool (by simp [bitB]; omega), (Below.refl _ _).alloc (Nat.le_refl _) _⟩
    · have h1 : 103 < i := by omega
      have h0' : 0 ≤ i := by omega
      go_enter Try.func33, Try.ntmps33
      go_wp2
      go_ret
      exact ⟨ret_bool (by simp [bitB]; omega), (Below.refl _ _).alloc (Nat.le_refl _) _⟩

set_option maxHeartbeats 400000 in
theorem bit_any (L : List Int) (hL : Byt L) (i : Int) (w : World) :
    Calls Try.prog 36 #[.agg (hv L), .int .i64 i] w fun e w' => e = .returned (.bool (bitB L i)) ∧ Below w.heap.size w w' := by
  by_cases hin : 0 ≤ i ∧ i < 104
  · obtain ⟨h0, h1⟩ := hin
    obtain ⟨x, hx, hxe⟩ : ∃ x, (hv L)[(i / 8).toNat]? = some (.int .u8 x) ∧ x = byteAt L i := ⟨_, hv_at L hL.1 _ (by omega), rfl⟩
    have hb : 0 ≤ x ∧ x < 256 := by rw [hxe]; exact hL.2 _
    obtain ⟨hb0, hb1⟩ := hb
    have HX : Hid (x = byteAt L i) := hxe
    clear hxe
    go_enter Try.func36, Try.ntmps36
    go_wp2
    go_quiet (first | (go_at_call 40; exact Calls.quiet_of_same (isBit_yes _ _ h0 h1)) | (go_at_call 41; exact Calls.quiet_of_same (sieve_any _ _ h0 h1)))
    go_wp2
    go_ret
    refine ⟨ret_bool ?_, below_drewN ((Below.refl _ _).alloc (Nat.le_refl _) _) _⟩
    rw [and_bit x i hb0 hb1, HX.out]
    simp [bitB, h0, h1]
  · go_enter Try.func36, Try.ntmps36
    go_wp2
    go_quiet (first | (go_at_call 40; exact Calls.quiet_of_same (isBit_no _ _ hin)))
    go_wp2
    go_ret
    exact ⟨ret_bool (by simp [bitB]; omega), below_drewN ((Below.refl _ _).alloc (Nat.le_refl _) _) _⟩

def flipL (L : List Int) (i : Int) : List Int := if 0 ≤ i ∧ i < 104 then L.set (i / 8).toNat (bits .xor .u8 (byteAt L i) (128 / 2 ^ (i % 8).toNat)) else L

end Go.Proofs.Ytdibjhlckjjlfaa
namespace Go.Proofs.Ytdibjhlckjjlfaa
open Go Go.RowKit
set_option maxRecDepth 20000

theorem still_of_quiet {P : Program} {ops : Array Oper} {w : World} {Q : Act → Prop} : ∀ (l : List Oper) (a : Act), wpQuiet P ops (fun w' => w' = w) Q l a → wpStill P ops w Q l a
  | [], _, h => h
  | o :: rest, a, h => by
    unfold wpQuiet at h
    unfold wpStill
    split at h
    · rename_i hw
      rw [if_pos hw]
      obtain ⟨v, h1, h2⟩ := h
      have h2' := still_of_quiet rest _ h2
      have h1' := h1 w rfl
      unfold Oper.quietAt at h1'
      unfold Oper.still
      revert h1'
      generalize (execOp a.eval o).run P w = r
      intro h1'
      match r, h1' with
      | .ok (.value u) w', ⟨e1, e2⟩ => exact ⟨e1, by rw [e2]; exact h2'⟩
      | .ok .skip w', ⟨e1, e2⟩ => exact ⟨e1, by rw [← e2]; exact h2'⟩
      | .ok (.enter f args) w', ⟨e1, e2⟩ => exact ⟨e1, v, e2, h2'⟩
    · rename_i hw
      rw [if_neg hw]
      exact still_of_quiet rest _ h

theorem wp_region_tail {P : Program} {id : Nat} {Q : Exit → Act → World → Prop} {a : Act} {w : World} {l : List Oper} (n : Nat) (hm : P.follows .mixedOrders = true) (hB : Region.lexTailB .any l.toArray n = true)
    (h : wpQuiet P l.toArray (fun w' => w' = w.drew) (fun a' => wpList P l.toArray Q (l.drop n) a' w.drew) (l.take n) a) : (Code.region id l.toArray true).wp P Q a w :=
  wp_region_still_tail n hm hB (still_of_quiet _ _ h)

theorem heap_drew {w : World} {g : Nat} {x : Obj} (h : w.heap[g]? = some x) : w.drew.heap[g]? = some x := h

theorem hv_set (L : List Int) (k : Nat) (v : Int) : (hv L).setIfInBounds k (.int .u8 v) = hv (L.set k v) := by
  unfold hv
  rw [List.setIfInBounds_toArray, ← List.map_set]

set_option maxHeartbeats 400000 in
theorem flip_in (L : List Int) (hL : Byt L) (i : Int) (w : World) (h0 : 0 ≤ i) (h1 : i < 104) :
    Calls Try.prog 44 #[.agg (hv L), .int .i64 i] w fun e w' => e = .returned (.agg (hv (flipL L i))) ∧ Below w.heap.size w w' := by
  obtain ⟨x, hx, hxe⟩ : ∃ x, (hv L)[(i / 8).toNat]? = some (.int .u8 x) ∧ x = byteAt L i := ⟨_, hv_at L hL.1 _ (by omega), rfl⟩
  have hb : 0 ≤ x ∧ x < 256 := by rw [hxe]; exact hL.2 _
  obtain ⟨hb0, hb1⟩ := hb
  have HX : Hid (x = byteAt L i) := hxe
  clear hxe
  go_enter Try.func44, Try.ntmps44
  go_wp2_with (first | (go_at_call 40; refine (isBit_yes _ _ h0 h1).mono ?_; rintro e w' ⟨rfl, rfl⟩))
  refine wp_region_tail 8 (by kernel_rfl) (by kernel_rfl) ?_
  simp only [List.take_succ_cons, List.take_zero, List.drop_succ_cons, List.drop_zero]
  go_big_quiet_step (fail)
  go_big_quiet_step (fail)
  go_big_quiet_step (fail)
  go_big_quiet_step (fail)
  go_big_quiet_step (fail)
  go_big_quiet_want; go_big_quiet_op
  refine ⟨_, sieve_any _ _ h0 h1, ?_⟩
  go_big_quiet_on
  go_big_quiet_step (fail)
  go_big_quiet_step (fail)
  refine wpQuiet_nil ?_
  have hL2 : (L.set (i / 8).toNat (bits .xor .u8 x (128 / 2 ^ (i % 8).toNat))).length = 13 := by rw [List.length_set]; exact hL.1
  go_wp2_with (first
    | (refine wl_load26 rfl _ rfl w.heap.size rfl (L.set (i / 8).toNat (bits .xor .u8 x (128 / 2 ^ (i % 8).toNat))) (heap_drew (by rw [← hv_set]; exact heap_past _ _ _ _ (heap_new _ _ _ rfl))) hL2 ?_)
    | (refine wl_store26 rfl _ _ rfl (w.heap.size + 1) (L.set (i / 8).toNat (bits .xor .u8 x (128 / 2 ^ (i % 8).toNat))) rfl rfl _ (heap_drew (heap_new _ _ _ (by simp))) rfl hL2 _ (by rw [setRow_drew, setRow_new _ _ _ _ _ (by simp)]) ?_))
  refine ret26 (p := 4) rfl rfl (w.heap.size + 1) rfl _ hL2 (heap_drew (heap_new _ _ _ (by simp))) ⟨?_, ?_⟩
  · rw [HX.out]; unfold flipL; rw [if_pos ⟨h0, h1⟩]
  · exact (((Below.refl _ _).alloc (Nat.le_refl _) _).alloc (by simp) _).drew

set_option maxHeartbeats 400000 in
theorem flip_no (L : List Int) (hL : Byt L) (i : Int) (w : World) (hin : ¬ (0 ≤ i ∧ i < 104)) :
    Calls Try.prog 44 #[.agg (hv L), .int .i64 i] w fun e w' => e = .returned (.agg (hv (flipL L i))) ∧ Below w.heap.size w w' := by
  have hf : flipL L i = L := by unfold flipL; rw [if_neg hin]
  rw [hf]
  clear hf
  go_enter Try.func44, Try.ntmps44
  go_wp2_with (first | (go_at_call 40; refine (isBit_no _ _ hin).mono ?_; rintro e w' ⟨rfl, rfl⟩) | (refine wl_load26 rfl _ rfl w.heap.size rfl L (heap_past _ _ _ _ (heap_new _ _ _ rfl)) hL.1 ?_) | (refine wl_store26 rfl _ _ rfl (w.heap.size + 1) L rfl rfl _ (heap_new _ _ _ (by simp)) rfl hL.1 _ (setRow_new _ _ _ _ _ (by simp)) ?_))
  refine ret26 (p := 4) rfl rfl (w.heap.size + 1) rfl L hL.1 (heap_new _ _ _ (by simp)) ⟨rfl, ?_⟩
  exact ((Below.refl _ _).alloc (Nat.le_refl _) _).alloc (by simp) _

theorem flip_any (L : List Int) (hL : Byt L) (i : Int) (w : World) :
    Calls Try.prog 44 #[.agg (hv L), .int .i64 i] w fun e w' => e = .returned (.agg (hv (flipL L i))) ∧ Below w.heap.size w w' := by
  by_cases hin : 0 ≤ i ∧ i < 104
  · exact flip_in L hL i w hin.1 hin.2
  · exact flip_no L hL i w hin
end Go.Proofs.Ytdibjhlckjjlfaa
namespace Go.Proofs.Ytdibjhlckjjlfaa
open Go Go.RowKit
set_option maxRecDepth 20000

theorem getD_set (L : List Int) (j k : Nat) (v : Int) (hj : j < L.length) : (L.set j v).getD k 0 = if j = k then v else L.getD k 0 := by
  simp only [List.getD, List.getElem?_set]
  by_cases h : j = k
  · subst h; simp [hj]
  · simp [h]

theorem xor_byte (x i : Int) (hx : 0 ≤ x ∧ x < 256) : bits .xor .u8 (bits .xor .u8 x (128 / 2 ^ (i % 8).toNat)) (128 / 2 ^ (i % 8).toNat) = x ∧ bits .xor .u8 x (128 / 2 ^ (i % 8).toNat) ≠ x ∧ 0 ≤ bits .xor .u8 x (128 / 2 ^ (i % 8).toNat) ∧ bits .xor .u8 x (128 / 2 ^ (i % 8).toNat) < 256 := by
  have h := xor_fin ⟨x.toNat, by omega⟩ ⟨(i % 8).toNat, by omega⟩
  simp only [] at h
  rw [show ((x.toNat : Nat) : Int) = x by omega] at h
  exact h
theorem turn_byte (x i k : Int) (hx : 0 ≤ x ∧ x < 256) : (bits .xor .u8 x (128 / 2 ^ (i % 8).toNat) / 2 ^ (7 - k % 8).toNat % 2 == 1) = ((x / 2 ^ (7 - k % 8).toNat % 2 == 1) != decide (i % 8 = k % 8)) := by
  have h := turn_fin ⟨x.toNat, by omega⟩ ⟨(i % 8).toNat, by omega⟩ ⟨(k % 8).toNat, by omega⟩
  simp only [Fin.mk.injEq] at h
  rw [show ((x.toNat : Nat) : Int) = x by omega, show 7 - (k % 8).toNat = (7 - k % 8).toNat by omega] at h
  rw [h]
  congr 1
  rw [decide_eq_decide]
  omega

theorem flip_byt (L : List Int) (hL : Byt L) (i : Int) : Byt (flipL L i) := by
  unfold flipL
  split
  · rename_i h
    refine ⟨by rw [List.length_set]; exact hL.1, fun k => ?_⟩
    rw [getD_set _ _ _ _ (by rw [hL.1]; omega)]
    split
    · exact ⟨(xor_byte (byteAt L i) i (hL.2 _)).2.2.1, (xor_byte (byteAt L i) i (hL.2 _)).2.2.2⟩
    · exact hL.2 k
  · exact hL

theorem flip_bit (L : List Int) (hL : Byt L) (i k : Int) : bitB (flipL L i) k = (bitB L k != (decide (0 ≤ i ∧ i < 104) && decide (i = k))) := by
  by_cases h : 0 ≤ i ∧ i < 104
  · rw [decide_eq_true h]
    unfold flipL
    rw [if_pos h]
    by_cases hk : 0 ≤ k ∧ k < 104
    · have hlt : (i / 8).toNat < L.length := by rw [hL.1]; omega
      unfold bitB
      rw [decide_eq_true hk]
      simp only [Bool.true_and]
      unfold byteAt
      rw [getD_set _ _ _ _ hlt]
      by_cases e : (i / 8).toNat = (k / 8).toNat
      · rw [if_pos e]
        have := turn_byte (L.getD (i / 8).toNat 0) i k (hL.2 _)
        rw [this, ← e]
        congr 1
        rw [decide_eq_decide]; omega
      · rw [if_neg e, decide_eq_false (show ¬ i = k by rintro rfl; exact e rfl)]
        simp
    · unfold bitB
      rw [decide_eq_false hk, decide_eq_false (show ¬ i = k by rintro rfl; exact hk h)]
      simp
  · unfold flipL; rw [if_neg h, decide_eq_false h]; simp
end Go.Proofs.Ytdibjhlckjjlfaa
namespace Go.Proofs.Ytdibjhlckjjlfaa
open Go Go.RowKit
set_option maxRecDepth 20000

abbrev zero26 : Array Value := #[.int .u8 0, .int .u8 0, .int .u8 0, .int .u8 0, .int .u8 0, .int .u8 0, .int .u8 0, .int .u8 0, .int .u8 0, .int .u8 0, .int .u8 0, .int .u8 0, .int .u8 0]

/-- The header with a bit set as the reference sets it. -/
def setB (L : List Int) (i : Int) (b : Bool) : List Int :=
  if bitB L i = b then L else if b then L.set (i / 8).toNat (byteAt L i + 128 / 2 ^ (i % 8).toNat) else L.set (i / 8).toNat (byteAt L i - 128 / 2 ^ (i % 8).toNat)

set_option maxRecDepth 100000 in
theorem up_fin : ∀ x : Fin 256, ∀ j : Fin 8, ((x.val : Int) / 2 ^ (7 - j.val) % 2 == 1) = false → (x.val : Int) + 128 / 2 ^ j.val < 256 ∧ ∀ k : Fin 8, (((x.val : Int) + 128 / 2 ^ j.val) / 2 ^ (7 - k.val) % 2 == 1) = if k = j then true else ((x.val : Int) / 2 ^ (7 - k.val) % 2 == 1) := by decide +kernel
set_option maxRecDepth 100000 in
theorem down_fin : ∀ x : Fin 256, ∀ j : Fin 8, ((x.val : Int) / 2 ^ (7 - j.val) % 2 == 1) = true → 0 ≤ (x.val : Int) - 128 / 2 ^ j.val ∧ ∀ k : Fin 8, (((x.val : Int) - 128 / 2 ^ j.val) / 2 ^ (7 - k.val) % 2 == 1) = if k = j then false else ((x.val : Int) / 2 ^ (7 - k.val) % 2 == 1) := by decide +kernel

theorem up_byte (x i : Int) (hx : 0 ≤ x ∧ x < 256) (h : (x / 2 ^ (7 - i % 8).toNat % 2 == 1) = false) : x + 128 / 2 ^ (i % 8).toNat < 256 ∧ ∀ k : Int, ((x + 128 / 2 ^ (i % 8).toNat) / 2 ^ (7 - k % 8).toNat % 2 == 1) = if k % 8 = i % 8 then true else (x / 2 ^ (7 - k % 8).toNat % 2 == 1) := by
  have hh := up_fin ⟨x.toNat, by omega⟩ ⟨(i % 8).toNat, by omega⟩
  simp only [show ((x.toNat : Nat) : Int) = x by omega, show 7 - (i % 8).toNat = (7 - i % 8).toNat by omega] at hh
  obtain ⟨h1, h2⟩ := hh h
  refine ⟨h1, fun k => ?_⟩
  have h3 := h2 ⟨(k % 8).toNat, by omega⟩
  simp only [Fin.mk.injEq, show 7 - (k % 8).toNat = (7 - k % 8).toNat by omega] at h3
  rw [h3]
  by_cases e : k % 8 = i % 8
  · rw [if_pos (by rw [e]), if_pos e]
  · rw [if_neg (by omega), if_neg e]
theorem down_byte (x i : Int) (hx : 0 ≤ x ∧ x < 256) (h : (x / 2 ^ (7 - i % 8).toNat % 2 == 1) = true) : 0 ≤ x - 128 / 2 ^ (i % 8).toNat ∧ ∀ k : Int, ((x - 128 / 2 ^ (i % 8).toNat) / 2 ^ (7 - k % 8).toNat % 2 == 1) = if k % 8 = i % 8 then false else (x / 2 ^ (7 - k % 8).toNat % 2 == 1) := by
  have hh := down_fin ⟨x.toNat, by omega⟩ ⟨(i % 8).toNat, by omega⟩
  simp only [show ((x.toNat : Nat) : Int) = x by omega, show 7 - (i % 8).toNat = (7 - i % 8).toNat by omega] at hh
  obtain ⟨h1, h2⟩ := hh h
  refine ⟨h1, fun k => ?_⟩
  have h3 := h2 ⟨(k % 8).toNat, by omega⟩
  simp only [Fin.mk.injEq, show 7 - (k % 8).toNat = (7 - k % 8).toNat by omega] at h3
  rw [h3]
  by_cases e : k % 8 = i % 8
  · rw [if_pos (by rw [e]), if_pos e]
  · rw [if_neg (by omega), if_neg e]
theorem sieve_pos (i : Int) : 0 ≤ (128 : Int) / 2 ^ (i % 8).toNat ∧ (128 : Int) / 2 ^ (i % 8).toNat ≤ 128 := by
  have : ∀ j : Fin 8, 0 ≤ (128 : Int) / 2 ^ j.val ∧ (128 : Int) / 2 ^ j.val ≤ 128 := by decide
  exact this ⟨(i % 8).toNat, by omega⟩

theorem bitB_in (L : List Int) (i : Int) (h0 : 0 ≤ i) (h1 : i < 104) : bitB L i = (byteAt L i / 2 ^ (7 - i % 8).toNat % 2 == 1) := by
  unfold bitB; rw [decide_eq_true ⟨h0, h1⟩, Bool.true_and]

theorem setB_bit (L : List Int) (hL : Byt L) (i : Int) (b : Bool) (h0 : 0 ≤ i) (h1 : i < 104) :
    Byt (setB L i b) ∧ ∀ k, 0 ≤ k → k < 104 → bitB (setB L i b) k = if k = i then b else bitB L k := by
  have hlt : (i / 8).toNat < L.length := by rw [hL.1]; omega
  have hx : 0 ≤ byteAt L i ∧ byteAt L i < 256 := hL.2 _
  have hs := sieve_pos i
  by_cases e : bitB L i = b
  · have es : setB L i b = L := by unfold setB; rw [if_pos e]
    rw [es]
    refine ⟨hL, fun k _ _ => ?_⟩
    by_cases ek : k = i
    · rw [if_pos ek, ek, e]
    · rw [if_neg ek]
  · cases b
    · have hbt : (byteAt L i / 2 ^ (7 - i % 8).toNat % 2 == 1) = true := by
        rw [← bitB_in L i h0 h1]; cases h : bitB L i
        · exact absurd h e
        · rfl
      have es : setB L i false = L.set (i / 8).toNat (byteAt L i - 128 / 2 ^ (i % 8).toNat) := by unfold setB; rw [if_neg e]; rfl
      obtain ⟨g1, g2⟩ := down_byte _ i hx hbt
      rw [es]
      refine ⟨⟨by rw [List.length_set]; exact hL.1, fun k => ?_⟩, fun k hk0 hk1 => ?_⟩
      · rw [getD_set _ _ _ _ hlt]; split
        · omega
        · exact hL.2 k
      · rw [bitB_in _ k hk0 hk1, bitB_in _ k hk0 hk1]
        unfold byteAt
        rw [getD_set _ _ _ _ hlt]
        by_cases ek : (i / 8).toNat = (k / 8).toNat
        · rw [if_pos ek]
          have g3 := g2 k
          unfold byteAt at g3
          rw [g3, ek]
          by_cases e2 : k = i
          · rw [if_pos e2, if_pos (by rw [e2])]
          · rw [if_neg e2, if_neg (by omega)]
        · rw [if_neg ek, if_neg (by rintro rfl; exact ek rfl)]
    · have hbt : (byteAt L i / 2 ^ (7 - i % 8).toNat % 2 == 1) = false := by
        rw [← bitB_in L i h0 h1]; cases h : bitB L i
        · rfl
        · exact absurd h e
      have es : setB L i true = L.set (i / 8).toNat (byteAt L i + 128 / 2 ^ (i % 8).toNat) := by unfold setB; rw [if_neg e]; rfl
      obtain ⟨g1, g2⟩ := up_byte _ i hx hbt
      rw [es]
      refine ⟨⟨by rw [List.length_set]; exact hL.1, fun k => ?_⟩, fun k hk0 hk1 => ?_⟩
      · rw [getD_set _ _ _ _ hlt]; split
        · omega
        · exact hL.2 k
      · rw [bitB_in _ k hk0 hk1, bitB_in _ k hk0 hk1]
        unfold byteAt
        rw [getD_set _ _ _ _ hlt]
        by_cases ek : (i / 8).toNat = (k / 8).toNat
        · rw [if_pos ek]
          have g3 := g2 k
          unfold byteAt at g3
          rw [g3, ek]
          by_cases e2 : k = i
          · rw [if_pos e2, if_pos (by rw [e2])]
          · rw [if_neg e2, if_neg (by omega)]
        · rw [if_neg ek, if_neg (by rintro rfl; exact ek rfl)]
end Go.Proofs.Ytdibjhlckjjlfaa
namespace Go.Proofs.Ytdibjhlckjjlfaa
open Go Go.RowKit
set_option maxRecDepth 20000

set_option maxHeartbeats 1000000 in
theorem refPut_same (L : List Int) (hL : Byt L) (i : Int) (b : Bool) (w : World) (he : bitB L i = b) :
    Calls Try.prog 34 #[.agg (hv L), .int .i64 i, .bool b] w fun e w' => e = .returned (.agg (hv L)) ∧ Below w.heap.size w w' := by
  have hl := hL.1
  have cb := refBit_any L hL i
  rw [he] at cb
  have CB : Hid _ := cb
  clear cb he
  go_enter Try.func34, Try.ntmps34
  go_wp2_with (refine wl_load26 rfl _ rfl w.heap.size rfl L (heap_past _ _ _ _ (heap_new _ _ _ rfl)) hl ?_)
  refine (CB.out _).mono ?_
  rintro e w1 ⟨rfl, hb1⟩
  have g1 : w1.heap[w.heap.size]? = some (.cells (hv L) 28 (0, 0)) := by
    rw [hb1.block _ (by simp; omega)]; exact heap_past _ _ _ _ (heap_new _ _ _ rfl)
  have g2 : w1.heap[w.heap.size + 1]? = some (.cells zero26 28 (0, 0)) := by
    rw [hb1.block _ (by simp)]; exact heap_new _ _ _ (by simp)
  have hB1 : Below w.heap.size w w1 := (((Below.refl _ _).alloc (Nat.le_refl _) _).alloc (by simp) _).trans (hb1.mono (by simp; omega))
  clear hb1
  go_wp2_with (first
    | (refine wl_load26 rfl _ rfl w.heap.size rfl L g1 hl ?_)
    | (refine wl_store26 rfl _ _ rfl (w.heap.size + 1) L rfl rfl _ g2 rfl hl _ rfl ?_))
  refine ret26 (p := 6) rfl rfl (w.heap.size + 1) rfl L hl (setRow_heap _ _ _ _ _ _ g2) ⟨rfl, ?_⟩
  exact below_setRow hB1 (by omega) _

set_option maxHeartbeats 1000000 in
theorem refPut_up (L : List Int) (hL : Byt L) (i : Int) (w : World) (h0 : 0 ≤ i) (h1 : i < 104) (he : bitB L i = false) :
    Calls Try.prog 34 #[.agg (hv L), .int .i64 i, .bool true] w fun e w' => e = .returned (.agg (hv (setB L i true))) ∧ Below w.heap.size w w' := by
  have hl := hL.1
  obtain ⟨x, hx, hxe⟩ : ∃ x, (hv L)[(i / 8).toNat]? = some (.int .u8 x) ∧ x = byteAt L i := ⟨_, hv_at L hL.1 _ (by omega), rfl⟩
  have hb : 0 ≤ x ∧ x < 256 := by rw [hxe]; exact hL.2 _
  obtain ⟨hb0, hb1⟩ := hb
  have hs := sieve_pos i
  have hup : x + 128 / 2 ^ (i % 8).toNat < 256 := by
    rw [hxe]; exact (up_byte (byteAt L i) i (hL.2 _) (by rw [← bitB_in L i h0 h1]; exact he)).1
  have HX : Hid (x = byteAt L i) := hxe
  have HE : Hid (bitB L i = false) := he
  have cb := refBit_any L hL i
  rw [he] at cb
  have CB : Hid _ := cb
  clear cb he hxe
  go_enter Try.func34, Try.ntmps34
  go_wp2_with (refine wl_load26 rfl _ rfl w.heap.size rfl L (heap_past _ _ _ _ (heap_new _ _ _ rfl)) hl ?_)
  refine (CB.out _).mono ?_
  rintro e w1 ⟨rfl, hb1⟩
  have g1 : w1.heap[w.heap.size]? = some (.cells (hv L) 28 (0, 0)) := by
    rw [hb1.block _ (by simp; omega)]; exact heap_past _ _ _ _ (heap_new _ _ _ rfl)
  have g2 : w1.heap[w.heap.size + 1]? = some (.cells zero26 28 (0, 0)) := by
    rw [hb1.block _ (by simp)]; exact heap_new _ _ _ (by simp)
  have hB1 : Below w.heap.size w w1 := (((Below.refl _ _).alloc (Nat.le_refl _) _).alloc (by simp) _).trans (hb1.mono (by simp; omega))
  have hc1 : w1.cell? ⟨w.heap.size, (i / 8).toNat, none⟩ = some (.int .u8 x) := by rw [cell_of_row w1 _ _ _ _ _ g1]; exact hx
  have hf1 : w1.frozen? ⟨w.heap.size, (i / 8).toNat, none⟩ = false := frozen_of_row w1 _ _ _ _ g1
  clear hb1
  go_wp2_with fail
  refine wp_region_tail 11 (by kernel_rfl) (by kernel_rfl) ?_
  simp only [List.take_succ_cons, List.take_zero, List.drop_succ_cons, List.drop_zero]
  repeat go_big_quiet_step (fail)
  refine wpQuiet_nil ?_
  have gS : ((w1.setCell ⟨w.heap.size, (i / 8).toNat, none⟩ (.int .u8 (x + 128 / 2 ^ (i % 8).toNat))).drew).heap[w.heap.size]? = some (.cells (hv (L.set (i / 8).toNat (x + 128 / 2 ^ (i % 8).toNat))) 28 (0, 0)) := by
    rw [← hv_set]; exact heap_setCell_same w1 _ _ _ _ _ g1
  have gO : ((w1.setCell ⟨w.heap.size, (i / 8).toNat, none⟩ (.int .u8 (x + 128 / 2 ^ (i % 8).toNat))).drew).heap[w.heap.size + 1]? = some (.cells zero26 28 (0, 0)) := by
    have := heap_setCell_other w1 ⟨w.heap.size, (i / 8).toNat, none⟩ (w.heap.size + 1) (.int .u8 (x + 128 / 2 ^ (i % 8).toNat)) (by simp)
    exact this.trans g2
  have hl2 : (L.set (i / 8).toNat (x + 128 / 2 ^ (i % 8).toNat)).length = 13 := by rw [List.length_set]; exact hl
  go_wp2_with (first
    | (refine wl_load26 rfl _ rfl w.heap.size rfl (L.set (i / 8).toNat (x + 128 / 2 ^ (i % 8).toNat)) gS hl2 ?_)
    | (refine wl_store26 rfl _ _ rfl (w.heap.size + 1) (L.set (i / 8).toNat (x + 128 / 2 ^ (i % 8).toNat)) rfl rfl _ gO rfl hl2 _ rfl ?_))
  refine ret26 (p := 6) rfl rfl (w.heap.size + 1) rfl (L.set (i / 8).toNat (x + 128 / 2 ^ (i % 8).toNat)) hl2 (setRow_heap _ _ _ _ _ _ gO) ⟨?_, ?_⟩
  · unfold setB; rw [if_neg (by rw [HE.out]; decide), if_pos rfl, HX.out]
  · exact below_setRow (hB1.setCell (Nat.le_refl _) _).drew (by omega) _

set_option maxHeartbeats 1000000 in
theorem refPut_down (L : List Int) (hL : Byt L) (i : Int) (w : World) (h0 : 0 ≤ i) (h1 : i < 104) (he : bitB L i = true) :
    Calls Try.prog 34 #[.agg (hv L), .int .i64 i, .bool false] w fun e w' => e = .returned (.agg (hv (setB L i false))) ∧ Below w.heap.size w w' := by
  have hl := hL.1
  obtain ⟨x, hx, hxe⟩ : ∃ x, (hv L)[(i / 8).toNat]? = some (.int .u8 x) ∧ x = byteAt L i := ⟨_, hv_at L hL.1 _ (by omega), rfl⟩
  have hb : 0 ≤ x ∧ x < 256 := by rw [hxe]; exact hL.2 _
  obtain ⟨hb0, hb1⟩ := hb
  have hs := sieve_pos i
  have hdn : 0 ≤ x - 128 / 2 ^ (i % 8).toNat := by
    rw [hxe]; exact (down_byte (byteAt L i) i (hL.2 _) (by rw [← bitB_in L i h0 h1]; exact he)).1
  have HX : Hid (x = byteAt L i) := hxe
  have HE : Hid (bitB L i = true) := he
  have cb := refBit_any L hL i
  rw [he] at cb
  have CB : Hid _ := cb
  clear cb he hxe
  go_enter Try.func34, Try.ntmps34
  go_wp2_with (refine wl_load26 rfl _ rfl w.heap.size rfl L (heap_past _ _ _ _ (heap_new _ _ _ rfl)) hl ?_)
  refine (CB.out _).mono ?_
  rintro e w1 ⟨rfl, hb1⟩
  have g1 : w1.heap[w.heap.size]? = some (.cells (hv L) 28 (0, 0)) := by
    rw [hb1.block _ (by simp; omega)]; exact heap_past _ _ _ _ (heap_new _ _ _ rfl)
  have g2 : w1.heap[w.heap.size + 1]? = some (.cells zero26 28 (0, 0)) := by
    rw [hb1.block _ (by simp)]; exact heap_new _ _ _ (by simp)
  have hB1 : Below w.heap.size w w1 := (((Below.refl _ _).alloc (Nat.le_refl _) _).alloc (by simp) _).trans (hb1.mono (by simp; omega))
  have hc1 : w1.cell? ⟨w.heap.size, (i / 8).toNat, none⟩ = some (.int .u8 x) := by rw [cell_of_row w1 _ _ _ _ _ g1]; exact hx
  have hf1 : w1.frozen? ⟨w.heap.size, (i / 8).toNat, none⟩ = false := frozen_of_row w1 _ _ _ _ g1
  clear hb1
  go_wp2_with fail
  refine wp_region_tail 11 (by kernel_rfl) (by kernel_rfl) ?_
  simp only [List.take_succ_cons, List.take_zero, List.drop_succ_cons, List.drop_zero]
  repeat go_big_quiet_step (fail)
  refine wpQuiet_nil ?_
  have gS : ((w1.setCell ⟨w.heap.size, (i / 8).toNat, none⟩ (.int .u8 (x - 128 / 2 ^ (i % 8).toNat))).drew).heap[w.heap.size]? = some (.cells (hv (L.set (i / 8).toNat (x - 128 / 2 ^ (i % 8).toNat))) 28 (0, 0)) := by
    rw [← hv_set]; exact heap_setCell_same w1 _ _ _ _ _ g1
  have gO : ((w1.setCell ⟨w.heap.size, (i / 8).toNat, none⟩ (.int .u8 (x - 128 / 2 ^ (i % 8).toNat))).drew).heap[w.heap.size + 1]? = some (.cells zero26 28 (0, 0)) := by
    have := heap_setCell_other w1 ⟨w.heap.size, (i / 8).toNat, none⟩ (w.heap.size + 1) (.int .u8 (x - 128 / 2 ^ (i % 8).toNat)) (by simp)
    exact this.trans g2
  have hl2 : (L.set (i / 8).toNat (x - 128 / 2 ^ (i % 8).toNat)).length = 13 := by rw [List.length_set]; exact hl
  go_wp2_with (first
    | (refine wl_load26 rfl _ rfl w.heap.size rfl (L.set (i / 8).toNat (x - 128 / 2 ^ (i % 8).toNat)) gS hl2 ?_)
    | (refine wl_store26 rfl _ _ rfl (w.heap.size + 1) (L.set (i / 8).toNat (x - 128 / 2 ^ (i % 8).toNat)) rfl rfl _ gO rfl hl2 _ rfl ?_))
  refine ret26 (p := 6) rfl rfl (w.heap.size + 1) rfl (L.set (i / 8).toNat (x - 128 / 2 ^ (i % 8).toNat)) hl2 (setRow_heap _ _ _ _ _ _ gO) ⟨?_, ?_⟩
  · unfold setB; rw [if_neg (by rw [HE.out]; decide), if_neg (by decide), HX.out]
  · exact below_setRow (hB1.setCell (Nat.le_refl _) _).drew (by omega) _

theorem refPut_any (L : List Int) (hL : Byt L) (i : Int) (b : Bool) (w : World) (h0 : 0 ≤ i) (h1 : i < 104) :
    Calls Try.prog 34 #[.agg (hv L), .int .i64 i, .bool b] w fun e w' => e = .returned (.agg (hv (setB L i b))) ∧ Below w.heap.size w w' := by
  by_cases e : bitB L i = b
  · have es : setB L i b = L := by unfold setB; rw [if_pos e]
    rw [es]; exact refPut_same L hL i b w e
  · cases b
    · exact refPut_down L hL i w h0 h1 (by simpa using e)
    · exact refPut_up L hL i w h0 h1 (by simpa using e)
end Go.Proofs.Ytdibjhlckjjlfaa
