import Derived.Test.YtnbklmmampdbfaaGreatDoorProg
import Derived.WalkKit
import Derived.WalkSpells
import Derived.WalkLawsBesides
import Derived.BigQuiet
import Derived.KernelRfl
import Derived.Laws.StructEq
import Derived.Laws.Tables
import Derived.Laws.Rows
import Derived.StillTailTactics
import Derived.StillTail
import Derived.Great.BuildSlice
import Derived.Laws.AppendOwn
import Derived.Laws.OwnMore
import Derived.Maps.AppendAt
import Derived.Lib.Bytealg
import Derived.Lib.UnsafeStr
import Derived.Lib.BufferWrite
import Derived.Laws.MakeOwn
import Derived.OwnWalk
import Derived.OrdersHeld
import Derived.Laws.CopyRow
namespace Go.Proofs.YtnbklmmampdbfaaGreatDoor
open Go Go.RowKit
set_option maxRecDepth 20000

theorem ret_bool {a b : Bool} (h : a = b) : Ending.returned (.bool a) = .returned (.bool b) := by rw [h]
theorem ret_int {k : IntKind} {a b : Int} (h : a = b) : Ending.returned (.int k a) = .returned (.int k b) := by rw [h]

def hv (L : List Int) : Array Value := (L.map (Value.int .u8)).toArray
def Byt (L : List Int) : Prop := L.length = 13 ∧ ∀ k, 0 ≤ L.getD k 0 ∧ L.getD k 0 < 256

theorem hv_size (L : List Int) : (hv L).size = L.length := by simp [hv]
theorem hv_at (L : List Int) (hL : L.length = 13) (k : Nat) (hk : k < 13) : (hv L)[k]? = some (.int .u8 (L.getD k 0)) := by
  unfold hv
  simp [List.getElem?_map, List.getElem?_eq_getElem (show k < L.length by omega), List.getD]
theorem hv_one (L : List Int) : (hv L).all (·.oneCell') = true := by
  simp [hv, Value.oneCell']
theorem hv_inj {L M : List Int} (h : hv L = hv M) : L = M := by
  have h' : L.map (Value.int .u8) = M.map (Value.int .u8) := by simpa [hv] using h
  exact (List.map_inj_right (fun a b e => by simpa using e)).1 h'

theorem part5 (L : List Int) (hL : L.length = 13) (k : Nat) (hk : k < 13) (w : World) : (part 5 (hv L) k).run Tryz.prog w = .ok (.int .u8 (L.getD k 0)) w := by
  have u5 := Tryz.underlying5
  have hx := hv_at L hL k hk
  have hz : ∀ w, (sizeOf 5).run Tryz.prog w = .ok 1 w := fun w => by kernel_rfl
  have ha : ∀ w, (isAgg 5).run Tryz.prog w = .ok false w := fun w => by kernel_rfl
  simp [part, ha, hx, Sem.run_bind]

theorem loop26 (L M : List Int) (hL : L.length = 13) (hM : M.length = 13) (w : World) (k : Option Bool × Unit → World → Result Bool) (k1 : k (some false, ()) w = .ok false w) (k2 : k (none, ()) w = .ok true w) : ∀ (is : List Nat), (∀ i ∈ is, i < 13) →
    ((forIn is ((none, ()) : Option Bool × Unit) fun i (_ : Option Bool × Unit) => (do
            if !(← Op.equalIn 9999 5 (← part 5 (hv L) (i * 1)) (← part 5 (hv M) (i * 1))) then pure (ForInStep.done (some false, ())) else pure (ForInStep.yield (none, ())) : Sem (ForInStep (Option Bool × Unit)))).run Tryz.prog w).andThen k = .ok (is.all fun i => L.getD i 0 == M.getD i 0) w := by
  intro is
  induction is with
  | nil => intro _; simpa using k2
  | cons i is ih =>
    intro h
    have hi := h i (by simp)
    have ih' := ih (fun j hj => h j (by simp [hj]))
    have e : (Op.equalIn 9999 5 (.int .u8 (L.getD i 0)) (.int .u8 (M.getD i 0))).run Tryz.prog w = .ok (L.getD i 0 == M.getD i 0) w := run_equalIn_int w 9998 5 .u8 .u8 _ _ Tryz.underlying5
    simp only [List.forIn_cons, Sem.run_bind, Nat.mul_one, part5 L hL i hi, part5 M hM i hi, Result.andThen_ok, e]
    by_cases hc : (L.getD i 0 == M.getD i 0) = true
    · simp only [hc, Bool.not_true, Bool.false_eq_true, if_false, Sem.run_pure, Result.andThen_ok, List.all_cons, Bool.true_and]
      simpa only [Sem.run_bind, Nat.mul_one] using ih'
    · have hc' : (L.getD i 0 == M.getD i 0) = false := by simpa using hc
      simp only [hc', Bool.not_false, if_true, Sem.run_pure, Result.andThen_ok, List.all_cons, Bool.false_and]
      exact k1

theorem loopN (d : Nat) (L M : List Int) (hL : L.length = 13) (hM : M.length = 13) (w : World) (k : Option Bool × Unit → World → Result Bool) (k1 : k (some false, ()) w = .ok false w) (k2 : k (none, ()) w = .ok true w) : ∀ (is : List Nat), (∀ i ∈ is, i < 13) →
    ((forIn is ((none, ()) : Option Bool × Unit) fun i (_ : Option Bool × Unit) => (do
            if !(← Op.equalIn (d + 1) 5 (← part 5 (hv L) (i * 1)) (← part 5 (hv M) (i * 1))) then pure (ForInStep.done (some false, ())) else pure (ForInStep.yield (none, ())) : Sem (ForInStep (Option Bool × Unit)))).run Tryz.prog w).andThen k = .ok (is.all fun i => L.getD i 0 == M.getD i 0) w := by
  intro is
  induction is with
  | nil => intro _; simpa using k2
  | cons i is ih =>
    intro h
    have hi := h i (by simp)
    have ih' := ih (fun j hj => h j (by simp [hj]))
    have e : (Op.equalIn (d + 1) 5 (.int .u8 (L.getD i 0)) (.int .u8 (M.getD i 0))).run Tryz.prog w = .ok (L.getD i 0 == M.getD i 0) w := run_equalIn_int w d 5 .u8 .u8 _ _ Tryz.underlying5
    simp only [List.forIn_cons, Sem.run_bind, Nat.mul_one, part5 L hL i hi, part5 M hM i hi, Result.andThen_ok, e]
    by_cases hc : (L.getD i 0 == M.getD i 0) = true
    · simp only [hc, Bool.not_true, Bool.false_eq_true, if_false, Sem.run_pure, Result.andThen_ok, List.all_cons, Bool.true_and]
      simpa only [Sem.run_bind, Nat.mul_one] using ih'
    · have hc' : (L.getD i 0 == M.getD i 0) = false := by simpa using hc
      simp only [hc', Bool.not_false, if_true, Sem.run_pure, Result.andThen_ok, List.all_cons, Bool.false_and]
      exact k1

theorem all_eq (L M : List Int) (hL : L.length = 13) (hM : M.length = 13) : ((List.range' 0 13).all fun i => L.getD i 0 == M.getD i 0) = (L == M) := by
  rw [Bool.eq_iff_iff]
  simp only [List.all_eq_true, List.mem_range'_1, beq_iff_eq]
  constructor
  · intro h
    apply List.ext_getElem (by omega)
    intro k h1 h2
    have := h k ⟨by omega, by omega⟩
    simpa [List.getD, h1, h2] using this
  · rintro rfl k _; rfl

theorem eq26 (L M : List Int) (hL : L.length = 13) (hM : M.length = 13) (w : World) :
    (Op.equalIn 10000 31 (.agg (hv L)) (.agg (hv M))).run Tryz.prog w = .ok (L == M) w := by
  have z5 : (sizeOf 5).run Tryz.prog w = .ok 1 w := by kernel_rfl
  rw [show (10000 : Nat) = 9999 + 1 from rfl, Op.equalIn]
  simp only [Sem.run_bind, run_underlying Tryz.underlying31, Result.andThen_ok, z5]
  simp only [Std.Legacy.Range.forIn_eq_forIn_range', Std.Legacy.Range.size, Nat.sub_zero, Nat.add_sub_cancel, Nat.div_one]
  rw [← all_eq L M hL hM]
  exact loop26 L M hL hM w _ rfl rfl (List.range' 0 13) (fun i hi => by simp at hi; omega)


structure Later (W : World) where
  world : World
  below : Below W.heap.size W world

theorem Later.ne (W : World) : Nonempty (Later W) := ⟨⟨W, Below.refl _ _⟩⟩

theorem wp_region_later {P : Program} {id : Nat} {Q : Exit → Act → World → Prop} {a : Act} {w : World} {l : List Oper} (hm : P.follows .mixedOrders = true) (hB : Region.lexB .any l.toArray = true)
    (h : wpQuiet P l.toArray (fun w' => ∃ u : Later w, w' = u.world) (fun a' => ∀ w', (∃ u : Later w, w' = u.world) → Q .normal a' w') l a) : (Code.region id l.toArray true).wp P Q a w :=
  wp_region_quiet (C := fun w' => ∃ u : Later w, w' = u.world) hm hB ⟨⟨w.drew, (Below.refl _ _).drew⟩, rfl⟩ (by simpa using h)

theorem Calls.later_of {P : Program} {f : FuncId} {args : Array Value} {W : World} {u : Later W} {v : Value}
    (h : Calls P f args u.world fun e w' => e = .returned v ∧ Below u.world.heap.size u.world w') : Calls P f args u.world fun e w'' => e = .returned v ∧ ∃ u' : Later W, w'' = u'.world :=
  h.mono fun _ w1 ⟨he, hb⟩ => ⟨he, ⟨w1, u.below.trans (hb.mono u.below.size)⟩, rfl⟩

theorem q_load_row {P : Program} {ops : Array Oper} {C : World → Prop} {Q : Act → Prop} {rest : List Oper} {o : Oper} {a : Act} (hw : Region.wanted o (yielded ops a.tmps) = true) (ty : TypeId) (x : Operand) (ho : o.op = .load ty x)
    (g : Nat) (hx : a.eval x = .pointer (some ⟨g, 0, none⟩)) (t : TypeId) (cs : Array Value) (fr : Nat × Nat) (d : TypeDesc) (hg : ∀ w', C w' → w'.heap[g]? = some (.cells cs t fr))
    (hu : P.underlying ty = some d) (hd : (match d with | .struct _ | .array _ _ => true | _ => false) = true) (hi : (P.info? ty).map (·.size) = some cs.size)
    (h : wpQuiet P ops C Q rest (a.put o.dst (.agg cs))) : wpQuiet P ops C Q (o :: rest) a := by
  refine BigFrame.wpQuiet_want hw fun K hK => ⟨.agg cs, fun w hC => ?_, hK _ h⟩
  unfold Oper.quietAt execOp
  simp only [ho, hx, Instr.loadAt, Instr.sureAddr, Sem.run_bind, Sem.run_pure, Result.andThen_ok, run_loadVar_row w g t ty cs fr d (hg w hC) hu hd hi]
  exact ⟨rfl, rfl⟩

theorem later_block {W : World} {g : Nat} {o : Obj} (h : W.heap[g]? = some o) : ∀ w', (∃ u : Later W, w' = u.world) → w'.heap[g]? = some o := by
  rintro w' ⟨u, rfl⟩
  have hlt : g < W.heap.size := by
    rcases Array.getElem?_eq_some_iff.1 h with ⟨hl, _⟩
    exact hl
  rw [u.below.block g hlt, h]


theorem size26 (L : List Int) (hL : L.length = 13) : (Tryz.prog.info? 31).map (·.size) = some (hv L).size := by
  rw [hv_size, hL]; kernel_rfl

/-- A whole header is read out of its block. -/
theorem wl_load26 {ops : Array Oper} {rest : List Oper} {o : Oper} {a : Act} {w : World} {Q : Exit → Act → World → Prop} (hgd : o.guard = none) (x : Operand) (ho : o.op = .load 31 x)
    (g : Nat) (hx : a.eval x = .pointer (some ⟨g, 0, none⟩)) (L : List Int) (hg : w.heap[g]? = some (.cells (hv L) 31 (0, 0))) (hL : L.length = 13)
    (h : wpList Tryz.prog ops Q rest (a.put o.dst (.agg (hv L))) w) : wpList Tryz.prog ops Q (o :: rest) a w :=
  wpList_load_row hgd 31 x ho g hx 31 (hv L) (0, 0) _ hg Tryz.underlying31 rfl (size26 L hL) h

/-- A whole header is stored into a block that holds one. -/
theorem wl_store26 {ops : Array Oper} {rest : List Oper} {o : Oper} {a : Act} {w : World} {Q : Exit → Act → World → Prop} (hgd : o.guard = none) (x y : Operand) (ho : o.op = .store 31 x y)
    (g : Nat) (L : List Int) (hx : a.eval x = .pointer (some ⟨g, 0, none⟩)) (hy : a.eval y = .agg (hv L)) (old : Array Value) (hg : w.heap[g]? = some (.cells old 31 (0, 0))) (hold : old.size = 13) (hL : L.length = 13)
    (w' : World) (hw' : w.setRow g (hv L) = w')
    (h : wpList Tryz.prog ops Q rest (a.put o.dst undef) w') : wpList Tryz.prog ops Q (o :: rest) a w :=
  wpList_store_row hgd 31 x y ho g (hv L) hx hy 31 old hg (size26 L hL) (by rw [hv_size, hold, hL]) (hv_one L) (by rw [hw']; exact h)

theorem setRow_new (w : World) (old cs : Array Value) (t : TypeId) (g : Nat) (hg : g = w.heap.size) : (w.alloc (.cells old t)).setRow g cs = w.alloc (.cells cs t) := by
  subst hg
  simp only [World.setRow, World.alloc]
  congr 1
  apply Array.ext
  · simp
  · intro k h1 h2
    simp only [Array.getElem_modify, Array.getElem_push]
    by_cases hk : k < w.heap.size
    · simp [hk, show ¬ w.heap.size = k by omega]
    · have : w.heap.size = k := by simp at h2; omega
      simp [this]

theorem setRow_past (w : World) (o : Obj) (cs : Array Value) (g : Nat) (hg : g < w.heap.size) : (w.alloc o).setRow g cs = (w.setRow g cs).alloc o := by
  simp only [World.setRow, World.alloc]
  congr 1
  apply Array.ext
  · simp
  · intro k h1 h2
    simp only [Array.getElem_modify, Array.getElem_push, Array.size_modify]
    by_cases hk : k < w.heap.size
    · simp [hk]
    · simp [hk, show ¬ g = k by omega]

theorem setRow_drew (w : World) (g : Nat) (cs : Array Value) : w.drew.setRow g cs = (w.setRow g cs).drew := rfl
theorem setRow_drewN (w : World) (g n : Nat) (cs : Array Value) : (w.drewN n).setRow g cs = (w.setRow g cs).drewN n := rfl

theorem below_setRow {B : Nat} {a w : World} (h : Below B a w) {g : Nat} (hg : B ≤ g) (cs : Array Value) : Below B a (w.setRow g cs) :=
  ⟨h.os, h.tape, h.output, by simpa using h.size, fun k hk => (setRow_other w g k cs (by omega)).trans (h.block k hk)⟩

/-- The end of a function whose one result is a header in memory. -/
theorem ret26 {fn : Func} {R : Ending → World → Prop} {a : Act} {w : World} {p : Tmp} (hr : fn.results = #[.cell p 31]) (hd : a.defers = []) (g : Nat) (hp : a.tmps.getD p undef = .pointer (some ⟨g, 0, none⟩)) (L : List Int) (hL : L.length = 13)
    (hg : w.heap[g]? = some (.cells (hv L) 31 (0, 0))) (h : R (.returned (.agg (hv L))) w) : bodyPost Tryz.prog fn R .ret a w :=
  bodyPost_ret (v := .agg (hv L)) (results_cell_row hr _ _ g 31 (hv L) (0, 0) _ hp hg Tryz.underlying31 rfl (size26 L hL)) hd h

theorem heap_new (w : World) (o : Obj) (g : Nat) (hg : g = w.heap.size) : (w.alloc o).heap[g]? = some o := by rw [hg]; exact heap_alloc_new w o
theorem heap_past (w : World) (o x : Obj) (g : Nat) (h : w.heap[g]? = some x) : (w.alloc o).heap[g]? = some x := by
  rw [Below.heap_alloc w o g (Array.getElem?_eq_some_iff.1 h).1]; exact h

end Go.Proofs.YtnbklmmampdbfaaGreatDoor
namespace Go.Proofs.YtnbklmmampdbfaaGreatDoor
open Go Go.RowKit
set_option maxRecDepth 20000

theorem isBit_yes (i : Int) (w : World) (h0 : 0 ≤ i) (h1 : i < 104) :
    Calls Tryz.prog 108 #[.int .i64 i] w fun e w' => e = .returned (.bool true) ∧ w' = w := by
  go_enter Tryz.func108, Tryz.ntmps108
  go_wp2
  go_ret
  exact ⟨ret_bool (by simp), rfl⟩
theorem isBit_no (i : Int) (w : World) (h : ¬ (0 ≤ i ∧ i < 104)) :
    Calls Tryz.prog 108 #[.int .i64 i] w fun e w' => e = .returned (.bool false) ∧ w' = w := by
  by_cases h0 : 0 ≤ i
  · have h1 : 104 ≤ i := by omega
    go_enter Tryz.func108, Tryz.ntmps108
    go_wp2
    go_ret
    exact ⟨ret_bool (by simp; omega), rfl⟩
  · go_enter Tryz.func108, Tryz.ntmps108
    go_wp2
    go_ret
    exact ⟨ret_bool (by simp), rfl⟩

theorem sieve_any (i : Int) (w : World) (h0 : 0 ≤ i) (h1 : i < 104) :
    Calls Tryz.prog 109 #[.int .i64 i] w fun e w' => e = .returned (.int .u8 (128 / 2 ^ (i % 8).toNat)) ∧ w' = w := by
  go_enter Tryz.func109, Tryz.ntmps109
  go_wp2
  go_ret
  exact ⟨rfl, rfl⟩

set_option maxRecDepth 100000 in
theorem and_fin : ∀ x : Fin 256, ∀ j : Fin 8, (bits .and .u8 (x.val : Int) (128 / 2 ^ j.val) != 0) = ((x.val : Int) / 2 ^ (7 - j.val) % 2 == 1) := by decide +kernel
set_option maxRecDepth 100000 in
theorem xor_fin : ∀ x : Fin 256, ∀ j : Fin 8, bits .xor .u8 (bits .xor .u8 (x.val : Int) (128 / 2 ^ j.val)) (128 / 2 ^ j.val) = (x.val : Int) ∧ bits .xor .u8 (x.val : Int) (128 / 2 ^ j.val) ≠ (x.val : Int) ∧ 0 ≤ bits .xor .u8 (x.val : Int) (128 / 2 ^ j.val) ∧ bits .xor .u8 (x.val : Int) (128 / 2 ^ j.val) < 256 := by decide +kernel
set_option maxRecDepth 100000 in
theorem turn_fin : ∀ x : Fin 256, ∀ j : Fin 8, ∀ k : Fin 8, (bits .xor .u8 (x.val : Int) (128 / 2 ^ j.val) / 2 ^ (7 - k.val) % 2 == 1) = (((x.val : Int) / 2 ^ (7 - k.val) % 2 == 1) != decide (j = k)) := by decide +kernel

theorem and_bit (x i : Int) (hb0 : 0 ≤ x) (hb1 : x < 256) : (bits .and .u8 x (128 / 2 ^ (i % 8).toNat) != 0) = (x / 2 ^ (7 - i % 8).toNat % 2 == 1) := by
  have h := and_fin ⟨x.toNat, by omega⟩ ⟨(i % 8).toNat, by omega⟩
  simp only [] at h
  rw [show ((x.toNat : Nat) : Int) = x by omega, show 7 - (i % 8).toNat = (7 - i % 8).toNat by omega] at h
  exact h

def byteAt (L : List Int) (i : Int) : Int := L.getD (i / 8).toNat 0
def bitB (L : List Int) (i : Int) : Bool := decide (0 ≤ i ∧ i < 104) && (byteAt L i / 2 ^ (7 - i % 8).toNat % 2 == 1)

set_option maxHeartbeats 400000 in
theorem refBit_any (L : List Int) (hL : Byt L) (i : Int) (w : World) :
    Calls Tryz.prog 89 #[.agg (hv L), .int .i64 i] w fun e w' => e = .returned (.bool (bitB L i)) ∧ Below w.heap.size w w' := by
  by_cases hin : 0 ≤ i ∧ i < 104
  · obtain ⟨h0, h1⟩ := hin
    obtain ⟨x, hx, hxe⟩ : ∃ x, (hv L)[(i / 8).toNat]? = some (.int .u8 x) ∧ x = byteAt L i := ⟨_, hv_at L hL.1 _ (by omega), rfl⟩
    have hb : 0 ≤ x ∧ x < 256 := by rw [hxe]; exact hL.2 _
    obtain ⟨hb0, hb1⟩ := hb
    have HX : Hid (x = byteAt L i) := hxe
    clear hxe
    go_enter Tryz.func89, Tryz.ntmps89
    go_wp2
    go_ret
    refine ⟨ret_bool ?_, (Below.refl _ _).alloc (Nat.le_refl _) _⟩
    rw [Int.tmod_eq_emod_of_nonneg (Int.ediv_nonneg hb0 (Int.pow_nonneg (by decide))), HX.out]
    simp [bitB, h0, h1]
  · by_cases h0 : i < 0
    · go_enter Tryz.func89, Tryz.ntmps89
      go_wp2
      go_ret
      exact ⟨ret_bool (by simp [bitB]; omega), (Below.refl _ _).alloc (Nat.le_refl _) _⟩
    · have h1 : 103 < i := by omega
      have h0' : 0 ≤ i := by omega
      go_enter Tryz.func89, Tryz.ntmps89
      go_wp2
      go_ret
      exact ⟨ret_bool (by simp [bitB]; omega), (Below.refl _ _).alloc (Nat.le_refl _) _⟩

set_option maxHeartbeats 400000 in
theorem bit_any (L : List Int) (hL : Byt L) (i : Int) (w : World) :
    Calls Tryz.prog 85 #[.agg (hv L), .int .i64 i] w fun e w' => e = .returned (.bool (bitB L i)) ∧ Below w.heap.size w w' := by
  by_cases hin : 0 ≤ i ∧ i < 104
  · obtain ⟨h0, h1⟩ := hin
    obtain ⟨x, hx, hxe⟩ : ∃ x, (hv L)[(i / 8).toNat]? = some (.int .u8 x) ∧ x = byteAt L i := ⟨_, hv_at L hL.1 _ (by omega), rfl⟩
    have hb : 0 ≤ x ∧ x < 256 := by rw [hxe]; exact hL.2 _
    obtain ⟨hb0, hb1⟩ := hb
    have HX : Hid (x = byteAt L i) := hxe
    clear hxe
    go_enter Tryz.func85, Tryz.ntmps85
    go_wp2
    go_quiet (first | (go_at_call 108; exact Calls.quiet_of_same (isBit_yes _ _ h0 h1)) | (go_at_call 109; exact Calls.quiet_of_same (sieve_any _ _ h0 h1)))
    go_wp2
    go_ret
    refine ⟨ret_bool ?_, below_drewN ((Below.refl _ _).alloc (Nat.le_refl _) _) _⟩
    rw [and_bit x i hb0 hb1, HX.out]
    simp [bitB, h0, h1]
  · go_enter Tryz.func85, Tryz.ntmps85
    go_wp2
    go_quiet (first | (go_at_call 108; exact Calls.quiet_of_same (isBit_no _ _ hin)))
    go_wp2
    go_ret
    exact ⟨ret_bool (by simp [bitB]; omega), below_drewN ((Below.refl _ _).alloc (Nat.le_refl _) _) _⟩

def flipL (L : List Int) (i : Int) : List Int := if 0 ≤ i ∧ i < 104 then L.set (i / 8).toNat (bits .xor .u8 (byteAt L i) (128 / 2 ^ (i % 8).toNat)) else L


end Go.Proofs.YtnbklmmampdbfaaGreatDoor
namespace Go.Proofs.YtnbklmmampdbfaaGreatDoor
open Go Go.RowKit
set_option maxRecDepth 20000

theorem still_of_quiet {P : Program} {ops : Array Oper} {w : World} {Q : Act → Prop} : ∀ (l : List Oper) (a : Act), wpQuiet P ops (fun w' => w' = w) Q l a → wpStill P ops w Q l a
  | [], _, h => h
  | o :: rest, a, h => by
    unfold wpQuiet at h
    unfold wpStill
    split at h
    · rename_i hw
      rw [if_pos hw]
      obtain ⟨v, h1, h2⟩ := h
      have h2' := still_of_quiet rest _ h2
      have h1' := h1 w rfl
      unfold Oper.quietAt at h1'
      unfold Oper.still
      revert h1'
      generalize (execOp a.eval o).run P w = r
      intro h1'
      match r, h1' with
      | .ok (.value u) w', ⟨e1, e2⟩ => exact ⟨e1, by rw [e2]; exact h2'⟩
      | .ok .skip w', ⟨e1, e2⟩ => exact ⟨e1, by rw [← e2]; exact h2'⟩
      | .ok (.enter f args) w', ⟨e1, e2⟩ => exact ⟨e1, v, e2, h2'⟩
    · rename_i hw
      rw [if_neg hw]
      exact still_of_quiet rest _ h

theorem wp_region_tail {P : Program} {id : Nat} {Q : Exit → Act → World → Prop} {a : Act} {w : World} {l : List Oper} (n : Nat) (hm : P.follows .mixedOrders = true) (hB : Region.lexTailB .any l.toArray n = true)
    (h : wpQuiet P l.toArray (fun w' => w' = w.drew) (fun a' => wpList P l.toArray Q (l.drop n) a' w.drew) (l.take n) a) : (Code.region id l.toArray true).wp P Q a w :=
  wp_region_still_tail n hm hB (still_of_quiet _ _ h)

theorem heap_drew {w : World} {g : Nat} {x : Obj} (h : w.heap[g]? = some x) : w.drew.heap[g]? = some x := h

theorem hv_set (L : List Int) (k : Nat) (v : Int) : (hv L).setIfInBounds k (.int .u8 v) = hv (L.set k v) := by
  unfold hv
  rw [List.setIfInBounds_toArray, ← List.map_set]

set_option maxHeartbeats 400000 in
theorem flip_in (L : List Int) (hL : Byt L) (i : Int) (w : World) (h0 : 0 ≤ i) (h1 : i < 104) :
    Calls Tryz.prog 119 #[.agg (hv L), .int .i64 i] w fun e w' => e = .returned (.agg (hv (flipL L i))) ∧ Below w.heap.size w w' := by
  obtain ⟨x, hx, hxe⟩ : ∃ x, (hv L)[(i / 8).toNat]? = some (.int .u8 x) ∧ x = byteAt L i := ⟨_, hv_at L hL.1 _ (by omega), rfl⟩
  have hb : 0 ≤ x ∧ x < 256 := by rw [hxe]; exact hL.2 _
  obtain ⟨hb0, hb1⟩ := hb
  have HX : Hid (x = byteAt L i) := hxe
  clear hxe
  go_enter Tryz.func119, Tryz.ntmps119
  go_wp2_with (first | (go_at_call 108; refine (isBit_yes _ _ h0 h1).mono ?_; rintro e w' ⟨rfl, rfl⟩))
  refine wp_region_tail 8 (by kernel_rfl) (by kernel_rfl) ?_
  simp only [List.take_succ_cons, List.take_zero, List.drop_succ_cons, List.drop_zero]
  go_big_quiet_step (fail)
  go_big_quiet_step (fail)
  go_big_quiet_step (fail)
  go_big_quiet_step (fail)
  go_big_quiet_step (fail)
  go_big_quiet_want; go_big_quiet_op
  refine ⟨_, sieve_any _ _ h0 h1, ?_⟩
  go_big_quiet_on
  go_big_quiet_step (fail)
  go_big_quiet_step (fail)
  refine wpQuiet_nil ?_
  have hL2 : (L.set (i / 8).toNat (bits .xor .u8 x (128 / 2 ^ (i % 8).toNat))).length = 13 := by rw [List.length_set]; exact hL.1
  go_wp2_with (first
    | (refine wl_load26 rfl _ rfl w.heap.size rfl (L.set (i / 8).toNat (bits .xor .u8 x (128 / 2 ^ (i % 8).toNat))) (heap_drew (by rw [← hv_set]; exact heap_past _ _ _ _ (heap_new _ _ _ rfl))) hL2 ?_)
    | (refine wl_store26 rfl _ _ rfl (w.heap.size + 1) (L.set (i / 8).toNat (bits .xor .u8 x (128 / 2 ^ (i % 8).toNat))) rfl rfl _ (heap_drew (heap_new _ _ _ (by simp))) rfl hL2 _ (by rw [setRow_drew, setRow_new _ _ _ _ _ (by simp)]) ?_))
  refine ret26 (p := 4) rfl rfl (w.heap.size + 1) rfl _ hL2 (heap_drew (heap_new _ _ _ (by simp))) ⟨?_, ?_⟩
  · rw [HX.out]; unfold flipL; rw [if_pos ⟨h0, h1⟩]
  · exact (((Below.refl _ _).alloc (Nat.le_refl _) _).alloc (by simp) _).drew

set_option maxHeartbeats 400000 in
theorem flip_no (L : List Int) (hL : Byt L) (i : Int) (w : World) (hin : ¬ (0 ≤ i ∧ i < 104)) :
    Calls Tryz.prog 119 #[.agg (hv L), .int .i64 i] w fun e w' => e = .returned (.agg (hv (flipL L i))) ∧ Below w.heap.size w w' := by
  have hf : flipL L i = L := by unfold flipL; rw [if_neg hin]
  rw [hf]
  clear hf
  go_enter Tryz.func119, Tryz.ntmps119
  go_wp2_with (first | (go_at_call 108; refine (isBit_no _ _ hin).mono ?_; rintro e w' ⟨rfl, rfl⟩) | (refine wl_load26 rfl _ rfl w.heap.size rfl L (heap_past _ _ _ _ (heap_new _ _ _ rfl)) hL.1 ?_) | (refine wl_store26 rfl _ _ rfl (w.heap.size + 1) L rfl rfl _ (heap_new _ _ _ (by simp)) rfl hL.1 _ (setRow_new _ _ _ _ _ (by simp)) ?_))
  refine ret26 (p := 4) rfl rfl (w.heap.size + 1) rfl L hL.1 (heap_new _ _ _ (by simp)) ⟨rfl, ?_⟩
  exact ((Below.refl _ _).alloc (Nat.le_refl _) _).alloc (by simp) _

theorem flip_any (L : List Int) (hL : Byt L) (i : Int) (w : World) :
    Calls Tryz.prog 119 #[.agg (hv L), .int .i64 i] w fun e w' => e = .returned (.agg (hv (flipL L i))) ∧ Below w.heap.size w w' := by
  by_cases hin : 0 ≤ i ∧ i < 104
  · exact flip_in L hL i w hin.1 hin.2
  · exact flip_no L hL i w hin
end Go.Proofs.YtnbklmmampdbfaaGreatDoor
namespace Go.Proofs.YtnbklmmampdbfaaGreatDoor
open Go Go.RowKit
set_option maxRecDepth 20000

theorem getD_set (L : List Int) (j k : Nat) (v : Int) (hj : j < L.length) : (L.set j v).getD k 0 = if j = k then v else L.getD k 0 := by
  simp only [List.getD, List.getElem?_set]
  by_cases h : j = k
  · subst h; simp [hj]
  · simp [h]

theorem xor_byte (x i : Int) (hx : 0 ≤ x ∧ x < 256) : bits .xor .u8 (bits .xor .u8 x (128 / 2 ^ (i % 8).toNat)) (128 / 2 ^ (i % 8).toNat) = x ∧ bits .xor .u8 x (128 / 2 ^ (i % 8).toNat) ≠ x ∧ 0 ≤ bits .xor .u8 x (128 / 2 ^ (i % 8).toNat) ∧ bits .xor .u8 x (128 / 2 ^ (i % 8).toNat) < 256 := by
  have h := xor_fin ⟨x.toNat, by omega⟩ ⟨(i % 8).toNat, by omega⟩
  simp only [] at h
  rw [show ((x.toNat : Nat) : Int) = x by omega] at h
  exact h
theorem turn_byte (x i k : Int) (hx : 0 ≤ x ∧ x < 256) : (bits .xor .u8 x (128 / 2 ^ (i % 8).toNat) / 2 ^ (7 - k % 8).toNat % 2 == 1) = ((x / 2 ^ (7 - k % 8).toNat % 2 == 1) != decide (i % 8 = k % 8)) := by
  have h := turn_fin ⟨x.toNat, by omega⟩ ⟨(i % 8).toNat, by omega⟩ ⟨(k % 8).toNat, by omega⟩
  simp only [Fin.mk.injEq] at h
  rw [show ((x.toNat : Nat) : Int) = x by omega, show 7 - (k % 8).toNat = (7 - k % 8).toNat by omega] at h
  rw [h]
  congr 1
  rw [decide_eq_decide]
  omega

theorem flip_byt (L : List Int) (hL : Byt L) (i : Int) : Byt (flipL L i) := by
  unfold flipL
  split
  · rename_i h
    refine ⟨by rw [List.length_set]; exact hL.1, fun k => ?_⟩
    rw [getD_set _ _ _ _ (by rw [hL.1]; omega)]
    split
    · exact ⟨(xor_byte (byteAt L i) i (hL.2 _)).2.2.1, (xor_byte (byteAt L i) i (hL.2 _)).2.2.2⟩
    · exact hL.2 k
  · exact hL

theorem flip_flip (L : List Int) (hL : Byt L) (i : Int) : flipL (flipL L i) i = L := by
  by_cases h : 0 ≤ i ∧ i < 104
  · have hlt : (i / 8).toNat < L.length := by rw [hL.1]; omega
    have hb : byteAt (L.set (i / 8).toNat (bits .xor .u8 (byteAt L i) (128 / 2 ^ (i % 8).toNat))) i = bits .xor .u8 (byteAt L i) (128 / 2 ^ (i % 8).toNat) := by
      unfold byteAt; rw [getD_set _ _ _ _ hlt, if_pos rfl]
    unfold flipL
    rw [if_pos h, if_pos h, hb, (xor_byte (byteAt L i) i (hL.2 _)).1, List.set_set]
    apply List.ext_getElem (by simp)
    intro k h1 h2
    rw [List.getElem_set]
    split
    · rename_i e; subst e
      simp [byteAt, List.getD, hlt]
    · rfl
  · unfold flipL; rw [if_neg h, if_neg h]

theorem flip_ne (L : List Int) (hL : Byt L) (i : Int) : decide (0 ≤ i ∧ i < 104) = (flipL L i != L) := by
  by_cases h : 0 ≤ i ∧ i < 104
  · have hlt : (i / 8).toNat < L.length := by rw [hL.1]; omega
    have hne : flipL L i ≠ L := by
      intro e
      have h1 : byteAt (flipL L i) i = byteAt L i := by rw [e]
      unfold flipL at h1
      rw [if_pos h] at h1
      have hb : byteAt (L.set (i / 8).toNat (bits .xor .u8 (byteAt L i) (128 / 2 ^ (i % 8).toNat))) i = bits .xor .u8 (byteAt L i) (128 / 2 ^ (i % 8).toNat) := by
        unfold byteAt; rw [getD_set _ _ _ _ hlt, if_pos rfl]
      rw [hb] at h1
      exact (xor_byte (byteAt L i) i (hL.2 _)).2.1 h1
    rw [decide_eq_true h]
    simp [hne]
  · unfold flipL; rw [if_neg h, decide_eq_false h]; simp

theorem flip_bit (L : List Int) (hL : Byt L) (i k : Int) : bitB (flipL L i) k = (bitB L k != (decide (0 ≤ i ∧ i < 104) && decide (i = k))) := by
  by_cases h : 0 ≤ i ∧ i < 104
  · rw [decide_eq_true h]
    unfold flipL
    rw [if_pos h]
    by_cases hk : 0 ≤ k ∧ k < 104
    · have hlt : (i / 8).toNat < L.length := by rw [hL.1]; omega
      unfold bitB
      rw [decide_eq_true hk]
      simp only [Bool.true_and]
      unfold byteAt
      rw [getD_set _ _ _ _ hlt]
      by_cases e : (i / 8).toNat = (k / 8).toNat
      · rw [if_pos e]
        have := turn_byte (L.getD (i / 8).toNat 0) i k (hL.2 _)
        rw [this, ← e]
        congr 1
        rw [decide_eq_decide]; omega
      · rw [if_neg e, decide_eq_false (show ¬ i = k by rintro rfl; exact e rfl)]
        simp
    · unfold bitB
      rw [decide_eq_false hk, decide_eq_false (show ¬ i = k by rintro rfl; exact hk h)]
      simp
  · unfold flipL; rw [if_neg h, decide_eq_false h]; simp
end Go.Proofs.YtnbklmmampdbfaaGreatDoor
namespace Go.Proofs.YtnbklmmampdbfaaGreatDoor
open Go Go.RowKit
set_option maxRecDepth 20000

abbrev zero26 : Array Value := #[.int .u8 0, .int .u8 0, .int .u8 0, .int .u8 0, .int .u8 0, .int .u8 0, .int .u8 0, .int .u8 0, .int .u8 0, .int .u8 0, .int .u8 0, .int .u8 0, .int .u8 0]

/-- The header with a bit set as the reference sets it. -/
def setB (L : List Int) (i : Int) (b : Bool) : List Int :=
  if bitB L i = b then L else if b then L.set (i / 8).toNat (byteAt L i + 128 / 2 ^ (i % 8).toNat) else L.set (i / 8).toNat (byteAt L i - 128 / 2 ^ (i % 8).toNat)

set_option maxRecDepth 100000 in
theorem up_fin : ∀ x : Fin 256, ∀ j : Fin 8, ((x.val : Int) / 2 ^ (7 - j.val) % 2 == 1) = false → (x.val : Int) + 128 / 2 ^ j.val < 256 ∧ ∀ k : Fin 8, (((x.val : Int) + 128 / 2 ^ j.val) / 2 ^ (7 - k.val) % 2 == 1) = if k = j then true else ((x.val : Int) / 2 ^ (7 - k.val) % 2 == 1) := by decide +kernel
set_option maxRecDepth 100000 in
theorem down_fin : ∀ x : Fin 256, ∀ j : Fin 8, ((x.val : Int) / 2 ^ (7 - j.val) % 2 == 1) = true → 0 ≤ (x.val : Int) - 128 / 2 ^ j.val ∧ ∀ k : Fin 8, (((x.val : Int) - 128 / 2 ^ j.val) / 2 ^ (7 - k.val) % 2 == 1) = if k = j then false else ((x.val : Int) / 2 ^ (7 - k.val) % 2 == 1) := by decide +kernel

theorem up_byte (x i : Int) (hx : 0 ≤ x ∧ x < 256) (h : (x / 2 ^ (7 - i % 8).toNat % 2 == 1) = false) : x + 128 / 2 ^ (i % 8).toNat < 256 ∧ ∀ k : Int, ((x + 128 / 2 ^ (i % 8).toNat) / 2 ^ (7 - k % 8).toNat % 2 == 1) = if k % 8 = i % 8 then true else (x / 2 ^ (7 - k % 8).toNat % 2 == 1) := by
  have hh := up_fin ⟨x.toNat, by omega⟩ ⟨(i % 8).toNat, by omega⟩
  simp only [show ((x.toNat : Nat) : Int) = x by omega, show 7 - (i % 8).toNat = (7 - i % 8).toNat by omega] at hh
  obtain ⟨h1, h2⟩ := hh h
  refine ⟨h1, fun k => ?_⟩
  have h3 := h2 ⟨(k % 8).toNat, by omega⟩
  simp only [Fin.mk.injEq, show 7 - (k % 8).toNat = (7 - k % 8).toNat by omega] at h3
  rw [h3]
  by_cases e : k % 8 = i % 8
  · rw [if_pos (by rw [e]), if_pos e]
  · rw [if_neg (by omega), if_neg e]
theorem down_byte (x i : Int) (hx : 0 ≤ x ∧ x < 256) (h : (x / 2 ^ (7 - i % 8).toNat % 2 == 1) = true) : 0 ≤ x - 128 / 2 ^ (i % 8).toNat ∧ ∀ k : Int, ((x - 128 / 2 ^ (i % 8).toNat) / 2 ^ (7 - k % 8).toNat % 2 == 1) = if k % 8 = i % 8 then false else (x / 2 ^ (7 - k % 8).toNat % 2 == 1) := by
  have hh := down_fin ⟨x.toNat, by omega⟩ ⟨(i % 8).toNat, by omega⟩
  simp only [show ((x.toNat : Nat) : Int) = x by omega, show 7 - (i % 8).toNat = (7 - i % 8).toNat by omega] at hh
  obtain ⟨h1, h2⟩ := hh h
  refine ⟨h1, fun k => ?_⟩
  have h3 := h2 ⟨(k % 8).toNat, by omega⟩
  simp only [Fin.mk.injEq, show 7 - (k % 8).toNat = (7 - k % 8).toNat by omega] at h3
  rw [h3]
  by_cases e : k % 8 = i % 8
  · rw [if_pos (by rw [e]), if_pos e]
  · rw [if_neg (by omega), if_neg e]
theorem sieve_pos (i : Int) : 0 ≤ (128 : Int) / 2 ^ (i % 8).toNat ∧ (128 : Int) / 2 ^ (i % 8).toNat ≤ 128 := by
  have : ∀ j : Fin 8, 0 ≤ (128 : Int) / 2 ^ j.val ∧ (128 : Int) / 2 ^ j.val ≤ 128 := by decide
  exact this ⟨(i % 8).toNat, by omega⟩

theorem bitB_in (L : List Int) (i : Int) (h0 : 0 ≤ i) (h1 : i < 104) : bitB L i = (byteAt L i / 2 ^ (7 - i % 8).toNat % 2 == 1) := by
  unfold bitB; rw [decide_eq_true ⟨h0, h1⟩, Bool.true_and]

theorem setB_bit (L : List Int) (hL : Byt L) (i : Int) (b : Bool) (h0 : 0 ≤ i) (h1 : i < 104) :
    Byt (setB L i b) ∧ ∀ k, 0 ≤ k → k < 104 → bitB (setB L i b) k = if k = i then b else bitB L k := by
  have hlt : (i / 8).toNat < L.length := by rw [hL.1]; omega
  have hx : 0 ≤ byteAt L i ∧ byteAt L i < 256 := hL.2 _
  have hs := sieve_pos i
  by_cases e : bitB L i = b
  · have es : setB L i b = L := by unfold setB; rw [if_pos e]
    rw [es]
    refine ⟨hL, fun k _ _ => ?_⟩
    by_cases ek : k = i
    · rw [if_pos ek, ek, e]
    · rw [if_neg ek]
  · cases b
    · have hbt : (byteAt L i / 2 ^ (7 - i % 8).toNat % 2 == 1) = true := by
        rw [← bitB_in L i h0 h1]; cases h : bitB L i
        · exact absurd h e
        · rfl
      have es : setB L i false = L.set (i / 8).toNat (byteAt L i - 128 / 2 ^ (i % 8).toNat) := by unfold setB; rw [if_neg e]; rfl
      obtain ⟨g1, g2⟩ := down_byte _ i hx hbt
      rw [es]
      refine ⟨⟨by rw [List.length_set]; exact hL.1, fun k => ?_⟩, fun k hk0 hk1 => ?_⟩
      · rw [getD_set _ _ _ _ hlt]; split
        · omega
        · exact hL.2 k
      · rw [bitB_in _ k hk0 hk1, bitB_in _ k hk0 hk1]
        unfold byteAt
        rw [getD_set _ _ _ _ hlt]
        by_cases ek : (i / 8).toNat = (k / 8).toNat
        · rw [if_pos ek]
          have g3 := g2 k
          unfold byteAt at g3
          rw [g3, ek]
          by_cases e2 : k = i
          · rw [if_pos e2, if_pos (by rw [e2])]
          · rw [if_neg e2, if_neg (by omega)]
        · rw [if_neg ek, if_neg (by rintro rfl; exact ek rfl)]
    · have hbt : (byteAt L i / 2 ^ (7 - i % 8).toNat % 2 == 1) = false := by
        rw [← bitB_in L i h0 h1]; cases h : bitB L i
        · rfl
        · exact absurd h e
      have es : setB L i true = L.set (i / 8).toNat (byteAt L i + 128 / 2 ^ (i % 8).toNat) := by unfold setB; rw [if_neg e]; rfl
      obtain ⟨g1, g2⟩ := up_byte _ i hx hbt
      rw [es]
      refine ⟨⟨by rw [List.length_set]; exact hL.1, fun k => ?_⟩, fun k hk0 hk1 => ?_⟩
      · rw [getD_set _ _ _ _ hlt]; split
        · omega
        · exact hL.2 k
      · rw [bitB_in _ k hk0 hk1, bitB_in _ k hk0 hk1]
        unfold byteAt
        rw [getD_set _ _ _ _ hlt]
        by_cases ek : (i / 8).toNat = (k / 8).toNat
        · rw [if_pos ek]
          have g3 := g2 k
          unfold byteAt at g3
          rw [g3, ek]
          by_cases e2 : k = i
          · rw [if_pos e2, if_pos (by rw [e2])]
          · rw [if_neg e2, if_neg (by omega)]
        · rw [if_neg ek, if_neg (by rintro rfl; exact ek rfl)]
end Go.Proofs.YtnbklmmampdbfaaGreatDoor
namespace Go.Proofs.YtnbklmmampdbfaaGreatDoor
open Go Go.RowKit
set_option maxRecDepth 20000

set_option maxHeartbeats 1000000 in
theorem refPut_same (L : List Int) (hL : Byt L) (i : Int) (b : Bool) (w : World) (he : bitB L i = b) :
    Calls Tryz.prog 88 #[.agg (hv L), .int .i64 i, .bool b] w fun e w' => e = .returned (.agg (hv L)) ∧ Below w.heap.size w w' := by
  have hl := hL.1
  have cb := refBit_any L hL i
  rw [he] at cb
  have CB : Hid _ := cb
  clear cb he
  go_enter Tryz.func88, Tryz.ntmps88
  go_wp2_with (refine wl_load26 rfl _ rfl w.heap.size rfl L (heap_past _ _ _ _ (heap_new _ _ _ rfl)) hl ?_)
  refine (CB.out _).mono ?_
  rintro e w1 ⟨rfl, hb1⟩
  have g1 : w1.heap[w.heap.size]? = some (.cells (hv L) 31 (0, 0)) := by
    rw [hb1.block _ (by simp; omega)]; exact heap_past _ _ _ _ (heap_new _ _ _ rfl)
  have g2 : w1.heap[w.heap.size + 1]? = some (.cells zero26 31 (0, 0)) := by
    rw [hb1.block _ (by simp)]; exact heap_new _ _ _ (by simp)
  have hB1 : Below w.heap.size w w1 := (((Below.refl _ _).alloc (Nat.le_refl _) _).alloc (by simp) _).trans (hb1.mono (by simp; omega))
  clear hb1
  go_wp2_with (first
    | (refine wl_load26 rfl _ rfl w.heap.size rfl L g1 hl ?_)
    | (refine wl_store26 rfl _ _ rfl (w.heap.size + 1) L rfl rfl _ g2 rfl hl _ rfl ?_))
  refine ret26 (p := 6) rfl rfl (w.heap.size + 1) rfl L hl (setRow_heap _ _ _ _ _ _ g2) ⟨rfl, ?_⟩
  exact below_setRow hB1 (by omega) _

set_option maxHeartbeats 1000000 in
theorem refPut_up (L : List Int) (hL : Byt L) (i : Int) (w : World) (h0 : 0 ≤ i) (h1 : i < 104) (he : bitB L i = false) :
    Calls Tryz.prog 88 #[.agg (hv L), .int .i64 i, .bool true] w fun e w' => e = .returned (.agg (hv (setB L i true))) ∧ Below w.heap.size w w' := by
  have hl := hL.1
  obtain ⟨x, hx, hxe⟩ : ∃ x, (hv L)[(i / 8).toNat]? = some (.int .u8 x) ∧ x = byteAt L i := ⟨_, hv_at L hL.1 _ (by omega), rfl⟩
  have hb : 0 ≤ x ∧ x < 256 := by rw [hxe]; exact hL.2 _
  obtain ⟨hb0, hb1⟩ := hb
  have hs := sieve_pos i
  have hup : x + 128 / 2 ^ (i % 8).toNat < 256 := by
    rw [hxe]; exact (up_byte (byteAt L i) i (hL.2 _) (by rw [← bitB_in L i h0 h1]; exact he)).1
  have HX : Hid (x = byteAt L i) := hxe
  have HE : Hid (bitB L i = false) := he
  have cb := refBit_any L hL i
  rw [he] at cb
  have CB : Hid _ := cb
  clear cb he hxe
  go_enter Tryz.func88, Tryz.ntmps88
  go_wp2_with (refine wl_load26 rfl _ rfl w.heap.size rfl L (heap_past _ _ _ _ (heap_new _ _ _ rfl)) hl ?_)
  refine (CB.out _).mono ?_
  rintro e w1 ⟨rfl, hb1⟩
  have g1 : w1.heap[w.heap.size]? = some (.cells (hv L) 31 (0, 0)) := by
    rw [hb1.block _ (by simp; omega)]; exact heap_past _ _ _ _ (heap_new _ _ _ rfl)
  have g2 : w1.heap[w.heap.size + 1]? = some (.cells zero26 31 (0, 0)) := by
    rw [hb1.block _ (by simp)]; exact heap_new _ _ _ (by simp)
  have hB1 : Below w.heap.size w w1 := (((Below.refl _ _).alloc (Nat.le_refl _) _).alloc (by simp) _).trans (hb1.mono (by simp; omega))
  have hc1 : w1.cell? ⟨w.heap.size, (i / 8).toNat, none⟩ = some (.int .u8 x) := by rw [cell_of_row w1 _ _ _ _ _ g1]; exact hx
  have hf1 : w1.frozen? ⟨w.heap.size, (i / 8).toNat, none⟩ = false := frozen_of_row w1 _ _ _ _ g1
  clear hb1
  go_wp2_with fail
  refine wp_region_tail 11 (by kernel_rfl) (by kernel_rfl) ?_
  simp only [List.take_succ_cons, List.take_zero, List.drop_succ_cons, List.drop_zero]
  repeat go_big_quiet_step (fail)
  refine wpQuiet_nil ?_
  have gS : ((w1.setCell ⟨w.heap.size, (i / 8).toNat, none⟩ (.int .u8 (x + 128 / 2 ^ (i % 8).toNat))).drew).heap[w.heap.size]? = some (.cells (hv (L.set (i / 8).toNat (x + 128 / 2 ^ (i % 8).toNat))) 31 (0, 0)) := by
    rw [← hv_set]; exact heap_setCell_same w1 _ _ _ _ _ g1
  have gO : ((w1.setCell ⟨w.heap.size, (i / 8).toNat, none⟩ (.int .u8 (x + 128 / 2 ^ (i % 8).toNat))).drew).heap[w.heap.size + 1]? = some (.cells zero26 31 (0, 0)) := by
    have := heap_setCell_other w1 ⟨w.heap.size, (i / 8).toNat, none⟩ (w.heap.size + 1) (.int .u8 (x + 128 / 2 ^ (i % 8).toNat)) (by simp)
    exact this.trans g2
  have hl2 : (L.set (i / 8).toNat (x + 128 / 2 ^ (i % 8).toNat)).length = 13 := by rw [List.length_set]; exact hl
  go_wp2_with (first
    | (refine wl_load26 rfl _ rfl w.heap.size rfl (L.set (i / 8).toNat (x + 128 / 2 ^ (i % 8).toNat)) gS hl2 ?_)
    | (refine wl_store26 rfl _ _ rfl (w.heap.size + 1) (L.set (i / 8).toNat (x + 128 / 2 ^ (i % 8).toNat)) rfl rfl _ gO rfl hl2 _ rfl ?_))
  refine ret26 (p := 6) rfl rfl (w.heap.size + 1) rfl (L.set (i / 8).toNat (x + 128 / 2 ^ (i % 8).toNat)) hl2 (setRow_heap _ _ _ _ _ _ gO) ⟨?_, ?_⟩
  · unfold setB; rw [if_neg (by rw [HE.out]; decide), if_pos rfl, HX.out]
  · exact below_setRow (hB1.setCell (Nat.le_refl _) _).drew (by omega) _

set_option maxHeartbeats 1000000 in
theorem refPut_down (L : List Int) (hL : Byt L) (i : Int) (w : World) (h0 : 0 ≤ i) (h1 : i < 104) (he : bitB L i = true) :
    Calls Tryz.prog 88 #[.agg (hv L), .int .i64 i, .bool false] w fun e w' => e = .returned (.agg (hv (setB L i false))) ∧ Below w.heap.size w w' := by
  have hl := hL.1
  obtain ⟨x, hx, hxe⟩ : ∃ x, (hv L)[(i / 8).toNat]? = some (.int .u8 x) ∧ x = byteAt L i := ⟨_, hv_at L hL.1 _ (by omega), rfl⟩
  have hb : 0 ≤ x ∧ x < 256 := by rw [hxe]; exact hL.2 _
  obtain ⟨hb0, hb1⟩ := hb
  have hs := sieve_pos i
  have hdn : 0 ≤ x - 128 / 2 ^ (i % 8).toNat := by
    rw [hxe]; exact (down_byte (byteAt L i) i (hL.2 _) (by rw [← bitB_in L i h0 h1]; exact he)).1
  have HX : Hid (x = byteAt L i) := hxe
  have HE : Hid (bitB L i = true) := he
  have cb := refBit_any L hL i
  rw [he] at cb
  have CB : Hid _ := cb
  clear cb he hxe
  go_enter Tryz.func88, Tryz.ntmps88
  go_wp2_with (refine wl_load26 rfl _ rfl w.heap.size rfl L (heap_past _ _ _ _ (heap_new _ _ _ rfl)) hl ?_)
  refine (CB.out _).mono ?_
  rintro e w1 ⟨rfl, hb1⟩
  have g1 : w1.heap[w.heap.size]? = some (.cells (hv L) 31 (0, 0)) := by
    rw [hb1.block _ (by simp; omega)]; exact heap_past _ _ _ _ (heap_new _ _ _ rfl)
  have g2 : w1.heap[w.heap.size + 1]? = some (.cells zero26 31 (0, 0)) := by
    rw [hb1.block _ (by simp)]; exact heap_new _ _ _ (by simp)
  have hB1 : Below w.heap.size w w1 := (((Below.refl _ _).alloc (Nat.le_refl _) _).alloc (by simp) _).trans (hb1.mono (by simp; omega))
  have hc1 : w1.cell? ⟨w.heap.size, (i / 8).toNat, none⟩ = some (.int .u8 x) := by rw [cell_of_row w1 _ _ _ _ _ g1]; exact hx
  have hf1 : w1.frozen? ⟨w.heap.size, (i / 8).toNat, none⟩ = false := frozen_of_row w1 _ _ _ _ g1
  clear hb1
  go_wp2_with fail
  refine wp_region_tail 11 (by kernel_rfl) (by kernel_rfl) ?_
  simp only [List.take_succ_cons, List.take_zero, List.drop_succ_cons, List.drop_zero]
  repeat go_big_quiet_step (fail)
  refine wpQuiet_nil ?_
  have gS : ((w1.setCell ⟨w.heap.size, (i / 8).toNat, none⟩ (.int .u8 (x - 128 / 2 ^ (i % 8).toNat))).drew).heap[w.heap.size]? = some (.cells (hv (L.set (i / 8).toNat (x - 128 / 2 ^ (i % 8).toNat))) 31 (0, 0)) := by
    rw [← hv_set]; exact heap_setCell_same w1 _ _ _ _ _ g1
  have gO : ((w1.setCell ⟨w.heap.size, (i / 8).toNat, none⟩ (.int .u8 (x - 128 / 2 ^ (i % 8).toNat))).drew).heap[w.heap.size + 1]? = some (.cells zero26 31 (0, 0)) := by
    have := heap_setCell_other w1 ⟨w.heap.size, (i / 8).toNat, none⟩ (w.heap.size + 1) (.int .u8 (x - 128 / 2 ^ (i % 8).toNat)) (by simp)
    exact this.trans g2
  have hl2 : (L.set (i / 8).toNat (x - 128 / 2 ^ (i % 8).toNat)).length = 13 := by rw [List.length_set]; exact hl
  go_wp2_with (first
    | (refine wl_load26 rfl _ rfl w.heap.size rfl (L.set (i / 8).toNat (x - 128 / 2 ^ (i % 8).toNat)) gS hl2 ?_)
    | (refine wl_store26 rfl _ _ rfl (w.heap.size + 1) (L.set (i / 8).toNat (x - 128 / 2 ^ (i % 8).toNat)) rfl rfl _ gO rfl hl2 _ rfl ?_))
  refine ret26 (p := 6) rfl rfl (w.heap.size + 1) rfl (L.set (i / 8).toNat (x - 128 / 2 ^ (i % 8).toNat)) hl2 (setRow_heap _ _ _ _ _ _ gO) ⟨?_, ?_⟩
  · unfold setB; rw [if_neg (by rw [HE.out]; decide), if_neg (by decide), HX.out]
  · exact below_setRow (hB1.setCell (Nat.le_refl _) _).drew (by omega) _

theorem refPut_any (L : List Int) (hL : Byt L) (i : Int) (b : Bool) (w : World) (h0 : 0 ≤ i) (h1 : i < 104) :
    Calls Tryz.prog 88 #[.agg (hv L), .int .i64 i, .bool b] w fun e w' => e = .returned (.agg (hv (setB L i b))) ∧ Below w.heap.size w w' := by
  by_cases e : bitB L i = b
  · have es : setB L i b = L := by unfold setB; rw [if_pos e]
    rw [es]; exact refPut_same L hL i b w e
  · cases b
    · exact refPut_down L hL i w h0 h1 (by simpa using e)
    · exact refPut_up L hL i w h0 h1 (by simpa using e)
end Go.Proofs.YtnbklmmampdbfaaGreatDoor
namespace Go.Proofs.YtnbklmmampdbfaaGreatDoor
open Go Go.RowKit
set_option maxRecDepth 20000

/-- A byte's bit, the highest first. -/
def yb (x : Int) (j : Nat) : Bool := x / 2 ^ (7 - j) % 2 == 1
/-- A header's bit. -/
def bt (L : List Int) (i : Nat) : Bool := yb (L.getD (i / 8) 0) (i % 8)

theorem yb_test (x : Int) (h : 0 ≤ x) (j : Nat) : yb x j = x.toNat.testBit (7 - j) := by
  unfold yb
  obtain ⟨n, rfl⟩ := Int.eq_ofNat_of_zero_le h
  rw [Nat.testBit_eq_decide_div_mod_eq, Bool.eq_iff_iff, beq_iff_eq, decide_eq_true_eq, Int.toNat_natCast]
  constructor
  · intro h; exact_mod_cast h
  · intro h; exact_mod_cast h

theorem bits_u8 (op : BinOp) (x y : Int) : 0 ≤ bits op .u8 x y ∧ bits op .u8 x y < 256 := by
  unfold bits
  simp only []
  rw [IntKind.wrap_u8]
  omega

theorem ofInt8 (x : Int) (h0 : 0 ≤ x) (h1 : x < 256) : (BitVec.ofInt 8 x).toNat = x.toNat := by
  rw [BitVec.toNat_ofInt]; omega

theorem and_nat (x y : Int) (hx : 0 ≤ x ∧ x < 256) (hy : 0 ≤ y ∧ y < 256) : (bits .and .u8 x y).toNat = x.toNat &&& y.toNat := by
  have e : bits .and .u8 x y = ((BitVec.ofInt 8 x &&& BitVec.ofInt 8 y).toNat : Int) % 256 := by
    unfold bits
    simp only []
    rw [IntKind.wrap_u8]
    rfl
  rw [e, BitVec.toNat_and, ofInt8 x hx.1 hx.2, ofInt8 y hy.1 hy.2]
  have := Nat.and_lt_two_pow (n := 8) x.toNat (y := y.toNat) (by omega)
  omega
theorem or_nat (x y : Int) (hx : 0 ≤ x ∧ x < 256) (hy : 0 ≤ y ∧ y < 256) : (bits .or .u8 x y).toNat = x.toNat ||| y.toNat := by
  have e : bits .or .u8 x y = ((BitVec.ofInt 8 x ||| BitVec.ofInt 8 y).toNat : Int) % 256 := by
    unfold bits
    simp only []
    rw [IntKind.wrap_u8]
    rfl
  rw [e, BitVec.toNat_or, ofInt8 x hx.1 hx.2, ofInt8 y hy.1 hy.2]
  have := Nat.or_lt_two_pow (n := 8) (x := x.toNat) (y := y.toNat) (by omega) (by omega)
  omega
theorem xor_nat (x y : Int) (hx : 0 ≤ x ∧ x < 256) (hy : 0 ≤ y ∧ y < 256) : (bits .xor .u8 x y).toNat = x.toNat ^^^ y.toNat := by
  have e : bits .xor .u8 x y = ((BitVec.ofInt 8 x ^^^ BitVec.ofInt 8 y).toNat : Int) % 256 := by
    unfold bits
    simp only []
    rw [IntKind.wrap_u8]
    rfl
  rw [e, BitVec.toNat_xor, ofInt8 x hx.1 hx.2, ofInt8 y hy.1 hy.2]
  have := Nat.xor_lt_two_pow (n := 8) (x := x.toNat) (y := y.toNat) (by omega) (by omega)
  omega

theorem and_yb (x y : Int) (hx : 0 ≤ x ∧ x < 256) (hy : 0 ≤ y ∧ y < 256) (j : Nat) : yb (bits .and .u8 x y) j = (yb x j && yb y j) := by
  rw [yb_test _ (bits_u8 _ _ _).1, yb_test _ hx.1, yb_test _ hy.1, and_nat x y hx hy, Nat.testBit_and]
theorem or_yb (x y : Int) (hx : 0 ≤ x ∧ x < 256) (hy : 0 ≤ y ∧ y < 256) (j : Nat) : yb (bits .or .u8 x y) j = (yb x j || yb y j) := by
  rw [yb_test _ (bits_u8 _ _ _).1, yb_test _ hx.1, yb_test _ hy.1, or_nat x y hx hy, Nat.testBit_or]
theorem xor_yb (x y : Int) (hx : 0 ≤ x ∧ x < 256) (hy : 0 ≤ y ∧ y < 256) (j : Nat) : yb (bits .xor .u8 x y) j = (yb x j != yb y j) := by
  rw [yb_test _ (bits_u8 _ _ _).1, yb_test _ hx.1, yb_test _ hy.1, xor_nat x y hx hy, Nat.testBit_xor]

theorem yb_255 (j : Nat) (hj : j < 8) : yb 255 j = true := by
  have : ∀ j : Fin 8, yb 255 j.val = true := by decide
  exact this ⟨j, hj⟩
theorem yb_0 (j : Nat) : yb 0 j = false := by unfold yb; simp

theorem byte_ext (x y : Int) (hx : 0 ≤ x ∧ x < 256) (hy : 0 ≤ y ∧ y < 256) (h : ∀ j, j < 8 → yb x j = yb y j) : x = y := by
  have g : ∀ j, j < 8 → x / 2 ^ (7 - j) % 2 = y / 2 ^ (7 - j) % 2 := fun j hj => by
    have := h j hj
    unfold yb at this
    rw [Bool.eq_iff_iff, beq_iff_eq, beq_iff_eq] at this
    have a1 : x / 2 ^ (7 - j) % 2 = 0 ∨ x / 2 ^ (7 - j) % 2 = 1 := by omega
    have a2 : y / 2 ^ (7 - j) % 2 = 0 ∨ y / 2 ^ (7 - j) % 2 = 1 := by omega
    omega
  have g0 := g 0 (by decide)
  have g1 := g 1 (by decide)
  have g2 := g 2 (by decide)
  have g3 := g 3 (by decide)
  have g4 := g 4 (by decide)
  have g5 := g 5 (by decide)
  have g6 := g 6 (by decide)
  have g7 := g 7 (by decide)
  simp only [Nat.sub_zero, Nat.reduceSub, Int.reducePow, Int.pow_zero, Int.ediv_one] at g0 g1 g2 g3 g4 g5 g6 g7
  omega

theorem zero_byte (x : Int) (hx : 0 ≤ x ∧ x < 256) : x = 0 ↔ ∀ j, j < 8 → yb x j = false :=
  ⟨fun h j _ => by rw [h, yb_0], fun h => byte_ext x 0 hx (by decide) fun j hj => by rw [h j hj, yb_0]⟩

theorem ext13 (A B : List Int) (hA : A.length = 13) (hB : B.length = 13) (h : ∀ k, k < 13 → A.getD k 0 = B.getD k 0) : A = B := by
  apply List.ext_getElem (by omega)
  intro k h1 h2
  have := h k (by omega)
  simpa [List.getD, h1, h2] using this

theorem bt_ext (A B : List Int) (hA : Byt A) (hB : Byt B) (h : ∀ i, i < 104 → bt A i = bt B i) : A = B :=
  ext13 A B hA.1 hB.1 fun k hk => byte_ext _ _ (hA.2 k) (hB.2 k) fun j hj => by
    have := h (8 * k + j) (by omega)
    unfold bt at this
    rwa [show (8 * k + j) / 8 = k by omega, show (8 * k + j) % 8 = j by omega] at this

/-- The byte with these bits. -/
def mkY (f : Nat → Bool) : Int :=
  (if f 0 then 128 else 0) + (if f 1 then 64 else 0) + (if f 2 then 32 else 0) + (if f 3 then 16 else 0) + (if f 4 then 8 else 0) + (if f 5 then 4 else 0) + (if f 6 then 2 else 0) + (if f 7 then 1 else 0)
theorem mkY_yb (f : Nat → Bool) (j : Nat) (hj : j < 8) : yb (mkY f) j = f j := by
  have h : ∀ a b c d e g h i : Bool, ∀ j : Fin 8, yb ((if a then 128 else 0) + (if b then 64 else 0) + (if c then 32 else 0) + (if d then 16 else 0) + (if e then 8 else 0) + (if g then 4 else 0) + (if h then 2 else 0) + (if i then 1 else 0)) j.val = [a, b, c, d, e, g, h, i].getD j.val false := by decide +kernel
  unfold mkY
  rw [h _ _ _ _ _ _ _ _ ⟨j, hj⟩]
  rcases (show j = 0 ∨ j = 1 ∨ j = 2 ∨ j = 3 ∨ j = 4 ∨ j = 5 ∨ j = 6 ∨ j = 7 by omega) with h | h | h | h | h | h | h | h <;> subst h <;> rfl
theorem mkY_bd (f : Nat → Bool) : 0 ≤ mkY f ∧ mkY f < 256 := by
  unfold mkY
  constructor <;> (repeat' split) <;> omega

/-- The header with these bits. -/
def mk (f : Nat → Bool) : List Int := (List.range 13).map fun k => mkY fun j => f (8 * k + j)
theorem mk_at (f : Nat → Bool) (k : Nat) (hk : k < 13) : (mk f).getD k 0 = mkY fun j => f (8 * k + j) := by
  unfold mk
  simp [List.getD, hk]
theorem mk_byt (f : Nat → Bool) : Byt (mk f) := by
  refine ⟨by simp [mk], fun k => ?_⟩
  rcases Nat.lt_or_ge k 13 with h | h
  · rw [mk_at f k h]; exact mkY_bd _
  · rw [List.getD, List.getElem?_eq_none (by simpa [mk] using h)]; decide
theorem mk_bt (f : Nat → Bool) (i : Nat) (hi : i < 104) : bt (mk f) i = f i := by
  unfold bt
  rw [mk_at f _ (by omega), mkY_yb _ _ (by omega)]
  congr 1; omega
theorem mk_eq (L : List Int) (hL : Byt L) (f : Nat → Bool) (h : ∀ i, i < 104 → bt L i = f i) : L = mk f :=
  bt_ext L _ hL (mk_byt f) fun i hi => by rw [h i hi, mk_bt f i hi]
theorem mk_ext (f g : Nat → Bool) (h : ∀ i, i < 104 → f i = g i) : mk f = mk g :=
  mk_eq _ (mk_byt f) g fun i hi => by rw [mk_bt f i hi, h i hi]
theorem mk_of (L : List Int) (hL : Byt L) : mk (bt L) = L := (mk_eq L hL _ fun _ _ => rfl).symm
theorem mk_inj (f g : Nat → Bool) (h : mk f = mk g) : ∀ i, i < 104 → f i = g i := fun i hi => by rw [← mk_bt f i hi, ← mk_bt g i hi, h]

theorem bitB_bt (L : List Int) (i : Nat) (hi : i < 104) : bitB L (i : Int) = bt L i := by
  unfold bitB byteAt bt yb
  rw [decide_eq_true (by omega), Bool.true_and, show ((i : Int) / 8).toNat = i / 8 by omega, show (7 - (i : Int) % 8).toNat = 7 - i % 8 by omega]
theorem setB_mk (L : List Int) (hL : Byt L) (i : Nat) (b : Bool) (hi : i < 104) : setB L (i : Int) b = mk fun k => if k = i then b else bt L k := by
  obtain ⟨h1, h2⟩ := setB_bit L hL i b (by omega) (by omega)
  refine mk_eq _ h1 _ fun k hk => ?_
  rw [← bitB_bt _ k hk, h2 k (by omega) (by omega), ← bitB_bt L k hk]
  by_cases e : k = i
  · rw [if_pos e, if_pos (by omega)]
  · rw [if_neg e, if_neg (by omega)]
theorem flipL_mk (L : List Int) (hL : Byt L) (i : Nat) (hi : i < 104) : flipL L (i : Int) = mk fun k => if k = i then !(bt L k) else bt L k := by
  refine mk_eq _ (flip_byt L hL i) _ fun k hk => ?_
  rw [← bitB_bt _ k hk, flip_bit L hL i k, bitB_bt L k hk, decide_eq_true (by omega)]
  by_cases e : k = i
  · rw [if_pos e, decide_eq_true (by omega)]; cases bt L k <;> rfl
  · rw [if_neg e, decide_eq_false (by omega)]; cases bt L k <;> rfl
theorem Byt.at {L : List Int} (h : Byt L) (k : Nat) : 0 ≤ L.getD k 0 ∧ L.getD k 0 < 256 := h.2 k
theorem byt_set (L : List Int) (hL : Byt L) (k : Nat) (x : Int) (hk : k < 13) (hx : 0 ≤ x ∧ x < 256) : Byt (L.set k x) := by
  refine ⟨by rw [List.length_set]; exact hL.1, fun j => ?_⟩
  rw [getD_set _ _ _ _ (by rw [hL.1]; exact hk)]
  split
  · exact hx
  · exact hL.2 j
end Go.Proofs.YtnbklmmampdbfaaGreatDoor
namespace Go.Proofs.YtnbklmmampdbfaaGreatDoor
open Go Go.RowKit
set_option maxRecDepth 20000

section
variable {P : Program} {ops : Array Oper} {md : Region.Mode} {C : World → Prop}
def anyL (P : Program) (md : Region.Mode) (ops : Array Oper) (C : World → Prop) (n : Nat) (L : Array Bool → Act → Prop) : Nat → Array Bool → Act → Prop
  | 0, listed, a => L listed a
  | f + 1, listed, a =>
    Region.ready md ops listed ≠ [] ∧ ∀ i ∈ Region.ready md ops listed, i < n ∧ qOp P ops C i (anyL P md ops C n L f (listed.setIfInBounds i true)) a
theorem any_of_head {n g : Nat} {L : Array Bool → Act → Prop} {Q' : Exit → Act → World → Prop} (hL : ∀ listed a w, C w → L listed a → wpAny P md ops Q' g listed a w) :
    ∀ (f : Nat) (listed : Array Bool) (a : Act) (w : World), C w → anyL P md ops C n L f listed a → wpAny P md ops Q' (f + g) listed a w
  | 0, listed, a, w, hw, h => by rw [Nat.zero_add]; exact hL _ _ _ hw h
  | f + 1, listed, a, w, hw, h => by
    rw [show f + 1 + g = (f + g) + 1 by omega]
    exact ⟨fun h0 => absurd h0 h.1, fun i hi => wpOp_of_qOp hw (fun a' w' hw' h' => any_of_head hL f _ a' w' hw' h') (h.2 i hi).2⟩
theorem anyL_first {n i : Nat} {oi : Oper} {v : Value} {L : Array Bool → Act → Prop} (hi : ops[i]? = some oi) (hsel : ∀ (j : Nat) (o : Oper) cs b, ops[j]? = some o → o.op ≠ .select cs b)
    (hs : Region.sinkB md ops n = true) (hc : Region.chainB md ops n = true) (hn : n < ops.size) (hin : i < n)
    (hdone : ∀ listed a, L listed a → ∀ j ∈ Region.ready md ops listed, n ≤ j) :
    ∀ (f : Nat) (listed : Array Bool) (a : Act), HeadInv md ops n listed →
      (∀ j oj, ops[j]? = some oj → j ≠ i → listed.getD j true = false → (∀ e ∈ oj.after, Region.binds md e = true → e.on ≠ i) → oi.apart ops oj = true) →
      i ∈ Region.ready md ops listed → YieldsIn P ops C oi v a →
      anyL P md ops C n L f (listed.setIfInBounds i true) (a.put oi.dst v) → anyL P md ops C n L (f + 1) listed a := by
  intro f
  induction f with
  | zero =>
    intro listed a inv _ hr hy H
    have hun := (mem_ready.1 hr).1
    refine ⟨fun h => (by rw [h] at hr; cases hr), fun j hj => ?_⟩
    have hjn : j < n := by
      rcases Nat.lt_or_ge j n with h | h
      · exact h
      · exact absurd hj (tail_waits hs hc hn inv _ i rfl hin hun j h)
    refine ⟨hjn, ?_⟩
    by_cases hji : j = i
    · subst hji; exact hy.qOp hi H
    · have := hdone _ _ H j (ready_mono hj hji)
      omega
  | succ f ih =>
    intro listed a inv hfree hr hy H
    have hun := (mem_ready.1 hr).1
    refine ⟨fun h => (by rw [h] at hr; cases hr), fun j hj => ?_⟩
    have hjn : j < n := by
      rcases Nat.lt_or_ge j n with h | h
      · exact h
      · exact absurd hj (tail_waits hs hc hn inv _ i rfl hin hun j h)
    refine ⟨hjn, ?_⟩
    by_cases hji : j = i
    · subst hji; exact hy.qOp hi H
    · have h1 := (H.2 j (ready_mono hj hji)).2
      obtain ⟨hjun, oj, hoj, hall⟩ := mem_ready.1 hj
      have hnot : ∀ e ∈ oj.after, Region.binds md e = true → e.on ≠ i := fun e he hb heq => by
        have h1 := hall e he hb
        rw [heq, getD_both hun] at h1
        cases h1
      have h2 := qOp_put hoj (hfree j oj hoj hji hjun hnot) (fun cs b => hsel i oi cs b hi) (fun cs b => hsel j oj cs b hoj) hy h1
      have hfree' : ∀ k ok, ops[k]? = some ok → k ≠ i → (listed.setIfInBounds j true).getD k true = false →
          (∀ e ∈ ok.after, Region.binds md e = true → e.on ≠ i) → oi.apart ops ok = true := fun k ok hk hki hun hno => by
        refine hfree k ok hk hki ?_ hno
        by_cases hjk : j = k
        · subst hjk; exact hjun
        · rw [getD_set_ne true hjk] at hun; exact hun
      refine qOp_mono (fun a' h3 => ih (listed.setIfInBounds j true) a' (inv.set hj hjn) hfree' (ready_mono hr (Ne.symm hji)) h3.1 ?_) h2
      rw [Array.setIfInBounds_comm _ _ hji]
      exact h3.2
theorem anyL_lex {n g : Nat} {Lq : Act → Prop} (hsel : Region.noSelect ops = true) (hs : Region.sinkB md ops n = true) (hc : Region.chainB md ops n = true) (hn : n < ops.size) :
    ∀ (l : List Oper) (k : Nat) (listed : Array Bool) (a : Act), (∀ j, j < l.length → l[j]? = ops[k + j]?) → k + l.length = n → HeadInv md ops n listed →
    Region.lexHead md ops g l.length k listed = true → wpQuiet P ops C Lq l a →
    anyL P md ops C n (fun listed' a' => Region.seqB md ops g n listed' = true ∧ Lq a') l.length listed a
  | [], k, listed, a, _, hk, _, hB, h => by
    have : k = n := by simpa using hk
    subst this
    exact ⟨by simpa [Region.lexHead] using hB, h⟩
  | o :: l, k, listed, a, hl, hk, inv, hB, h => by
    have h0 : ops[k]? = some o := by simpa using (hl 0 (by simp)).symm
    simp only [List.length_cons, Region.lexHead, Bool.and_eq_true] at hB
    obtain ⟨⟨hr, hf⟩, hB'⟩ := hB
    have hkn : k < n := by simp only [List.length_cons] at hk; omega
    have hr' : k ∈ Region.ready md ops listed := by simpa using hr
    have hst : qOp P ops C k (wpQuiet P ops C Lq l) a := by unfold qOp; simp only [h0]; exact h
    obtain ⟨v, hy, hK⟩ := yieldsIn_of_qOp h0 hst
    exact anyL_first h0 (Region.noSelect_spec hsel) hs hc hn hkn (fun listed' a' hL => seqB_ready hL.1) l.length listed a inv (Region.free_spec h0 hf) hr' hy
      (anyL_lex hsel hs hc hn l (k + 1) _ _ (fun j hj => by have := hl (j + 1) (by simp; omega); simpa [Nat.add_assoc, Nat.add_comm 1 j] using this) (by simp only [List.length_cons] at hk; omega) (inv.set hr' hkn) hB' hK)
end

/-- A drawn region whose first n operations only read and call, in any order, and whose rest comes behind them in order. -/
theorem wp_region_latertail {P : Program} {id : Nat} {Q : Exit → Act → World → Prop} {a : Act} {w : World} {l : List Oper} (n : Nat) (hm : P.follows .mixedOrders = true) (hB : Region.lexTailB .any l.toArray n = true)
    (h : wpQuiet P l.toArray (fun w' => ∃ u : Later w, w' = u.world) (fun a' => ∀ w', (∃ u : Later w, w' = u.world) → wpList P l.toArray Q (l.drop n) a' w') (l.take n) a) : (Code.region id l.toArray true).wp P Q a w := by
  simp only [Region.lexTailB, Bool.and_eq_true, decide_eq_true_eq] at hB
  obtain ⟨⟨⟨⟨hsel, hn⟩, hs⟩, hc⟩, hlex⟩ := hB
  have hn' : n < l.length := by simpa using hn
  have htl : (l.take n).length = n := by simp; omega
  have hdl : (l.drop n).length = l.toArray.size - n := by simp
  have inv0 : HeadInv .any l.toArray n (Array.replicate l.toArray.size false) :=
    ⟨by simp, fun j oj _ hl => (by rw [getD_replicate_false] at hl; cases hl), fun t _ ht => getD_in (by simpa using ht) (getD_replicate_false _ _)⟩
  have H := anyL_lex (md := .any) (g := l.toArray.size - n) hsel hs hc hn (l.take n) 0 _ a (fun j hj => by
    have hj' : j < n := by rw [htl] at hj; exact hj
    simp [hj']) (by simpa using htl) inv0 (by rw [htl]; exact hlex) h
  refine wp_region_any hm ?_
  have hC : (fun w' => ∃ u : Later w, w' = u.world) w.drew := ⟨⟨w.drew, (Below.refl _ _).drew⟩, rfl⟩
  have := any_of_head (Q' := Q) (g := l.toArray.size - n) (fun listed a' w' hw' hL => by
    rw [← hdl] at hL ⊢
    exact wpAny_of_seq (l.drop n) n listed a' w' (fun j => by simp) hL.1 (hL.2 w' hw')) _ _ _ _ hC H
  rw [htl, show n + (l.toArray.size - n) = l.toArray.size by omega] at this
  exact this
end Go.Proofs.YtnbklmmampdbfaaGreatDoor
namespace Go.Proofs.YtnbklmmampdbfaaGreatDoor
open Go Go.RowKit
set_option maxRecDepth 20000

/-- A cube's cells: its value's, then its mask's. -/
def cv (V M : List Int) : Array Value := hv (V ++ M)
theorem cv_size (V M : List Int) (hV : V.length = 13) (hM : M.length = 13) : (cv V M).size = 26 := by
  unfold cv; rw [hv_size, List.length_append, hV, hM]
theorem cv_one (V M : List Int) : (cv V M).all (·.oneCell') = true := hv_one _
theorem hv_get (L : List Int) (k : Nat) (hk : k < L.length) : (hv L)[k]? = some (.int .u8 (L.getD k 0)) := by
  unfold hv
  simp [List.getElem?_map, List.getElem?_eq_getElem hk, List.getD]
theorem cv_val (V M : List Int) (hV : V.length = 13) (k : Nat) (hk : k < 13) : (cv V M)[k]? = some (.int .u8 (V.getD k 0)) := by
  unfold cv hv
  simp [List.getElem?_append, hV, hk, List.getD]
theorem cv_mask (V M : List Int) (hV : V.length = 13) (hM : M.length = 13) (k : Nat) (hk : k < 13) : (cv V M)[13 + k]? = some (.int .u8 (M.getD k 0)) := by
  unfold cv hv
  simp [List.getElem?_append, hV, List.getElem?_eq_getElem (show k < M.length by omega), List.getD]
theorem cv_set_val (V M : List Int) (hV : V.length = 13) (k : Nat) (hk : k < 13) (x : Int) : (cv V M).setIfInBounds k (.int .u8 x) = cv (V.set k x) M := by
  unfold cv
  rw [hv_set, List.set_append_left _ _ (by omega)]
theorem cv_set_mask (V M : List Int) (hV : V.length = 13) (k : Nat) (x : Int) : (cv V M).setIfInBounds (13 + k) (.int .u8 x) = cv V (M.set k x) := by
  unfold cv
  rw [hv_set, List.set_append_right _ _ (by omega), hV, Nat.add_sub_cancel_left]

abbrev zeroC : Array Value := #[.int .u8 0, .int .u8 0, .int .u8 0, .int .u8 0, .int .u8 0, .int .u8 0, .int .u8 0, .int .u8 0, .int .u8 0, .int .u8 0, .int .u8 0, .int .u8 0, .int .u8 0, .int .u8 0, .int .u8 0, .int .u8 0, .int .u8 0, .int .u8 0, .int .u8 0, .int .u8 0, .int .u8 0, .int .u8 0, .int .u8 0, .int .u8 0, .int .u8 0, .int .u8 0]
/-- Thirteen noughts. -/
def Z : List Int := mk fun _ => false
theorem Z_eq : Z = [0, 0, 0, 0, 0, 0, 0, 0, 0, 0, 0, 0, 0] := by kernel_rfl
theorem zeroC_eq : zeroC = cv Z Z := by rw [Z_eq]; rfl
theorem zero26_eq : zero26 = hv Z := by rw [Z_eq]; rfl
theorem Z_byt : Byt Z := mk_byt _
theorem Z_bt (i : Nat) (hi : i < 104) : bt Z i = false := mk_bt _ i hi

theorem sizeC (V M : List Int) (hV : V.length = 13) (hM : M.length = 13) : (Tryz.prog.info? 37).map (·.size) = some (cv V M).size := by
  rw [cv_size V M hV hM]; kernel_rfl

theorem wl_loadC {ops : Array Oper} {rest : List Oper} {o : Oper} {a : Act} {w : World} {Q : Exit → Act → World → Prop} (hgd : o.guard = none) (x : Operand) (ho : o.op = .load 37 x)
    (g : Nat) (hx : a.eval x = .pointer (some ⟨g, 0, none⟩)) (V M : List Int) (hg : w.heap[g]? = some (.cells (cv V M) 37 (0, 0))) (hV : V.length = 13) (hM : M.length = 13)
    (h : wpList Tryz.prog ops Q rest (a.put o.dst (.agg (cv V M))) w) : wpList Tryz.prog ops Q (o :: rest) a w :=
  wpList_load_row hgd 37 x ho g hx 37 (cv V M) (0, 0) _ hg Tryz.underlying37 rfl (sizeC V M hV hM) h
theorem wl_loadCg {ops : Array Oper} {rest : List Oper} {o : Oper} {a : Act} {w : World} {Q : Exit → Act → World → Prop} (hw : Region.wanted o (yielded ops a.tmps) = true) (x : Operand) (ho : o.op = .load 37 x)
    (g : Nat) (hx : a.eval x = .pointer (some ⟨g, 0, none⟩)) (V M : List Int) (hg : w.heap[g]? = some (.cells (cv V M) 37 (0, 0))) (hV : V.length = 13) (hM : M.length = 13)
    (h : wpList Tryz.prog ops Q rest (a.put o.dst (.agg (cv V M))) w) : wpList Tryz.prog ops Q (o :: rest) a w := by
  refine wpList_step fun K hK => ?_
  rw [if_pos hw]
  exact wp_load_row 37 x ho g hx 37 (cv V M) (0, 0) _ hg Tryz.underlying37 rfl (sizeC V M hV hM) (hK _ _ h)
theorem wl_loadHg {ops : Array Oper} {rest : List Oper} {o : Oper} {a : Act} {w : World} {Q : Exit → Act → World → Prop} (hw : Region.wanted o (yielded ops a.tmps) = true) (x : Operand) (ho : o.op = .load 31 x)
    (g : Nat) (hx : a.eval x = .pointer (some ⟨g, 0, none⟩)) (L : List Int) (hg : w.heap[g]? = some (.cells (hv L) 31 (0, 0))) (hL : L.length = 13)
    (h : wpList Tryz.prog ops Q rest (a.put o.dst (.agg (hv L))) w) : wpList Tryz.prog ops Q (o :: rest) a w := by
  refine wpList_step fun K hK => ?_
  rw [if_pos hw]
  exact wp_load_row 31 x ho g hx 31 (hv L) (0, 0) _ hg Tryz.underlying31 rfl (size26 L hL) (hK _ _ h)
theorem wl_storeC {ops : Array Oper} {rest : List Oper} {o : Oper} {a : Act} {w : World} {Q : Exit → Act → World → Prop} (hgd : o.guard = none) (x y : Operand) (ho : o.op = .store 37 x y)
    (g : Nat) (V M : List Int) (hx : a.eval x = .pointer (some ⟨g, 0, none⟩)) (hy : a.eval y = .agg (cv V M)) (old : Array Value) (hg : w.heap[g]? = some (.cells old 37 (0, 0))) (hold : old.size = 26) (hV : V.length = 13) (hM : M.length = 13)
    (w' : World) (hw' : w.setRow g (cv V M) = w')
    (h : wpList Tryz.prog ops Q rest (a.put o.dst undef) w') : wpList Tryz.prog ops Q (o :: rest) a w :=
  wpList_store_row hgd 37 x y ho g (cv V M) hx hy 37 old hg (sizeC V M hV hM) (by rw [cv_size V M hV hM, hold]) (cv_one V M) (by rw [hw']; exact h)
theorem retC {fn : Func} {R : Ending → World → Prop} {a : Act} {w : World} {p : Tmp} (hr : fn.results = #[.cell p 37]) (hd : a.defers = []) (g : Nat) (hp : a.tmps.getD p undef = .pointer (some ⟨g, 0, none⟩)) (V M : List Int) (hV : V.length = 13) (hM : M.length = 13)
    (hg : w.heap[g]? = some (.cells (cv V M) 37 (0, 0))) (h : R (.returned (.agg (cv V M))) w) : bodyPost Tryz.prog fn R .ret a w :=
  bodyPost_ret (v := .agg (cv V M)) (results_cell_row hr _ _ g 37 (cv V M) (0, 0) _ hp hg Tryz.underlying37 rfl (sizeC V M hV hM)) hd h

theorem part_val (V M : List Int) (hV : V.length = 13) (w : World) : (part 31 (cv V M) 0).run Tryz.prog w = .ok (.agg (hv V)) w := by
  have hz : ∀ w, (sizeOf 31).run Tryz.prog w = .ok 13 w := fun w => by kernel_rfl
  have ha : ∀ w, (isAgg 31).run Tryz.prog w = .ok true w := fun w => by kernel_rfl
  have e : (cv V M).extract 0 13 = hv V := by
    unfold cv hv
    simp [hV]
  simp [part, ha, hz, Sem.run_bind, e]
theorem part_mask (V M : List Int) (hV : V.length = 13) (hM : M.length = 13) (w : World) : (part 31 (cv V M) 13).run Tryz.prog w = .ok (.agg (hv M)) w := by
  have hz : ∀ w, (sizeOf 31).run Tryz.prog w = .ok 13 w := fun w => by kernel_rfl
  have ha : ∀ w, (isAgg 31).run Tryz.prog w = .ok true w := fun w => by kernel_rfl
  have e : (cv V M).extract 13 26 = hv M := by
    unfold cv hv
    simp [hV, List.take_of_length_le, hM]
  simp [part, ha, hz, Sem.run_bind, e]

theorem eqC (V M V' M' : List Int) (hV : V.length = 13) (hM : M.length = 13) (hV' : V'.length = 13) (hM' : M'.length = 13) (w : World) :
    (Op.equalIn 10000 37 (.agg (cv V M)) (.agg (cv V' M'))).run Tryz.prog w = .ok (V == V' && M == M') w := by
  have eH : ∀ A B : List Int, A.length = 13 → B.length = 13 → ∀ w, (Op.equalIn 9999 31 (.agg (hv A)) (.agg (hv B))).run Tryz.prog w = .ok (A == B) w := fun A B hA hB w => by
    have z5 : (sizeOf 5).run Tryz.prog w = .ok 1 w := by kernel_rfl
    rw [show (9999 : Nat) = 9998 + 1 from rfl, Op.equalIn]
    simp only [Sem.run_bind, run_underlying Tryz.underlying31, Result.andThen_ok, z5]
    simp only [Std.Legacy.Range.forIn_eq_forIn_range', Std.Legacy.Range.size, Nat.sub_zero, Nat.add_sub_cancel, Nat.div_one]
    rw [← all_eq A B hA hB]
    exact loopN 9997 A B hA hB w _ rfl rfl (List.range' 0 13) (fun i hi => by simp at hi; omega)
  rw [show (10000 : Nat) = 9999 + 1 from rfl, run_equalIn_struct w 9999 37 _ _ (by kernel_rfl) (by kernel_rfl)]
  rw [show (Tryz.prog.fieldsOf 37).toList = [{ name := "Value", type := 31, offset := 0, embedded := false, tag := "", pkgPath := "", byteOffset := 0 }, { name := "Mask", type := 31, offset := 13, embedded := false, tag := "", pkgPath := "", byteOffset := 13 }] from by kernel_rfl]
  simp only [Op.eqFields, ne_eq, String.reduceEq, not_false_eq_true, if_true, Sem.run_bind]
  simp only [part_val V M hV, part_val V' M' hV', Result.andThen_ok, eH V V' hV hV']
  cases hA : (V == V')
  · simp
  · simp only [Bool.not_true, Bool.false_eq_true, if_false, Sem.run_bind, part_mask V M hV hM, part_mask V' M' hV' hM', Result.andThen_ok, eH M M' hM hM']
    cases hB : (M == M') <;> simp
theorem egC (op : BinOp) (x y : Operand) (xs ys : Array Value) (w : World) : (eqGuard op 37 x y (.agg xs) (.agg ys)).run Tryz.prog w = .ok () w :=
  run_eqGuard_agg w op 37 x y xs ys (by kernel_rfl)
theorem egH (op : BinOp) (x y : Operand) (xs ys : Array Value) (w : World) : (eqGuard op 31 x y (.agg xs) (.agg ys)).run Tryz.prog w = .ok () w :=
  run_eqGuard_agg w op 31 x y xs ys (by kernel_rfl)

theorem qlH {W : World} {ops : Array Oper} {Q : Act → Prop} {rest : List Oper} {o : Oper} {a : Act} (hw : Region.wanted o (yielded ops a.tmps) = true) (x : Operand) (ho : o.op = .load 31 x)
    (g : Nat) (hx : a.eval x = .pointer (some ⟨g, 0, none⟩)) (L : List Int) (hg : W.heap[g]? = some (.cells (hv L) 31 (0, 0))) (hL : L.length = 13)
    (h : wpQuiet Tryz.prog ops (fun w' => ∃ u : Later W, w' = u.world) Q rest (a.put o.dst (.agg (hv L)))) : wpQuiet Tryz.prog ops (fun w' => ∃ u : Later W, w' = u.world) Q (o :: rest) a :=
  q_load_row hw 31 x ho g hx 31 (hv L) (0, 0) _ (later_block hg) Tryz.underlying31 rfl (size26 L hL) h
theorem qlC {W : World} {ops : Array Oper} {Q : Act → Prop} {rest : List Oper} {o : Oper} {a : Act} (hw : Region.wanted o (yielded ops a.tmps) = true) (x : Operand) (ho : o.op = .load 37 x)
    (g : Nat) (hx : a.eval x = .pointer (some ⟨g, 0, none⟩)) (V M : List Int) (hg : W.heap[g]? = some (.cells (cv V M) 37 (0, 0))) (hV : V.length = 13) (hM : M.length = 13)
    (h : wpQuiet Tryz.prog ops (fun w' => ∃ u : Later W, w' = u.world) Q rest (a.put o.dst (.agg (cv V M)))) : wpQuiet Tryz.prog ops (fun w' => ∃ u : Later W, w' = u.world) Q (o :: rest) a :=
  q_load_row hw 37 x ho g hx 37 (cv V M) (0, 0) _ (later_block hg) Tryz.underlying37 rfl (sizeC V M hV hM) h
/-- One byte is read, in any world above. -/
theorem later_cell {W : World} {g k : Nat} {cs : Array Value} {t : TypeId} {v : Value} (hg : W.heap[g]? = some (.cells cs t (0, 0))) (hk : cs[k]? = some v) : ∀ u : Later W, u.world.cell? ⟨g, k, none⟩ = some v := fun u => by
  rw [cell_of_row u.world _ _ _ _ _ (later_block hg _ ⟨u, rfl⟩)]; exact hk
end Go.Proofs.YtnbklmmampdbfaaGreatDoor
namespace Go.Proofs.YtnbklmmampdbfaaGreatDoor
open Go Go.RowKit
set_option maxRecDepth 20000

/-- A type of elements that are structs or arrays, and the type of its slices. -/
structure El where
  elem : TypeId
  slice : TypeId
  size : Nat
  bytes : Nat
  zero : Array Value
/-- What the program says of it. -/
structure El.Ok (E : El) : Prop where
  hs : Tryz.prog.underlying E.slice = some (.slice E.elem)
  hu : ∃ d, Tryz.prog.underlying E.elem = some d ∧ (match d with | .struct _ | .array _ _ => true | _ => false) = true
  hi : (Tryz.prog.info? E.elem).map (fun i => (i.zero, i.size, i.bytes)) = some (some (.agg E.zero), E.size, E.bytes)
  hz : E.zero.size = E.size
  hp : 0 < E.size
  hb : E.bytes ≤ 100000
  hn : E.size ≤ 100000
theorem El.Ok.info {E : El} (H : E.Ok) : ∃ i, Tryz.prog.info? E.elem = some i ∧ i.zero = some (.agg E.zero) ∧ i.size = E.size ∧ i.bytes = E.bytes := by
  have h1 := H.hi
  cases h : Tryz.prog.info? E.elem with
  | none => rw [h] at h1; simp at h1
  | some i =>
    rw [h] at h1
    simp only [Option.map_some, Option.some.injEq, Prod.mk.injEq] at h1
    exact ⟨i, rfl, h1.1, h1.2.1, h1.2.2⟩
theorem El.Ok.cellsz {E : El} (H : E.Ok) (cs : Array Value) (hc : cs.size = E.size) : (Tryz.prog.info? E.elem).map (·.size) = some cs.size := by
  obtain ⟨i, h1, _, h2, _⟩ := H.info
  rw [h1, Option.map_some, h2, hc]

/-- A value that is laid in cells, one each. -/
def Fits (E : El) (cs : Array Value) : Prop := cs.size = E.size ∧ cs.all (·.oneCell') = true

/-- An element that lies within a block, from a place on. -/
theorem El.Ok.load {E : El} (H : E.Ok) (w : World) (g off : Nat) (cur : Array Value) (t : TypeId) (fr : Nat × Nat) (cs : Array Value) (hcs : cs.size = E.size) (hg : w.heap[g]? = some (.cells cur t fr)) (hc : ∀ j, j < E.size → cur[off + j]? = cs[j]?) :
    (loadVar E.elem ⟨g, off, none⟩).run Tryz.prog w = .ok (.agg cs) w := by
  have hl : (loadCells ⟨g, off, none⟩ cs.toList.length).run Tryz.prog w = .ok cs.toList.toArray w :=
    run_loadCells_list (P := Tryz.prog) w ⟨g, off, none⟩ cs.toList (fun j v hv => by
      have hadd : (⟨g, off, none⟩ : Addr).add j = ⟨g, off + j, none⟩ := by unfold Addr.add; split <;> simp_all
      have hj : j < E.size := by
        have := (List.getElem?_eq_some_iff.1 hv).1
        rw [Array.length_toList] at this
        omega
      rw [hadd, cell_of_row w g (off + j) cur t fr hg, hc j hj]
      simpa using hv)
  obtain ⟨i, hq, _, hs, _⟩ := H.info
  have hagg : (isAgg E.elem).run Tryz.prog w = .ok true w := by
    obtain ⟨d, hd, hm⟩ := H.hu
    unfold isAgg
    rw [Sem.run_bind, run_underlying hd w]
    revert hm
    cases d <;> simp [go_sem]
  rw [Array.length_toList, hcs, Array.toArray_toList] at hl
  simp [loadVar, Sem.run_bind, hagg, sizeOf, typeInfo, hq, hs, hl]
theorem wl_loadE {E : El} (H : E.Ok) {ops : Array Oper} {rest : List Oper} {o : Oper} {a : Act} {w : World} {Q : Exit → Act → World → Prop} (hw : Region.wanted o (yielded ops a.tmps) = true) (x : Operand) (ho : o.op = .load E.elem x)
    (g off : Nat) (hx : a.eval x = .pointer (some ⟨g, off, none⟩)) (cur : Array Value) (t : TypeId) (fr : Nat × Nat) (cs : Array Value) (hcs : cs.size = E.size) (hg : w.heap[g]? = some (.cells cur t fr)) (hc : ∀ j, j < E.size → cur[off + j]? = cs[j]?)
    (h : wpList Tryz.prog ops Q rest (a.put o.dst (.agg cs)) w) : wpList Tryz.prog ops Q (o :: rest) a w := by
  refine wpList_step fun K hK => ?_
  rw [if_pos hw]
  unfold Oper.wp execOp
  simp only [ho, hx, Instr.loadAt, Instr.sureAddr, Sem.run_bind, Sem.run_pure, Result.andThen_ok, H.load w g off cur t fr cs hcs hg hc]
  exact hK _ _ h
theorem own_cells (n : Nat) (cs : Array Value) : ∀ j, j < n → cs[0 + j]? = cs[j]? := fun j _ => by rw [Nat.zero_add]
theorem wl_storeE {E : El} (H : E.Ok) {ops : Array Oper} {rest : List Oper} {o : Oper} {a : Act} {w : World} {Q : Exit → Act → World → Prop} (hgd : o.guard = none) (x y : Operand) (ho : o.op = .store E.elem x y)
    (g : Nat) (cs : Array Value) (hf : Fits E cs) (hx : a.eval x = .pointer (some ⟨g, 0, none⟩)) (hy : a.eval y = .agg cs) (old : Array Value) (hg : w.heap[g]? = some (.cells old E.elem (0, 0))) (hold : old.size = E.size)
    (w' : World) (hw' : w.setRow g cs = w')
    (h : wpList Tryz.prog ops Q rest (a.put o.dst undef) w') : wpList Tryz.prog ops Q (o :: rest) a w :=
  wpList_store_row hgd E.elem x y ho g cs hx hy E.elem old hg (H.cellsz cs hf.1) (by rw [hf.1, hold]) hf.2 (by rw [hw']; exact h)
theorem qlE {E : El} (H : E.Ok) {C : World → Prop} {ops : Array Oper} {Q : Act → Prop} {rest : List Oper} {o : Oper} {a : Act} (hw : Region.wanted o (yielded ops a.tmps) = true) (x : Operand) (ho : o.op = .load E.elem x)
    (g off : Nat) (hx : a.eval x = .pointer (some ⟨g, off, none⟩)) (cur : Array Value) (t : TypeId) (fr : Nat × Nat) (cs : Array Value) (hcs : cs.size = E.size) (hg : ∀ w', C w' → w'.heap[g]? = some (.cells cur t fr)) (hc : ∀ j, j < E.size → cur[off + j]? = cs[j]?)
    (h : wpQuiet Tryz.prog ops C Q rest (a.put o.dst (.agg cs))) : wpQuiet Tryz.prog ops C Q (o :: rest) a := by
  refine BigFrame.wpQuiet_want hw fun K hK => ⟨.agg cs, fun w hC => ?_, hK _ h⟩
  unfold Oper.quietAt execOp
  simp only [ho, hx, Instr.loadAt, Instr.sureAddr, Sem.run_bind, Sem.run_pure, Result.andThen_ok, H.load w g off cur t fr cs hcs (hg w hC) hc]
  exact ⟨rfl, rfl⟩

/-- The cells of a list of elements. -/
def gcells {α : Type} (enc : α → Array Value) (C : List α) : List Value := C.flatMap fun c => (enc c).toList
theorem gcells_append {α : Type} (enc : α → Array Value) (C D : List α) : gcells enc (C ++ D) = gcells enc C ++ gcells enc D := by simp [gcells]
theorem gcells_one {α : Type} (enc : α → Array Value) (c : α) : gcells enc [c] = (enc c).toList := by simp [gcells]
theorem gcells_cons {α : Type} (enc : α → Array Value) (c : α) (C : List α) : gcells enc (c :: C) = (enc c).toList ++ gcells enc C := by simp [gcells]
theorem gcells_at {α : Type} (enc : α → Array Value) (n : Nat) : ∀ (C : List α), (∀ c ∈ C, (enc c).size = n) → ∀ (i : Nat) (hi : i < C.length) (j : Nat), j < n → (gcells enc C)[n * i + j]? = (enc C[i])[j]?
  | [], _, i, hi, _, _ => absurd hi (by simp)
  | c :: C, h, 0, _, j, hj => by
    have h1 := h c (by simp)
    rw [gcells_cons, Nat.mul_zero, Nat.zero_add, List.getElem?_append_left (by rw [Array.length_toList, h1]; exact hj)]
    simp
  | c :: C, h, i + 1, hi, j, hj => by
    have h1 := h c (by simp)
    have ih := gcells_at enc n C (fun d hd => h d (by simp [hd])) i (by simpa using hi) j hj
    rw [gcells_cons, show n * (i + 1) + j = n + (n * i + j) by rw [Nat.mul_add, Nat.mul_one]; omega, List.getElem?_append_right (by rw [Array.length_toList, h1]; omega), Array.length_toList, h1, Nat.add_sub_cancel_left]
    simpa using ih

theorem gfold_get (off : Nat) : ∀ (xs : List Value) (n : Nat) (cells : Array Value) (k : Nat), off + n + xs.length ≤ cells.size →
    ((xs.zipIdx n).foldl (fun cs (x : Value × Nat) => cs.setIfInBounds (off + x.2) x.1) cells)[k]? = if off + n ≤ k ∧ k < off + n + xs.length then xs[k - (off + n)]? else cells[k]?
  | [], n, cells, k, _ => by
    simp only [List.zipIdx_nil, List.foldl_nil, List.length_nil, Nat.add_zero]
    rw [if_neg (by omega)]
  | x :: xs, n, cells, k, h => by
    simp only [List.length_cons] at h
    rw [List.zipIdx_cons, List.foldl_cons, gfold_get off xs (n + 1) _ k (by simp; omega)]
    simp only [List.length_cons]
    by_cases h1 : off + (n + 1) ≤ k ∧ k < off + (n + 1) + xs.length
    · rw [if_pos h1, if_pos (by omega), show k - (off + n) = (k - (off + (n + 1))) + 1 by omega, List.getElem?_cons_succ]
    · rw [if_neg h1]
      by_cases h2 : k = off + n
      · subst h2
        rw [if_pos (by omega), Nat.sub_self, List.getElem?_cons_zero, Array.getElem?_setIfInBounds_self_of_lt (by omega)]
      · rw [if_neg (by omega), Array.getElem?_setIfInBounds_ne (by omega)]
theorem gfold_all (xs cells : Array Value) (h : xs.size = cells.size) : xs.zipIdx.foldl (fun cs (x : Value × Nat) => cs.setIfInBounds (0 + x.2) x.1) cells = xs := by
  have e : xs.zipIdx.foldl (fun cs (x : Value × Nat) => cs.setIfInBounds (0 + x.2) x.1) cells = (xs.toList.zipIdx 0).foldl (fun cs (x : Value × Nat) => cs.setIfInBounds (0 + x.2) x.1) cells := by
    rw [← Array.foldl_toList]; simp
  rw [e]
  apply Array.ext_getElem?
  intro k
  rw [gfold_get 0 xs.toList 0 cells k (by simp; omega)]
  by_cases hk : k < xs.size
  · rw [if_pos (by simp; omega)]; simp
  · rw [if_neg (by simp; omega), Array.getElem?_eq_none (by omega), Array.getElem?_eq_none (by omega)]

set_option maxRecDepth 20000 in
/-- A slice of one element. -/
theorem wl_buildE {E : El} (H : E.Ok) {ops : Array Oper} {rest : List Oper} {o : Oper} {a : Act} {w : World} {Q : Exit → Act → World → Prop} (hg : o.guard = none) (x : Operand) (ho : o.op = .buildSlice E.slice 1 #[(0, x)]) (cs : Array Value) (hcs : cs.size = E.size) (hx : a.eval x = .agg cs)
    (h : wpList Tryz.prog ops Q rest (a.put o.dst (.slice (some ⟨w.heap.size, 0, none⟩) 1 1)) (w.alloc (.cells cs E.elem))) : wpList Tryz.prog ops Q (o :: rest) a w := by
  obtain ⟨ie, hie, hz, hs, _⟩ := H.info
  refine wpList_buildSlice hg E.slice E.elem 1 _ ho cs ie (.agg E.zero) H.hs hie hz (by rw [hs]; have := H.hn; omega) (by rw [hs]; have := H.hp; omega) ?_ h
  simp only [List.map_toArray, List.map_cons, List.map_nil, hx, Instr.fill, hs, Nat.zero_mul, Value.cells, hcs]
  rw [if_neg (by simp)]
  congr 1
  exact gfold_all _ _ (by rw [hcs]; simp)

/-- One element appended to one's own row of them, and where the new row lies. -/
theorem wl_appendE {E : El} (H : E.Ok) {α : Type} (enc : α → Array Value) {ops : Array Oper} {rest : List Oper} {o : Oper} {a : Act} {w : World} {Q : Exit → Act → World → Prop} (hgd : o.guard = none) (s x : Operand) (ho : o.op = .call { callee := .builtin .append, args := #[s, x], argTypes := #[E.slice, E.slice] })
    (base : Nat) (v : Value) (C : List α) (c : α) (hf : Fits E (enc c)) (hs : a.eval s = v) (hown : w.ownsRow base E.elem E.size v C.length (gcells enc C)) (g cap : Nat) (hx : a.eval x = .slice (some ⟨g, 0, none⟩) 1 cap) (hg : w.heap[g]? = some (.cells (enc c) E.elem (0, 0)))
    (hn : C.length ≤ 1000000) (hbase : base ≤ w.heap.size)
    (h : ∀ v' w', w'.ownsRow base E.elem E.size v' (C ++ [c]).length (gcells enc (C ++ [c])) → w.grownBy w' v.ownBlock → (v'.ownBlock = v.ownBlock ∨ v'.ownBlock = some w.heap.size) → wpList Tryz.prog ops Q rest (a.put o.dst v') w') : wpList Tryz.prog ops Q (o :: rest) a w := by
  obtain ⟨i0, hi, hz0, hz1, hz2⟩ := H.info
  have hb := H.hb
  refine wpList_append_own_at _ hgd s x E.slice ho base E.elem i0 (.agg E.zero) E.size E.bytes H.hs hi hz0 hz1 hz2 (by simpa [Value.cells] using H.hz) H.hp v _ _ hs hown ⟨g, 0, none⟩ 1 cap (enc c).toList hx (by rw [Array.length_toList, hf.1, Nat.one_mul]) (fun j y hy => ?_) (fun u hu => ?_) (by unfold maxLen; omega) ?_ hbase ?_
  · have hadd : (⟨g, 0, none⟩ : Addr).add j = ⟨g, j, none⟩ := by unfold Addr.add; split <;> simp_all
    rw [hadd, cell_of_row w g j _ _ _ hg, ← hy]
    simp
  · exact (Array.all_eq_true_iff_forall_mem.1 hf.2) u (by simpa using hu)
  · exact Nat.le_trans (Nat.mul_le_mul (show C.length + 1 ≤ 1000001 by omega) hb) (by decide)
  · intro v' w' h5 h6 _ h7
    refine h v' w' ?_ h6 h7
    rw [List.length_append, gcells_append, gcells_one]; exact h5

/-- A slice, wherever it lies, whose elements are these. -/
def GSl {α : Type} (E : El) (enc : α → Array Value) (w : World) (v : Value) (C : List α) : Prop :=
  ∃ (o : Option Addr) (cap : Nat), v = .slice o C.length cap ∧ C.length ≤ cap ∧ cap ≤ maxLen ∧ ∀ (i : Nat) (hi : i < C.length), ∃ g off cur t fr, o = some ⟨g, off, none⟩ ∧ w.heap[g]? = some (.cells cur t fr) ∧ ∀ j, j < E.size → cur[off + i * E.size + j]? = (enc C[i])[j]?
theorem GSl.below {α : Type} {E : El} {enc : α → Array Value} {w w' : World} {v : Value} {C : List α} (h : GSl E enc w v C) (hb : Below w.heap.size w w') : GSl E enc w' v C := by
  obtain ⟨o, cap, rfl, h1, h2, h3⟩ := h
  refine ⟨o, cap, rfl, h1, h2, fun i hi => ?_⟩
  obtain ⟨g, off, cur, t, fr, h4, h5, h6⟩ := h3 i hi
  exact ⟨g, off, cur, t, fr, h4, (hb.block g (Array.getElem?_eq_some_iff.1 h5).1).trans h5, h6⟩
theorem GSl.slice {α : Type} {E : El} {enc : α → Array Value} {w : World} {v : Value} {C : List α} (h : GSl E enc w v C) : ∃ (o : Option Addr) (cap : Nat), v = .slice o C.length cap ∧ C.length ≤ cap ∧ cap ≤ maxLen := by
  obtain ⟨o, cap, h1, h2, h3, _⟩ := h
  exact ⟨o, cap, h1, h2, h3⟩
theorem GSl.at {α : Type} {E : El} {enc : α → Array Value} {w : World} {o : Option Addr} {n cap : Nat} {C : List α} (h : GSl E enc w (.slice o n cap) C) (k : Nat) (hk : k < n) :
    ∃ g off cur t fr, ∃ c : α, o = some ⟨g, off, none⟩ ∧ w.heap[g]? = some (.cells cur t fr) ∧ (∀ j, j < E.size → cur[off + k * E.size + j]? = (enc c)[j]?) ∧ C[k]? = some c := by
  obtain ⟨o', cap', h1, _, _, h3⟩ := h
  simp only [Value.slice.injEq] at h1
  obtain ⟨rfl, rfl, rfl⟩ := h1
  obtain ⟨g, off, cur, t, fr, h4, h5, h6⟩ := h3 k hk
  exact ⟨g, off, cur, t, fr, C[k], h4, h5, h6, List.getElem?_eq_getElem hk⟩
theorem gsl_of {α : Type} {E : El} {enc : α → Array Value} {w : World} {B : Nat} {v : Value} {C : List α} (h : w.ownsRow B E.elem E.size v C.length (gcells enc C)) (hC : ∀ c ∈ C, (enc c).size = E.size) : GSl E enc w v C := by
  obtain ⟨h1, ⟨rfl, h2⟩ | ⟨g, cap, cur, rfl, hB, hcur, h5, h6, _, h4⟩⟩ := h
  · exact ⟨none, 0, by rw [h2], by omega, Nat.zero_le _, fun i hi => by omega⟩
  · refine ⟨_, cap, rfl, h5, h6, fun i hi => ⟨g, 0, cur, _, _, rfl, hcur, fun j hj => ?_⟩⟩
    have hlt : E.size * i + j < C.length * E.size := by
      have : E.size * (i + 1) ≤ E.size * C.length := Nat.mul_le_mul_left _ hi
      rw [Nat.mul_add, Nat.mul_one] at this
      rw [Nat.mul_comm C.length]
      omega
    rw [← gcells_at enc E.size C hC i hi j hj, ← h4, List.getElem?_take_of_lt hlt, Nat.zero_add, Nat.mul_comm]
    simp
theorem gsl_nil {α : Type} (E : El) (enc : α → Array Value) (w : World) : GSl E enc w (.slice none 0 0) [] := ⟨none, 0, rfl, Nat.le_refl _, Nat.zero_le _, fun i hi => absurd hi (by simp)⟩
theorem gown_slice {w : World} {B : Nat} {e : TypeId} {s : Nat} {v : Value} {n : Nat} {xs : List Value} (h : w.ownsRow B e s v n xs) : ∃ o cap, v = .slice o n cap := by
  obtain ⟨_, ⟨rfl, rfl⟩ | ⟨g, cap, cur, rfl, _⟩⟩ := h
  · exact ⟨none, 0, rfl⟩
  · exact ⟨_, cap, rfl⟩
theorem gown_below {w w' : World} {B : Nat} {e : TypeId} {s : Nat} {v : Value} {n : Nat} {xs : List Value} (h : w.ownsRow B e s v n xs) (hb : Below w.heap.size w w') : w'.ownsRow B e s v n xs := by
  obtain ⟨h1, h2 | ⟨g, cap, cur, rfl, hB, hcur, h3⟩⟩ := h
  · exact ⟨h1, .inl h2⟩
  · exact ⟨h1, .inr ⟨g, cap, cur, rfl, hB, (hb.block g (Array.getElem?_eq_some_iff.1 hcur).1).trans hcur, h3⟩⟩
theorem gown_ne {w : World} {B : Nat} {e : TypeId} {s : Nat} {v : Value} {n : Nat} {xs : List Value} (h : w.ownsRow B e s v n xs) {g : Nat} (hg : w.heap.size ≤ g) : v.ownBlock ≠ some g := fun hq => by
  have := (h.lt g hq).2
  omega
theorem gown_base {w : World} {B B' : Nat} {e : TypeId} {s : Nat} {v : Value} {n : Nat} {xs : List Value} (h : w.ownsRow B e s v n xs) (hB' : B' ≤ B) : w.ownsRow B' e s v n xs := by
  obtain ⟨h1, h2 | ⟨g', cap, cur, rfl, hB, h3⟩⟩ := h
  · exact ⟨h1, .inl h2⟩
  · exact ⟨h1, .inr ⟨g', cap, cur, rfl, by omega, h3⟩⟩
end Go.Proofs.YtnbklmmampdbfaaGreatDoor
namespace Go.Proofs.YtnbklmmampdbfaaGreatDoor
open Go
set_option maxRecDepth 20000

/-- A token. -/
structure Tok where
  kind : Nat
  pos : Nat
  text : List UInt8
  num : Nat

def isLet (c : UInt8) : Bool := decide (97 ≤ c.toNat) && decide (c.toNat ≤ 122)
def isDig (c : UInt8) : Bool := decide (48 ≤ c.toNat) && decide (c.toNat ≤ 57)
def isBlank (c : UInt8) : Bool := c == 9 || c == 13 || c == 32
def notEnd (c : UInt8) : Bool := c != 10
/-- Digits as a number. -/
def val (D : List UInt8) : Nat := D.foldl (fun n c => n * 10 + (c.toNat - 48)) 0
/-- Digits as a number that may be. -/
def numOf (D : List UInt8) : Option Nat := if decide (4294967295 < val D) || (decide (1 < D.length) && D.head? == some 48) then none else some (val D)

/-- What begins at a place: nothing, a token, or something wrong. -/
abbrev Lx := Except Nat (Option (Nat × List UInt8 × Nat))
abbrev Lx.none : Lx := Except.ok Option.none
abbrev Lx.tok (k : Nat) (t : List UInt8) (v : Nat) : Lx := Except.ok (some (k, t, v))
abbrev Lx.err (e : Nat) : Lx := Except.error e

/-- What begins with a byte, and how many more bytes it has. -/
def lexeme (c : UInt8) (r : List UInt8) : Lx × Nat :=
  if isBlank c then (Lx.none, 0)
  else if isLet c then (Lx.tok 1 (c :: r.takeWhile isLet) 0, (r.takeWhile isLet).length)
  else if isDig c then (match numOf (c :: r.takeWhile isDig) with | some n => Lx.tok 2 [] n | Option.none => Lx.err 7, (r.takeWhile isDig).length)
  else if c == 46 then (Lx.tok 3 [] 0, 0)
  else if c == 47 then (Lx.tok 4 [] 0, 0)
  else if c == 45 then (if r.head? == some 62 then (Lx.tok 6 [] 0, 1) else (Lx.tok 5 [] 0, 0))
  else if c == 10 then (Lx.tok 7 [] 0, 0)
  else if c == 35 then (Lx.none, (r.takeWhile notEnd).length)
  else (Lx.err 6, 0)

/-- Tokens ahead of what comes to be. -/
def glue (P : List Tok) : Except (Nat × Nat) (List Tok) → Except (Nat × Nat) (List Tok)
  | .ok l => .ok (P ++ l)
  | .error x => .error x
theorem glue_glue (P Q : List Tok) (x : Except (Nat × Nat) (List Tok)) : glue P (glue Q x) = glue (P ++ Q) x := by
  cases x <;> simp [glue]
theorem glue_nil (x : Except (Nat × Nat) (List Tok)) : glue [] x = x := by cases x <;> rfl

/-- The tokens of a text that begins at a place, so many steps at most. -/
def lexF : Nat → Nat → List UInt8 → Except (Nat × Nat) (List Tok)
  | 0, _, _ => .ok []
  | _ + 1, _, [] => .ok []
  | f + 1, p, c :: r => match lexeme c r with
    | (.ok Option.none, n) => lexF f (p + 1 + n) (r.drop n)
    | (.ok (some (k, t, v)), n) => glue [⟨k, p, t, v⟩] (lexF f (p + 1 + n) (r.drop n))
    | (.error e, _) => .error (e, p)
/-- The tokens of a text that begins at a place. -/
def lexW (p : Nat) (S : List UInt8) : Except (Nat × Nat) (List Tok) := lexF S.length p S
theorem lexF_more : ∀ (f g p : Nat) (S : List UInt8), S.length ≤ f → S.length ≤ g → lexF f p S = lexF g p S
  | 0, 0, _, _, _, _ => rfl
  | 0, g + 1, p, S, hf, _ => by
    obtain rfl : S = [] := List.eq_nil_of_length_eq_zero (by omega)
    rfl
  | f + 1, 0, p, S, _, hg => by
    obtain rfl : S = [] := List.eq_nil_of_length_eq_zero (by omega)
    rfl
  | f + 1, g + 1, p, [], _, _ => rfl
  | f + 1, g + 1, p, c :: r, hf, hg => by
    have hl : ∀ n, (r.drop n).length ≤ f ∧ (r.drop n).length ≤ g := fun n => by simp at hf hg ⊢; omega
    have ih : ∀ q n, lexF f q (r.drop n) = lexF g q (r.drop n) := fun q n => lexF_more f g q (r.drop n) (hl n).1 (hl n).2
    simp only [lexF, ih]

theorem lexW_nil (p : Nat) : lexW p [] = .ok [] := rfl
theorem lexW_none {p : Nat} {c : UInt8} {r : List UInt8} {n : Nat} (h : lexeme c r = (Lx.none, n)) : lexW p (c :: r) = lexW (p + 1 + n) (r.drop n) := by
  unfold lexW
  rw [List.length_cons, lexF, h]
  exact lexF_more _ _ _ _ (by simp) (Nat.le_refl _)
theorem lexW_tok {p : Nat} {c : UInt8} {r : List UInt8} {n k v : Nat} {t : List UInt8} (h : lexeme c r = (Lx.tok k t v, n)) : lexW p (c :: r) = glue [⟨k, p, t, v⟩] (lexW (p + 1 + n) (r.drop n)) := by
  unfold lexW
  rw [List.length_cons, lexF, h]
  exact congrArg (glue _) (lexF_more _ _ _ _ (by simp) (Nat.le_refl _))
theorem lexW_err {p : Nat} {c : UInt8} {r : List UInt8} {n e : Nat} (h : lexeme c r = (Lx.err e, n)) : lexW p (c :: r) = .error (e, p) := by
  unfold lexW
  rw [List.length_cons, lexF, h]

/-- An induction along the text. -/
theorem lexW_induct (Q : Nat → List UInt8 → Prop) (h0 : ∀ p, Q p []) (h1 : ∀ p c r n, lexeme c r = (Lx.none, n) → Q (p + 1 + n) (r.drop n) → Q p (c :: r))
    (h2 : ∀ p c r n k t v, lexeme c r = (Lx.tok k t v, n) → Q (p + 1 + n) (r.drop n) → Q p (c :: r)) (h3 : ∀ p c r n e, lexeme c r = (Lx.err e, n) → Q p (c :: r)) : ∀ S p, Q p S := by
  have key : ∀ d (S : List UInt8) p, S.length ≤ d → Q p S := by
    intro d
    induction d with
    | zero => intro S p hS; obtain rfl : S = [] := List.eq_nil_of_length_eq_zero (by omega); exact h0 p
    | succ d ih =>
      intro S p hS
      cases S with
      | nil => exact h0 p
      | cons c r =>
        have hl : ∀ n, (r.drop n).length ≤ d := fun n => by simp at hS ⊢; omega
        rcases hx : lexeme c r with ⟨x, n⟩
        rcases x with e | _ | ⟨k, t, v⟩
        · exact h3 p c r n e hx
        · exact h1 p c r n hx (ih _ _ (hl n))
        · exact h2 p c r n k t v hx (ih _ _ (hl n))
  exact fun S p => key _ S p (Nat.le_refl _)

theorem takeWhile_le (q : UInt8 → Bool) (r : List UInt8) : (r.takeWhile q).length ≤ r.length := (List.takeWhile_prefix q).length_le
theorem takeWhile_take (q : UInt8 → Bool) : ∀ r : List UInt8, r.take (r.takeWhile q).length = r.takeWhile q
  | [] => rfl
  | c :: r => by
    rw [List.takeWhile_cons]
    cases h : q c
    · simp
    · simp [takeWhile_take q r]
/-- No lexeme has more bytes than there are. -/
theorem lexeme_le (c : UInt8) (r : List UInt8) : (lexeme c r).2 ≤ r.length := by
  unfold lexeme
  have h1 := takeWhile_le isLet r
  have h2 := takeWhile_le isDig r
  have h3 := takeWhile_le notEnd r
  repeat' split
  all_goals first | exact Nat.zero_le _ | exact h1 | exact h2 | exact h3 | skip
  rename_i h
  cases r with
  | nil => simp at h
  | cons d r => simp
theorem lexeme_word {c : UInt8} {r : List UInt8} {n k v : Nat} {t : List UInt8} (h : lexeme c r = (Lx.tok k t v, n)) (hk : k = 1) : t = c :: r.take n := by
  unfold lexeme at h
  repeat' split at h
  all_goals simp only [Prod.mk.injEq, Except.ok.injEq, Option.some.injEq, reduceCtorEq, false_and] at h
  · obtain ⟨⟨_, rfl, _⟩, rfl⟩ := h
    rw [takeWhile_take]
  all_goals try omega
  all_goals
    split at h
    · simp only [Except.ok.injEq, Option.some.injEq, Prod.mk.injEq] at h; omega
    · simp at h

/-- Tokens lie within the text, and rise; a word stands where it is told to. -/
theorem lexW_places : ∀ (S : List UInt8) (p : Nat) (l : List Tok), lexW p S = .ok l →
    (∀ (i : Nat) (t : Tok), l[i]? = some t → p ≤ t.pos ∧ t.pos < p + S.length ∧ (t.kind = 1 → t.pos + t.text.length ≤ p + S.length ∧ (S.drop (t.pos - p)).take t.text.length = t.text)) ∧
    (∀ (i : Nat) (a b : Tok), l[i]? = some a → l[i + 1]? = some b → a.pos < b.pos) ∧ l.length ≤ S.length := by
  refine lexW_induct _ (fun p l h => ?_) (fun p c r n hx ih l h => ?_) (fun p c r n k t v hx ih l h => ?_) (fun p c r n e hx l h => ?_)
  · rw [lexW_nil] at h
    obtain rfl : [] = l := Except.ok.inj h
    refine ⟨fun i t ht => by simp at ht, fun i a b ha => by simp at ha, Nat.zero_le _⟩
  · rw [lexW_none hx] at h
    have hn : n ≤ r.length := by have := lexeme_le c r; rw [hx] at this; exact this
    have hl : (r.drop n).length = r.length - n := List.length_drop
    obtain ⟨h1, h2, h3⟩ := ih l h
    refine ⟨fun i t ht => ?_, h2, by simp at h3 ⊢; omega⟩
    obtain ⟨g1, g2, g3⟩ := h1 i t ht
    refine ⟨by omega, by simp; omega, fun hk => ?_⟩
    obtain ⟨g4, g5⟩ := g3 hk
    refine ⟨by simp; omega, ?_⟩
    rw [show t.pos - p = (n + (t.pos - (p + 1 + n))) + 1 by omega, List.drop_succ_cons, ← List.drop_drop]
    exact g5
  · rw [lexW_tok hx] at h
    have hn : n ≤ r.length := by have := lexeme_le c r; rw [hx] at this; exact this
    have hl : (r.drop n).length = r.length - n := List.length_drop
    cases hy : lexW (p + 1 + n) (r.drop n) with
    | error x => rw [hy] at h; simp [glue] at h
    | ok l' =>
      rw [hy] at h
      obtain rfl : ⟨k, p, t, v⟩ :: l' = l := by simpa [glue] using h
      obtain ⟨h1, h2, h3⟩ := ih l' hy
      refine ⟨fun i u hu => ?_, fun i a b ha hb => ?_, by simp at h3 ⊢; omega⟩
      · cases i with
        | zero =>
          obtain rfl : ⟨k, p, t, v⟩ = u := by simpa using hu
          refine ⟨Nat.le_refl _, by simp, fun hk => ?_⟩
          have ht := lexeme_word hx hk
          subst ht
          simp only [List.length_cons, List.length_take, Nat.sub_self, List.drop_zero]
          refine ⟨by omega, ?_⟩
          rw [Nat.min_eq_left hn, List.take_succ_cons]
        | succ i =>
          obtain ⟨g1, g2, g3⟩ := h1 i u (by simpa using hu)
          refine ⟨by omega, by simp; omega, fun hk => ?_⟩
          obtain ⟨g4, g5⟩ := g3 hk
          refine ⟨by simp; omega, ?_⟩
          rw [show u.pos - p = (n + (u.pos - (p + 1 + n))) + 1 by omega, List.drop_succ_cons, ← List.drop_drop]
          exact g5
      · cases i with
        | zero =>
          obtain rfl : ⟨k, p, t, v⟩ = a := by simpa using ha
          have := (h1 0 b (by simpa using hb)).1
          show p < b.pos
          omega
        | succ i => exact h2 i a b (by simpa using ha) (by simpa using hb)
  · rw [lexW_err hx] at h; cases h
/-- What is wrong lies within the text. -/
theorem lexW_error : ∀ (S : List UInt8) (p e q : Nat), lexW p S = .error (e, q) → p ≤ q ∧ q < p + S.length ∧ (e = 6 ∨ e = 7) := by
  refine lexW_induct _ (fun p e q h => ?_) (fun p c r n hx ih e q h => ?_) (fun p c r n k t v hx ih e q h => ?_) (fun p c r n e' hx e q h => ?_)
  · rw [lexW_nil] at h; cases h
  · rw [lexW_none hx] at h
    have hn : n ≤ r.length := by have := lexeme_le c r; rw [hx] at this; exact this
    have := ih e q h
    simp at this ⊢
    omega
  · rw [lexW_tok hx] at h
    have hn : n ≤ r.length := by have := lexeme_le c r; rw [hx] at this; exact this
    cases hy : lexW (p + 1 + n) (r.drop n) with
    | error x =>
      rw [hy] at h
      obtain rfl : x = (e, q) := by simpa [glue] using h
      have := ih e q hy
      simp at this ⊢
      omega
    | ok l' => rw [hy] at h; simp [glue] at h
  · rw [lexW_err hx] at h
    obtain ⟨rfl, rfl⟩ := Prod.mk.inj (Except.error.inj h)
    refine ⟨Nat.le_refl _, by simp, ?_⟩
    unfold lexeme at hx
    repeat' split at hx
    all_goals simp only [Prod.mk.injEq, Except.error.injEq, reduceCtorEq, false_and] at hx
    all_goals omega

/-- Tokens so many places on. -/
def sh (d : Nat) (t : Tok) : Tok := ⟨t.kind, t.pos + d, t.text, t.num⟩
def shiftE (d : Nat) : Except (Nat × Nat) (List Tok) → Except (Nat × Nat) (List Tok)
  | .ok l => .ok (l.map (sh d))
  | .error x => .error (x.1, x.2 + d)
theorem lexW_shift (d : Nat) : ∀ (S : List UInt8) (p : Nat), lexW (p + d) S = shiftE d (lexW p S) := by
  refine lexW_induct _ (fun p => ?_) (fun p c r n hx ih => ?_) (fun p c r n k t v hx ih => ?_) (fun p c r n e hx => ?_)
  · rw [lexW_nil, lexW_nil]; rfl
  · rw [lexW_none hx, lexW_none hx, ← ih]; congr 1; omega
  · rw [lexW_tok hx, lexW_tok hx, show p + d + 1 + n = p + 1 + n + d by omega, ih]
    cases lexW (p + 1 + n) (r.drop n) <;> rfl
  · rw [lexW_err hx, lexW_err hx]; rfl

theorem takeWhile_append_stop (q : UInt8 → Bool) (Y : List UInt8) (hY : ∀ y, Y.head? = some y → q y = false) : ∀ X : List UInt8, (∀ x ∈ X, q x = true) → (X ++ Y).takeWhile q = X
  | [], _ => by
    cases Y with
    | nil => rfl
    | cons y Y => simp [hY y rfl]
  | x :: X, h => by
    have hx := h x (by simp)
    rw [List.cons_append, List.takeWhile_cons, if_pos hx, takeWhile_append_stop q Y hY X fun z hz => h z (by simp [hz])]
theorem takeWhile_all (q : UInt8 → Bool) : ∀ (r : List UInt8), ∀ x ∈ r.takeWhile q, q x = true
  | [], x, hx => by simp at hx
  | c :: r, x, hx => by
    rw [List.takeWhile_cons] at hx
    split at hx
    · rename_i hc
      rcases List.mem_cons.1 hx with rfl | hx
      · exact hc
      · exact takeWhile_all q r x hx
    · simp at hx
theorem takeWhile_stop (q : UInt8 → Bool) : ∀ (r : List UInt8) (y : UInt8), (r.drop (r.takeWhile q).length).head? = some y → q y = false
  | [], y, h => by simp at h
  | c :: r, y, h => by
    rw [List.takeWhile_cons] at h
    split at h
    · exact takeWhile_stop q r y (by simpa using h)
    · rename_i hc
      obtain rfl : c = y := by simpa using h
      simpa using hc

/-- What stands for nothing begins with a blank or a remark's sign. -/
def soft (b : UInt8) : Bool := isBlank b || b == 35
theorem soft_let {b : UInt8} (h : soft b = true) : isLet b = false ∧ isDig b = false ∧ (b == 62) = false := by
  unfold soft isBlank at h
  simp only [Bool.or_eq_true, beq_iff_eq] at h
  rcases h with ((rfl | rfl) | rfl) | rfl <;> decide
theorem lexeme_none {c : UInt8} {r : List UInt8} {n : Nat} (h : lexeme c r = (Lx.none, n)) : (isBlank c = true ∧ n = 0) ∨ (c = 35 ∧ n = (r.takeWhile notEnd).length) := by
  unfold lexeme at h
  repeat' split at h
  all_goals simp only [Prod.mk.injEq, Except.ok.injEq, reduceCtorEq, false_and, true_and] at h
  · rename_i hc; exact .inl ⟨hc, h.symm⟩
  · rename_i hc; exact .inr ⟨by simpa using hc, h.symm⟩
theorem lexeme_blank {c : UInt8} (h : isBlank c = true) (r : List UInt8) : lexeme c r = (Lx.none, 0) := by unfold lexeme; rw [if_pos h]
theorem lexeme_hash (r : List UInt8) : lexeme 35 r = (Lx.none, (r.takeWhile notEnd).length) := by
  unfold lexeme
  rw [if_neg (by decide), if_neg (by decide), if_neg (by decide), if_neg (by decide), if_neg (by decide), if_neg (by decide), if_neg (by decide), if_pos (by decide)]
theorem lexeme_line (r : List UInt8) : lexeme 10 r = (Lx.tok 7 [] 0, 0) := by
  unfold lexeme
  rw [if_neg (by decide), if_neg (by decide), if_neg (by decide), if_neg (by decide), if_neg (by decide), if_neg (by decide), if_pos (by decide)]

/-- A lexeme's bytes make the same lexeme ahead of another text, where that does not go on with it. -/
theorem lexeme_ext {c : UInt8} {r : List UInt8} {n k v : Nat} {t : List UInt8} (h : lexeme c r = (Lx.tok k t v, n)) (Y : List UInt8)
    (hY : Y.head? = (r.drop n).head? ∨ ∃ b, Y.head? = some b ∧ soft b = true) : lexeme c (r.take n ++ Y) = (Lx.tok k t v, n) := by
  have stop : ∀ q : UInt8 → Bool, (∀ b, soft b = true → q b = false) → n = (r.takeWhile q).length → (r.take n ++ Y).takeWhile q = r.takeWhile q := fun q hq hn => by
    subst hn
    rw [takeWhile_take]
    refine takeWhile_append_stop q Y (fun y hy => ?_) _ (takeWhile_all q r)
    rcases hY with hY | ⟨b, hb, hs⟩
    · exact takeWhile_stop q r y (by rw [← hY]; exact hy)
    · rw [hb] at hy
      obtain rfl : b = y := by simpa using hy
      exact hq b hs
  unfold lexeme at h ⊢
  by_cases c0 : isBlank c = true
  · rw [if_pos c0] at h; simp at h
  rw [if_neg c0] at h ⊢
  by_cases c1 : isLet c = true
  · rw [if_pos c1] at h ⊢
    have hn : n = (r.takeWhile isLet).length := (Prod.mk.inj h).2.symm
    rw [stop isLet (fun b hb => (soft_let hb).1) hn]
    exact h
  rw [if_neg c1] at h ⊢
  by_cases c2 : isDig c = true
  · rw [if_pos c2] at h ⊢
    have hn : n = (r.takeWhile isDig).length := (Prod.mk.inj h).2.symm
    rw [stop isDig (fun b hb => (soft_let hb).2.1) hn]
    exact h
  rw [if_neg c2] at h ⊢
  by_cases c3 : (c == 46) = true
  · rw [if_pos c3] at h ⊢; exact h
  rw [if_neg c3] at h ⊢
  by_cases c4 : (c == 47) = true
  · rw [if_pos c4] at h ⊢; exact h
  rw [if_neg c4] at h ⊢
  by_cases c5 : (c == 45) = true
  · rw [if_pos c5] at h ⊢
    by_cases c6 : (r.head? == some 62) = true
    · rw [if_pos c6] at h
      have hn : 1 = n := (Prod.mk.inj h).2
      subst hn
      cases r with
      | nil => simp at c6
      | cons d r =>
        obtain rfl : d = 62 := by simpa using c6
        rw [if_pos (by simp)]
        exact h
    · rw [if_neg c6] at h
      have hn : 0 = n := (Prod.mk.inj h).2
      subst hn
      rw [if_neg]
      · exact h
      · rw [List.take_zero, List.nil_append]
        rcases hY with hY | ⟨b, hb, hs⟩
        · rw [hY, List.drop_zero]; exact c6
        · rw [hb]
          have := (soft_let hs).2.2
          simpa using this
  rw [if_neg c5] at h ⊢
  by_cases c7 : (c == 10) = true
  · rw [if_pos c7] at h ⊢; exact h
  rw [if_neg c7] at h ⊢
  by_cases c8 : (c == 35) = true
  · rw [if_pos c8] at h; simp at h
  · rw [if_neg c8] at h; simp at h

/-- What stands for nothing has no end of a line. -/
theorem blank_no10 : ∀ (B : List UInt8) (p : Nat), lexW p B = .ok [] → ∀ b ∈ B, notEnd b = true := by
  refine lexW_induct _ (fun p h b hb => by simp at hb) (fun p c r n hx ih h b hb => ?_) (fun p c r n k t v hx ih h => ?_) (fun p c r n e hx h => ?_)
  · rw [lexW_none hx] at h
    have hc : notEnd c = true := by
      rcases lexeme_none hx with ⟨h1, _⟩ | ⟨rfl, _⟩
      · unfold isBlank at h1
        simp only [Bool.or_eq_true, beq_iff_eq] at h1
        rcases h1 with (rfl | rfl) | rfl <;> decide
      · decide
    rcases List.mem_cons.1 hb with rfl | hb
    · exact hc
    · rw [← List.take_append_drop n r, List.mem_append] at hb
      rcases hb with hb | hb
      · rcases lexeme_none hx with ⟨_, rfl⟩ | ⟨_, rfl⟩
        · simp at hb
        · rw [takeWhile_take] at hb; exact takeWhile_all _ _ b hb
      · exact ih h b hb
  · rw [lexW_tok hx] at h
    cases hy : lexW (p + 1 + n) (r.drop n) with
    | error x => rw [hy] at h; simp [glue] at h
    | ok l' => rw [hy] at h; simp [glue] at h
  · rw [lexW_err hx] at h; cases h
theorem notEnd_10 : notEnd 10 = false := by decide
/-- What stands for nothing, and the end of its line. -/
theorem blank_line (R : List UInt8) : ∀ (B : List UInt8) (p : Nat), lexW p B = .ok [] → lexW p (B ++ 10 :: R) = glue [⟨7, p + B.length, [], 0⟩] (lexW (p + B.length + 1) R) := by
  refine lexW_induct _ (fun p _ => ?_) (fun p c r n hx ih h => ?_) (fun p c r n k t v hx ih h => ?_) (fun p c r n e hx h => ?_)
  · rw [List.nil_append, lexW_tok (lexeme_line R)]; rfl
  · have h10 := blank_no10 (c :: r) p h
    rw [lexW_none hx] at h
    rcases lexeme_none hx with ⟨h1, rfl⟩ | ⟨rfl, hn⟩
    · rw [List.cons_append, lexW_none (lexeme_blank h1 (r ++ 10 :: R)), List.drop_zero]
      have := ih h
      rw [List.drop_zero] at this
      rw [this]
      congr 2
      · simp; omega
      · simp; omega
    · have hall : (r ++ 10 :: R).takeWhile notEnd = r := takeWhile_append_stop notEnd _ (fun y hy => by
        obtain rfl : 10 = y := by simpa using hy
        exact notEnd_10) r fun x hx => h10 x (by simp [hx])
      have hh := lexeme_hash (r ++ 10 :: R)
      rw [hall] at hh
      rw [List.cons_append, lexW_none hh, List.drop_left, lexW_tok (lexeme_line R), List.drop_zero]
      congr 2
      · simp; omega
      · simp; omega
  · rw [lexW_tok hx] at h
    cases hy : lexW (p + 1 + n) (r.drop n) with
    | error x => rw [hy] at h; simp [glue] at h
    | ok l' => rw [hy] at h; simp [glue] at h
  · rw [lexW_err hx] at h; cases h
theorem blank_soft {B : List UInt8} {p : Nat} (h : lexW p B = .ok []) {b : UInt8} (hb : B.head? = some b) : soft b = true := by
  cases B with
  | nil => simp at hb
  | cons c r =>
    obtain rfl : c = b := by simpa using hb
    rcases hx : lexeme c r with ⟨x, n⟩
    rcases x with e | _ | ⟨k, t, v⟩
    · rw [lexW_err hx] at h; cases h
    · unfold soft
      rcases lexeme_none hx with ⟨h1, _⟩ | ⟨rfl, _⟩
      · rw [h1]; rfl
      · decide
    · rw [lexW_tok hx] at h
      cases hy : lexW (p + 1 + n) (r.drop n) with
      | error x => rw [hy] at h; simp [glue] at h
      | ok l' => rw [hy] at h; simp [glue] at h

/-- WHAT STANDS FOR NOTHING, AND THE END OF ITS LINE, PUT AHEAD OF A TOKEN: one Line more, and places. -/
theorem lexW_insert (B : List UInt8) (hB : lexW 0 B = .ok []) (hne : B ≠ []) : ∀ (S : List UInt8) (p : Nat) (l : List Tok), lexW p S = .ok l → ∀ (k : Nat) (t : Tok), l[k]? = some t →
    ∃ A R, S = A ++ R ∧ p ≤ t.pos ∧ A.length = t.pos - p ∧ lexW t.pos R = .ok (l.drop k) ∧ lexW p (A ++ (B ++ 10 :: R)) = glue (l.take k ++ [⟨7, t.pos + B.length, [], 0⟩]) (lexW (t.pos + B.length + 1) R) := by
  have hBp : ∀ p, lexW p B = .ok [] := fun p => by
    have := lexW_shift p B 0
    rw [Nat.zero_add, hB] at this
    exact this
  obtain ⟨b, B', hb⟩ : ∃ b B', B = b :: B' := by
    cases B with
    | nil => exact absurd rfl hne
    | cons b B' => exact ⟨b, B', rfl⟩
  have hsoft : soft b = true := blank_soft hB (by rw [hb]; rfl)
  have hBh : (B ++ (10 :: ([] : List UInt8))).head? = some b := by rw [hb]; rfl
  refine lexW_induct _ (fun p l h => ?_) (fun p c r n hx ih l h k t ht => ?_) (fun p c r n kd tx v hx ih l h k t ht => ?_) (fun p c r n e hx l h => ?_)
  · rw [lexW_nil] at h
    obtain rfl : [] = l := Except.ok.inj h
    intro k t ht; simp at ht
  · rw [lexW_none hx] at h
    obtain ⟨A, R, hAR, hp, hA, hR, hI⟩ := ih l h k t ht
    have hr : r = r.take n ++ (A ++ R) := by rw [← hAR, List.take_append_drop]
    have hn : n ≤ r.length := by have := lexeme_le c r; rw [hx] at this; exact this
    refine ⟨c :: (r.take n ++ A), R, by rw [List.cons_append, List.append_assoc, ← hr], by omega, by simp [Nat.min_eq_left hn]; omega, hR, ?_⟩
    rw [List.cons_append, List.append_assoc]
    rcases lexeme_none hx with ⟨h1, rfl⟩ | ⟨rfl, hnn⟩
    · rw [lexW_none (lexeme_blank h1 _), List.drop_zero, List.take_zero, List.nil_append]
      exact hI
    · have hta : ∀ x ∈ r.take n, notEnd x = true := by rw [hnn, takeWhile_take]; exact takeWhile_all _ _
      cases A with
      | cons a A' =>
        have ha : notEnd a = false := takeWhile_stop notEnd r a (by rw [← hnn, hAR]; rfl)
        have hw : (r.take n ++ (a :: A' ++ (B ++ 10 :: R))).takeWhile notEnd = r.take n := takeWhile_append_stop notEnd _ (fun y hy => by
          obtain rfl : a = y := by simpa using hy
          exact ha) _ hta
        have hh := lexeme_hash (r.take n ++ (a :: A' ++ (B ++ 10 :: R)))
        rw [hw, List.length_take, Nat.min_eq_left hn] at hh
        rw [lexW_none hh, List.drop_append_of_le_length (by simp [Nat.min_eq_left hn]), List.drop_of_length_le (by simp; omega), List.nil_append]
        exact hI
      | nil =>
        have hpos : t.pos = p + 1 + n := by simp at hA; omega
        have hR0 : r.drop n = R := hAR
        have hw : (r.take n ++ ([] ++ (B ++ 10 :: R))).takeWhile notEnd = r.take n ++ B := by
          rw [List.nil_append, ← List.append_assoc]
          refine takeWhile_append_stop notEnd _ (fun y hy => ?_) _ (fun x hx => ?_)
          · obtain rfl : 10 = y := by simpa using hy
            exact notEnd_10
          · rcases List.mem_append.1 hx with hx | hx
            · exact hta x hx
            · exact blank_no10 B 0 hB x hx
        have hh := lexeme_hash (r.take n ++ ([] ++ (B ++ 10 :: R)))
        rw [hw, List.length_append, List.length_take, Nat.min_eq_left hn] at hh
        rw [lexW_none hh, List.nil_append, ← List.append_assoc, List.drop_append_of_le_length (by simp [Nat.min_eq_left hn]), List.drop_of_length_le (by simp [Nat.min_eq_left hn]), List.nil_append, lexW_tok (lexeme_line R), List.drop_zero]
        have hk0 : l.take k = [] := by
          rw [← hR0, hpos, h] at hR
          have e := congrArg List.length (Except.ok.inj hR)
          rw [List.length_drop] at e
          have hkl : k < l.length := (List.getElem?_eq_some_iff.1 ht).1
          have : k = 0 := by omega
          rw [this]; rfl
        rw [hk0, List.nil_append, hpos]
        congr 2
        · simp; omega
        · omega
  · rw [lexW_tok hx] at h
    have hn : n ≤ r.length := by have := lexeme_le c r; rw [hx] at this; exact this
    cases hy : lexW (p + 1 + n) (r.drop n) with
    | error x => rw [hy] at h; simp [glue] at h
    | ok l' =>
      rw [hy] at h
      obtain rfl : ⟨kd, p, tx, v⟩ :: l' = l := by simpa [glue] using h
      cases k with
      | zero =>
        obtain rfl : ⟨kd, p, tx, v⟩ = t := by simpa using ht
        refine ⟨[], c :: r, rfl, Nat.le_refl _, by simp, ?_, ?_⟩
        · rw [List.drop_zero, lexW_tok hx, hy]; rfl
        · rw [List.nil_append, blank_line (c :: r) B p (hBp p)]; rfl
      | succ k =>
        obtain ⟨A, R, hAR, hp, hA, hR, hI⟩ := ih l' hy k t (by simpa using ht)
        have hr : r = r.take n ++ (A ++ R) := by rw [← hAR, List.take_append_drop]
        refine ⟨c :: (r.take n ++ A), R, by rw [List.cons_append, List.append_assoc, ← hr], by omega, by simp [Nat.min_eq_left hn]; omega, by simpa using hR, ?_⟩
        rw [List.cons_append, List.append_assoc]
        have hext : lexeme c (r.take n ++ (A ++ (B ++ 10 :: R))) = (Lx.tok kd tx v, n) := by
          refine lexeme_ext hx _ ?_
          cases A with
          | cons a A' => left; rw [hAR]; rfl
          | nil => right; exact ⟨b, by rw [hb]; rfl, hsoft⟩
        rw [lexW_tok hext, List.drop_append_of_le_length (by simp [Nat.min_eq_left hn]), List.drop_of_length_le (by simp; omega), List.nil_append, hI, glue_glue]
        simp
  · rw [lexW_err hx] at h; cases h

theorem lex_put (B : List UInt8) (hB : lexW 0 B = .ok []) (hne : B ≠ []) (S : List UInt8) (l : List Tok) (h : lexW 0 S = .ok l) (k : Nat) (t : Tok) (ht : l[k]? = some t) :
    lexW 0 (S.take t.pos ++ (B ++ 10 :: S.drop t.pos)) = .ok (l.take k ++ ⟨7, t.pos + B.length, [], 0⟩ :: (l.drop k).map (sh (B.length + 1))) := by
  obtain ⟨A, R, hS, _, hA, hR, hI⟩ := lexW_insert B hB hne S 0 l h k t ht
  rw [Nat.sub_zero] at hA
  have e1 : S.take t.pos = A := by rw [hS, ← hA, List.take_left]
  have e2 : S.drop t.pos = R := by rw [hS, ← hA, List.drop_left]
  rw [e1, e2, hI, show t.pos + B.length + 1 = t.pos + (B.length + 1) by omega, lexW_shift, hR]
  simp [shiftE, glue]
end Go.Proofs.YtnbklmmampdbfaaGreatDoor
namespace Go.Proofs.YtnbklmmampdbfaaGreatDoor
open Go Go.RowKit
set_option maxRecDepth 20000

/-- The extern that finds a byte. -/
theorem extern_idx (s : ByteArray) (c : Int) (w : World) : (callFunc 120 #[.string s, .int .u8 c]).run Tryz.prog w = .ok (.value (.int .i64 (Lib.indexByte s.data.toList c.toNat.toUInt8))) w := by
  rw [run_callFunc_extern (e := Extern.BytealgIndexByte.indexByte) Tryz.func120 (by kernel_rfl) (by kernel_rfl) (by kernel_rfl) (by kernel_rfl), Lib.run_indexByteString]
  rfl

set_option maxHeartbeats 400000 in
theorem idx_any (s : ByteArray) (c : Int) (w : World) :
    Calls Tryz.prog 91 #[.string s, .int .u8 c] w fun e w' => e = .returned (.int .i64 (Lib.indexByte s.data.toList c.toNat.toUInt8)) ∧ w' = w := by
  have h1 : ∀ W, (callFunc 120 #[.string s, .int .u8 c]).run Tryz.prog W = .ok (.value (.int .i64 (Lib.indexByte s.data.toList c.toNat.toUInt8))) W := extern_idx s c
  have h2 : ∀ W, Calls Tryz.prog 111 #[.string s, .int .u8 c] W fun e w' => e = .returned (.int .i64 (Lib.indexByte s.data.toList c.toNat.toUInt8)) ∧ w' = W := fun W => by
    go_enter Tryz.func111, Tryz.ntmps111
    go_wp2
    go_ret
    exact ⟨rfl, rfl⟩
  go_enter Tryz.func91, Tryz.ntmps91
  go_wp2_with fail
  refine (h2 _).mono ?_
  rintro e w1 ⟨rfl, rfl⟩
  go_wp2_with fail
  go_ret
  exact ⟨rfl, rfl⟩
theorem idx_iff (l : List UInt8) (c : UInt8) : 0 ≤ Lib.indexByte l c ↔ c ∈ l := by
  induction l with
  | nil => simp [Lib.indexByte]
  | cons b l ih =>
    have := Lib.indexByte_ge l c
    unfold Lib.indexByte
    by_cases h : (b == c) = true
    · rw [if_pos h]
      have : b = c := by simpa using h
      simp [this]
    · rw [if_neg h]
      have hne : ¬ c = b := fun e => h (by simp [e])
      by_cases h2 : (Lib.indexByte l c == -1) = true
      · rw [if_pos h2]
        have h3 : Lib.indexByte l c = -1 := by simpa using h2
        rw [h3] at ih
        simp only [List.mem_cons, hne, false_or, ← ih]
      · rw [if_neg h2]
        have h3 : ¬ Lib.indexByte l c = -1 := by simpa using h2
        simp only [List.mem_cons, hne, false_or, ← ih]
        omega
/-- Where a byte that is there stands first. -/
theorem idx_take (l : List UInt8) (c : UInt8) (h : 0 ≤ Lib.indexByte l c) : Lib.indexByte l c = ((l.takeWhile fun b => b != c).length : Nat) := by
  induction l with
  | nil => simp [Lib.indexByte] at h
  | cons b l ih =>
    have hge := Lib.indexByte_ge l c
    unfold Lib.indexByte at h ⊢
    by_cases h1 : (b == c) = true
    · rw [if_pos h1]
      have : b = c := by simpa using h1
      simp [this]
    · rw [if_neg h1] at h ⊢
      by_cases h2 : (Lib.indexByte l c == -1) = true
      · rw [if_pos h2] at h; omega
      · rw [if_neg h2]
        have h3 : ¬ Lib.indexByte l c = -1 := by simpa using h2
        have hb : (b != c) = true := by simpa using h1
        rw [List.takeWhile_cons, if_pos hb, List.length_cons, ih (by omega)]
        omega
theorem idx_none (l : List UInt8) (c : UInt8) (h : ¬ 0 ≤ Lib.indexByte l c) : (l.takeWhile fun b => b != c).length = l.length := by
  rw [idx_iff] at h
  have := takeWhile_append_stop (fun b => b != c) [] (fun y hy => by simp at hy) l fun b hb => by
    have : b ≠ c := fun e => h (e ▸ hb)
    simpa using this
  rw [List.append_nil] at this
  rw [this]

def abcL : List UInt8 := [97, 98, 99, 100, 101, 102, 103, 104, 105, 106, 107, 108, 109, 110, 111, 112, 113, 114, 115, 116, 117, 118, 119, 120, 121, 122]
def digL : List UInt8 := [48, 49, 50, 51, 52, 53, 54, 55, 56, 57]
theorem all256 (p : UInt8 → Bool) (h : (List.range 256).all (fun n => p (UInt8.ofNat n)) = true) (c : UInt8) : p c = true := by
  rw [List.all_eq_true] at h
  have := h c.toNat (by rw [List.mem_range]; exact c.toNat_lt)
  rwa [UInt8.ofNat_toNat] at this
theorem abc_let (c : UInt8) : decide (0 ≤ Lib.indexByte abcL c) = isLet c := by
  have := all256 (fun c => decide (0 ≤ Lib.indexByte abcL c) == isLet c) (by kernel_rfl) c
  simpa using this
theorem dig_dig (c : UInt8) : decide (0 ≤ Lib.indexByte digL c) = isDig c := by
  have := all256 (fun c => decide (0 ≤ Lib.indexByte digL c) == isDig c) (by kernel_rfl) c
  simpa using this

theorem tw_in (q : UInt8 → Bool) : ∀ (S : List UInt8) (k : Nat), k < (S.takeWhile q).length → ∃ b, S[k]? = some b ∧ q b = true
  | [], k, h => by simp at h
  | c :: S, k, h => by
    rw [List.takeWhile_cons] at h
    split at h
    · rename_i hc
      cases k with
      | zero => exact ⟨c, rfl, hc⟩
      | succ k =>
        obtain ⟨b, h1, h2⟩ := tw_in q S k (by simpa using h)
        exact ⟨b, by simpa using h1, h2⟩
    · simp at h
theorem tw_out (q : UInt8 → Bool) (S : List UInt8) (b : UInt8) (h : S[(S.takeWhile q).length]? = some b) : q b = false :=
  takeWhile_stop q S b (by rw [List.head?_drop]; exact h)
theorem byte_beq (b : UInt8) (c : UInt8) : (((b.toNat : Int)) == (c.toNat : Int)) = (b == c) := by
  rw [Bool.eq_iff_iff, beq_iff_eq, beq_iff_eq]
  constructor
  · intro h; exact UInt8.toNat_inj.1 (by exact_mod_cast h)
  · rintro rfl; rfl
theorem byte_q (s : ByteArray) (k : Nat) (hk : k < s.size) : s.data.toList[k]? = some s[k] := by
  rw [List.getElem?_eq_getElem (by simpa using hk)]; rfl

set_option maxHeartbeats 1000000 in
theorem row_any (s : ByteArray) (hs : s.size ≤ maxLen) (kind : ByteArray) (q : UInt8 → Bool) (hq : ∀ c, decide (0 ≤ Lib.indexByte kind.data.toList c) = q c) (w : World) :
    Calls Tryz.prog 92 #[.string s, .string kind] w fun e w' => e = .returned (.int .i64 ((s.data.toList.takeWhile q).length : Nat)) ∧ w' = w := by
  unfold maxLen at hs
  obtain ⟨T, hT⟩ : ∃ T, T = (s.data.toList.takeWhile q).length := ⟨_, rfl⟩
  have hTs : T ≤ s.size := by
    rw [hT, Lib.size_eq]; exact takeWhile_le q _
  have HIN : Hid (∀ k (hk : k < s.size), k < T → q s[k] = true) := fun k hk hkT => by
    obtain ⟨b, h1, h2⟩ := tw_in q s.data.toList k (by omega)
    rw [byte_q s k hk] at h1
    obtain rfl : s[k] = b := by simpa using h1
    exact h2
  have HOUT : Hid (∀ (hk : T < s.size), q s[T] = false) := fun hk => tw_out q s.data.toList _ (by rw [← hT]; exact byte_q s T hk)
  have HI : Hid (∀ (c : UInt8) W, Calls Tryz.prog 91 #[.string kind, .int .u8 (c.toNat : Int)] W fun e w' => e = .returned (.int .i64 (Lib.indexByte kind.data.toList c)) ∧ w' = W) := fun c W => by
    have := idx_any kind (c.toNat : Int) W
    rwa [show ((c.toNat : Int)).toNat.toUInt8 = c by simp] at this
  have HQ : Hid (∀ c, decide (0 ≤ Lib.indexByte kind.data.toList c) = q c) := hq
  rw [← hT]
  clear hT hq
  go_enter Tryz.func92, Tryz.ntmps92
  go_wp2_with fail
  go_loop [5] (fun n => ∃ k : Nat, k ≤ T ∧ n = .int .i64 (k : Int)) (fun n => T - (intOf n).toNat)
  case atStart => exact ⟨0, Nat.zero_le _, rfl⟩
  case round =>
    obtain ⟨k, hk, rfl⟩ := hrel
    by_cases hin : k < s.size
    · have hix : ∀ W, (Instr.index 9 (.string s) (.int .i64 (k : Int))).run Tryz.prog W = .ok (.int .u8 (s[k].toNat : Int)) W := fun W => by
        simp [go_sem, Tryz.underlying9, hin]
      obtain ⟨c, hc⟩ : ∃ c, c = s[k] := ⟨_, rfl⟩
      have C1 : Hid (∀ W, Calls Tryz.prog 91 #[.string kind, .int .u8 (c.toNat : Int)] W fun e w' => e = .returned (.int .i64 (Lib.indexByte kind.data.toList c)) ∧ w' = W) := HI.out c
      have hd := HQ.out c
      obtain ⟨J, hJ⟩ : ∃ J, J = Lib.indexByte kind.data.toList c := ⟨_, rfl⟩
      rw [← hJ] at C1 hd
      rw [← hc] at hix
      have hin' : (k : Int) < (s.size : Int) := by omega
      by_cases hkT : k < T
      · have hqc : q c = true := by rw [hc]; exact HIN.out k hin hkT
        have hJ0 : 0 ≤ J := by rw [hqc] at hd; exact of_decide_eq_true hd
        clear hd hqc hJ hc hin
        go_wp2_with fail
        refine (C1.out _).mono ?_
        rintro e w1 ⟨rfl, rfl⟩
        go_wp2_with fail
        go_round
        case rel => exact ⟨k + 1, by omega, by go_num⟩
        case measure => simp [intOf]; omega
      · have hkT' : k = T := by omega
        subst hkT'
        have hqc : q c = false := by rw [hc]; exact HOUT.out hin
        have hJ0 : ¬ 0 ≤ J := by rw [hqc] at hd; exact of_decide_eq_false hd
        clear hd hqc hJ hc hin hkT
        go_wp2_with fail
        refine (C1.out _).mono ?_
        rintro e w1 ⟨rfl, rfl⟩
        go_wp2_with fail
        go_ret
        exact ⟨rfl, rfl⟩
    · have hin' : (s.size : Int) ≤ (k : Int) := by omega
      have hkT' : k = T := by omega
      subst hkT'
      clear hin
      go_wp2_with fail
      go_ret
      exact ⟨rfl, rfl⟩

set_option maxHeartbeats 1000000 in
theorem remark_any (s : ByteArray) (w : World) :
    Calls Tryz.prog 68 #[.string s] w fun e w' => e = .returned (.int .i64 ((s.data.toList.takeWhile notEnd).length : Nat)) ∧ w' = w := by
  have C1 : Hid (∀ W, Calls Tryz.prog 91 #[.string s, .int .u8 10] W fun e w' => e = .returned (.int .i64 (Lib.indexByte s.data.toList 10)) ∧ w' = W) := fun W => idx_any s 10 W
  have h1 : 0 ≤ Lib.indexByte s.data.toList 10 → Lib.indexByte s.data.toList 10 = ((s.data.toList.takeWhile notEnd).length : Nat) := idx_take s.data.toList 10
  have h2 : ¬ 0 ≤ Lib.indexByte s.data.toList 10 → (s.data.toList.takeWhile notEnd).length = s.size := fun h => by
    rw [Lib.size_eq]; exact idx_none s.data.toList 10 h
  obtain ⟨J, hJ⟩ : ∃ J, J = Lib.indexByte s.data.toList 10 := ⟨_, rfl⟩
  obtain ⟨T, hT⟩ : ∃ T, T = (s.data.toList.takeWhile notEnd).length := ⟨_, rfl⟩
  rw [← hJ] at C1 h1 h2
  rw [← hT] at h1 h2 ⊢
  clear hJ hT
  by_cases h : 0 ≤ J
  · have := h1 h
    subst this
    clear h1 h2
    go_enter Tryz.func68, Tryz.ntmps68
    go_wp2_with fail
    refine (C1.out _).mono ?_
    rintro e w1 ⟨rfl, rfl⟩
    go_wp2_with fail
    go_ret
    exact ⟨rfl, rfl⟩
  · have := h2 h
    subst this
    clear h1 h2
    go_enter Tryz.func68, Tryz.ntmps68
    go_wp2_with fail
    refine (C1.out _).mono ?_
    rintro e w1 ⟨rfl, rfl⟩
    go_wp2_with fail
    go_ret
    exact ⟨rfl, rfl⟩
end Go.Proofs.YtnbklmmampdbfaaGreatDoor
namespace Go.Proofs.YtnbklmmampdbfaaGreatDoor
open Go Go.RowKit
set_option maxRecDepth 20000

/-- Where a walk stands still. -/
def StopT (p : Prop) : Prop := p
theorem of_stopT {p : Prop} (h : StopT p) : p := h
/-- A token's cells. -/
def tv (k p : Int) (t : ByteArray) (n : Int) : Array Value := #[.int .i64 k, .int .i64 p, .string t, .int .i64 n]
def encT (t : Tok) : Array Value := tv (t.kind : Nat) (t.pos : Nat) ⟨t.text.toArray⟩ (t.num : Nat)
def TokE : El := ⟨117, 80, 4, 40, tv 0 0 ⟨#[]⟩ 0⟩
theorem TokOk : TokE.Ok := ⟨Tryz.underlying80, ⟨_, Tryz.underlying117, rfl⟩, by kernel_rfl, rfl, by decide, by decide, by decide⟩
theorem tv_fits (k p : Int) (t : ByteArray) (n : Int) : Fits TokE (tv k p t n) := ⟨rfl, by simp [tv, Value.oneCell']⟩
theorem encT_size (t : Tok) : (encT t).size = TokE.size := rfl

theorem beq_bytes (a b : ByteArray) : (a == b) = (a.data.toList == b.data.toList) := by rw [beq_toListBytes, ByteArray.toList_eq, ByteArray.toList_eq]
theorem eqFields_step {P : Program} (w : World) {d : Nat} {xs ys : Array Value} {f : Field} {fs : List Field} {a b : Value} {r R : Bool} (hn : f.name ≠ "_") (ha : (part f.type xs f.offset).run P w = .ok a w) (hb : (part f.type ys f.offset).run P w = .ok b w)
    (he : (Op.equalIn d f.type a b).run P w = .ok r w) (h : (Op.eqFields d xs ys fs).run P w = .ok R w) : (Op.eqFields d xs ys (f :: fs)).run P w = .ok (r && R) w := by
  simp only [Op.eqFields, if_pos hn, Sem.run_bind, ha, hb, he, Result.andThen_ok]
  cases r
  · simp
  · simpa using h
theorem part_cell {P : Program} (w : World) {t : TypeId} {xs : Array Value} {k : Nat} {v : Value} (ha : (isAgg t).run P w = .ok false w) (hx : xs[k]? = some v) : (part t xs k).run P w = .ok v w := by
  simp [part, ha, hx, Sem.run_bind]
theorem eqT (k p : Int) (t : ByteArray) (n : Int) (k' p' : Int) (t' : ByteArray) (n' : Int) (w : World) :
    (Op.equalIn 10000 117 (.agg (tv k p t n)) (.agg (tv k' p' t' n'))).run Tryz.prog w = .ok (k == k' && (p == p' && (t.toList == t'.toList && (n == n' && true)))) w := by
  rw [run_equalIn_struct w 9999 117 _ _ Tryz.underlying117 (by kernel_rfl)]
  have a3 : (isAgg 3).run Tryz.prog w = .ok false w := by kernel_rfl
  have a9 : (isAgg 9).run Tryz.prog w = .ok false w := by kernel_rfl
  simp only [Program.fieldsOf, Tryz.underlying117]
  refine eqFields_step w (by decide) (part_cell w a3 rfl) (part_cell w a3 rfl) (run_equalIn_int w _ 3 .i64 .i64 _ _ Tryz.underlying3) ?_
  refine eqFields_step w (by decide) (part_cell w a3 rfl) (part_cell w a3 rfl) (run_equalIn_int w _ 3 .i64 .i64 _ _ Tryz.underlying3) ?_
  refine eqFields_step w (by decide) (part_cell w a9 rfl) (part_cell w a9 rfl) (run_equalIn_string w _ 9 _ _ Tryz.underlying9) ?_
  refine eqFields_step w (by decide) (part_cell w a3 rfl) (part_cell w a3 rfl) (run_equalIn_int w _ 3 .i64 .i64 _ _ Tryz.underlying3) ?_
  rfl
theorem eqT_same (t : Tok) (w : World) : (Op.equalIn 10000 117 (.agg (encT t)) (.agg (encT t))).run Tryz.prog w = .ok true w := by
  unfold encT
  rw [eqT]
  simp
theorem egT (op : BinOp) (x y : Operand) (xs ys : Array Value) (w : World) : (eqGuard op 117 x y (.agg xs) (.agg ys)).run Tryz.prog w = .ok () w :=
  run_eqGuard_agg w op 117 x y xs ys (by kernel_rfl)

theorem tc_row {w : World} {g k : Nat} {cs : Array Value} {t : TypeId} {fr : Nat × Nat} (h : w.heap[g]? = some (.cells cs t fr)) (v : Value) : (w.setCell ⟨g, k, none⟩ v).heap[g]? = some (.cells (cs.setIfInBounds k v) t fr) := by
  simp [World.setCell, Array.getElem?_modify, h]
theorem tc_far {w : World} {g g' k : Nat} (h : g ≠ g') (v : Value) : (w.setCell ⟨g, k, none⟩ v).heap[g']? = w.heap[g']? := by
  simp [World.setCell, Array.getElem?_modify, h]
theorem tc_below {B : Nat} {a w : World} (h : Below B a w) {g : Nat} (hg : B ≤ g) (k : Nat) (v : Value) : Below B a (w.setCell ⟨g, k, none⟩ v) :=
  ⟨h.os, h.tape, h.output, by simpa [World.setCell] using h.size, fun j hj => (tc_far (by omega) v).trans (h.block j hj)⟩
theorem tc_size (w : World) (a : Addr) (v : Value) : (w.setCell a v).heap.size = w.heap.size := by simp [World.setCell]
theorem tc_frozen {w : World} {g k : Nat} {cs : Array Value} {t : TypeId} {fr : Nat × Nat} (h : w.heap[g]? = some (.cells cs t fr)) (hf : fr = (0, 0)) : w.frozen? ⟨g, k, none⟩ = false := by
  subst hf
  simp [World.frozen?, h]

theorem retT {fn : Func} {R : Ending → World → Prop} {a : Act} {w : World} {p u u' : Tmp} (hr : fn.results = #[.cell p 117, .tmp u, .tmp u']) (hd : a.defers = []) (g : Nat) (hp : a.tmps.getD p undef = .pointer (some ⟨g, 0, none⟩)) (cs : Array Value) (hcs : cs.size = 4)
    (hg : w.heap[g]? = some (.cells cs 117 (0, 0))) (v v' : Value) (hu : a.tmps.getD u undef = v) (hu' : a.tmps.getD u' undef = v') (h : R (.returned (.tuple #[.agg cs, v, v'])) w) : bodyPost Tryz.prog fn R .ret a w := by
  refine bodyPost_ret (v := .tuple #[.agg cs, v, v']) ?_ hd h
  rw [Array.getD_eq_getD_getElem?] at hp hu hu'
  simp [results, hr, hp, hu, hu', asAddr, run_loadVar_row w g 117 117 cs (0, 0) _ hg Tryz.underlying117 rfl (TokOk.cellsz cs hcs)]
end Go.Proofs.YtnbklmmampdbfaaGreatDoor
namespace Go.Proofs.YtnbklmmampdbfaaGreatDoor
open Go Go.RowKit
set_option maxRecDepth 20000

/-- A rule. -/
structure RuleM where
  order : Int
  cube : List Int × List Int
  action : Int
def okR8 (r : RuleM) : Prop := Byt r.cube.1 ∧ Byt r.cube.2
def ruleV (r : RuleM) : Array Value := #[.int .i64 r.order] ++ (cv r.cube.1 r.cube.2 ++ #[.int .i64 r.action])
def RuleE : El := ⟨39, 24, 28, 48, #[.int .i64 0] ++ (zeroC ++ #[.int .i64 0])⟩
theorem RuleOk : RuleE.Ok := ⟨Tryz.underlying24, ⟨_, Tryz.underlying39, rfl⟩, by kernel_rfl, by decide, by decide, by decide, by decide⟩
def CubE : El := ⟨37, 49, 26, 26, zeroC⟩
theorem CubOk : CubE.Ok := ⟨Tryz.underlying49, ⟨_, Tryz.underlying37, rfl⟩, by kernel_rfl, by decide, by decide, by decide, by decide⟩
theorem ruleV_size {r : RuleM} (h : okR8 r) : (ruleV r).size = 28 := by
  unfold ruleV
  simp [cv_size _ _ h.1.1 h.2.1]
theorem rule_fits {r : RuleM} (h : okR8 r) : Fits RuleE (ruleV r) := by
  refine ⟨ruleV_size h, ?_⟩
  unfold ruleV
  rw [Array.all_append, Array.all_append, cv_one]
  simp [Value.oneCell']
theorem list13 {V : List Int} (h : V.length = 13) : ∃ a b c d e f g i j k l m n, V = [a, b, c, d, e, f, g, i, j, k, l, m, n] := by
  match V, h with
  | [a, b, c, d, e, f, g, i, j, k, l, m, n], _ => exact ⟨a, b, c, d, e, f, g, i, j, k, l, m, n, rfl⟩
/-- A rule's cells. -/
theorem rule_at {r : RuleM} (h : okR8 r) : (ruleV r)[0]? = some (.int .i64 r.order) ∧ (∀ j, j < 26 → (ruleV r)[1 + j]? = (cv r.cube.1 r.cube.2)[j]?) ∧ (ruleV r)[27]? = some (.int .i64 r.action) := by
  have hs := cv_size _ _ h.1.1 h.2.1
  unfold ruleV
  refine ⟨?_, fun j hj => ?_, ?_⟩
  · rw [Array.getElem?_append_left (by simp)]; rfl
  · rw [Array.getElem?_append_right (by simp), Array.getElem?_append_left (by simp [hs]; omega)]
    simp
  · rw [Array.getElem?_append_right (by simp), Array.getElem?_append_right (by simp [hs])]
    simp [hs]
theorem zero_rule : RuleE.zero = ruleV ⟨0, (Z, Z), 0⟩ := by
  unfold RuleE ruleV
  rw [← zeroC_eq]
set_option maxRecDepth 100000 in
theorem build_rule (n a : Int) (V M : List Int) (hV : V.length = 13) (hM : M.length = 13) (W : World) : (Instr.build 39 #[(0, .int .i64 n), (1, .agg (cv V M)), (2, .int .i64 a)]).run Tryz.prog W = .ok (.agg (ruleV ⟨n, (V, M), a⟩)) W := by
  obtain ⟨a0, a1, a2, a3, a4, a5, a6, a7, a8, a9, a10, a11, a12, rfl⟩ := list13 hV
  obtain ⟨b0, b1, b2, b3, b4, b5, b6, b7, b8, b9, b10, b11, b12, rfl⟩ := list13 hM
  kernel_rfl
theorem wl_buildR {ops : Array Oper} {rest : List Oper} {o : Oper} {a : Act} {w : World} {Q : Exit → Act → World → Prop} (hgd : o.guard = none) (x y z : Operand) (ho : o.op = .build 39 #[(0, x), (1, y), (2, z)]) (n : Int) (V M : List Int) (c : Int) (hV : V.length = 13) (hM : M.length = 13)
    (hx : a.eval x = .int .i64 n) (hy : a.eval y = .agg (cv V M)) (hz : a.eval z = .int .i64 c) (h : wpList Tryz.prog ops Q rest (a.put o.dst (.agg (ruleV ⟨n, (V, M), c⟩))) w) : wpList Tryz.prog ops Q (o :: rest) a w := by
  refine wpList_plain hgd fun _ hK => ?_
  unfold Oper.wp execOp
  simp only [ho, Sem.run_bind, List.map_toArray, List.map_cons, List.map_nil, hx, hy, hz, build_rule n c V M hV hM, Result.andThen_ok, Sem.run_pure]
  exact hK _ _ h
theorem eqC_in (V M V' M' : List Int) (hV : V.length = 13) (hM : M.length = 13) (hV' : V'.length = 13) (hM' : M'.length = 13) (w : World) :
    (Op.equalIn 9999 37 (.agg (cv V M)) (.agg (cv V' M'))).run Tryz.prog w = .ok (V == V' && M == M') w := by
  have eH : ∀ A B : List Int, A.length = 13 → B.length = 13 → ∀ w, (Op.equalIn 9998 31 (.agg (hv A)) (.agg (hv B))).run Tryz.prog w = .ok (A == B) w := fun A B hA hB w => by
    have z5 : (sizeOf 5).run Tryz.prog w = .ok 1 w := by kernel_rfl
    rw [show (9998 : Nat) = 9997 + 1 from rfl, Op.equalIn]
    simp only [Sem.run_bind, run_underlying Tryz.underlying31, Result.andThen_ok, z5]
    simp only [Std.Legacy.Range.forIn_eq_forIn_range', Std.Legacy.Range.size, Nat.sub_zero, Nat.add_sub_cancel, Nat.div_one]
    rw [← all_eq A B hA hB]
    exact loopN 9996 A B hA hB w _ rfl rfl (List.range' 0 13) (fun i hi => by simp at hi; omega)
  rw [show (9999 : Nat) = 9998 + 1 from rfl, run_equalIn_struct w 9998 37 _ _ (by kernel_rfl) (by kernel_rfl)]
  rw [show (Tryz.prog.fieldsOf 37).toList = [{ name := "Value", type := 31, offset := 0, embedded := false, tag := "", pkgPath := "", byteOffset := 0 }, { name := "Mask", type := 31, offset := 13, embedded := false, tag := "", pkgPath := "", byteOffset := 13 }] from by kernel_rfl]
  simp only [Op.eqFields, ne_eq, String.reduceEq, not_false_eq_true, if_true, Sem.run_bind]
  simp only [part_val V M hV, part_val V' M' hV', Result.andThen_ok, eH V V' hV hV']
  cases hA : (V == V')
  · simp
  · simp only [Bool.not_true, Bool.false_eq_true, if_false, Sem.run_bind, part_mask V M hV hM, part_mask V' M' hV' hM', Result.andThen_ok, eH M M' hM hM']
    cases hB : (M == M') <;> simp
/-- A rule is the same as itself. -/
theorem eqR_same {r : RuleM} (h : okR8 r) (w : World) : (Op.equalIn 10000 39 (.agg (ruleV r)) (.agg (ruleV r))).run Tryz.prog w = .ok true w := by
  have hs := cv_size _ _ h.1.1 h.2.1
  obtain ⟨c0, c1, c2⟩ := rule_at h
  have hp : (part 37 (ruleV r) 1).run Tryz.prog w = .ok (.agg (cv r.cube.1 r.cube.2)) w := by
    have hz : ∀ w, (sizeOf 37).run Tryz.prog w = .ok 26 w := fun w => by kernel_rfl
    have ha : ∀ w, (isAgg 37).run Tryz.prog w = .ok true w := fun w => by kernel_rfl
    have e : (ruleV r).extract 1 27 = cv r.cube.1 r.cube.2 := by
      apply Array.ext_getElem?
      intro k
      rw [Array.getElem?_extract]
      have hz := ruleV_size h
      split
      · rename_i hk
        rw [hz] at hk
        exact c1 k (by omega)
      · rename_i hk
        rw [hz] at hk
        rw [Array.getElem?_eq_none (by omega)]
    simp [part, ha, hz, Sem.run_bind, e]
  have a3 : (isAgg 3).run Tryz.prog w = .ok false w := by kernel_rfl
  have hh : (Op.equalIn 10000 39 (.agg (ruleV r)) (.agg (ruleV r))).run Tryz.prog w = .ok ((r.order == r.order) && ((r.cube.1 == r.cube.1 && r.cube.2 == r.cube.2) && ((r.action == r.action) && true))) w := by
    rw [run_equalIn_struct w 9999 39 _ _ Tryz.underlying39 (by kernel_rfl)]
    simp only [Program.fieldsOf, Tryz.underlying39]
    refine eqFields_step w (by decide) (part_cell w a3 c0) (part_cell w a3 c0) (run_equalIn_int w _ 3 .i64 .i64 _ _ Tryz.underlying3) ?_
    refine eqFields_step w (by decide) hp hp (eqC_in _ _ _ _ h.1.1 h.2.1 h.1.1 h.2.1 w) ?_
    refine eqFields_step w (by decide) (part_cell w a3 c2) (part_cell w a3 c2) (run_equalIn_int w _ 3 .i64 .i64 _ _ Tryz.underlying3) ?_
    rfl
  rw [hh]
  simp
theorem egR (op : BinOp) (x y : Operand) (xs ys : Array Value) (w : World) : (eqGuard op 39 x y (.agg xs) (.agg ys)).run Tryz.prog w = .ok () w :=
  run_eqGuard_agg w op 39 x y xs ys (by kernel_rfl)
end Go.Proofs.YtnbklmmampdbfaaGreatDoor
namespace Go.Proofs.YtnbklmmampdbfaaGreatDoor
open Go Go.RowKit
set_option maxRecDepth 20000

/-- The value of the right one. -/
def can (V M : List Int) : List Int := mk fun i => bt V i && bt M i

theorem bt_at (L : List Int) (i : Nat) : bt L i = yb (L.getD (i / 8) 0) (i % 8) := rfl

set_option maxHeartbeats 1000000 in
theorem canon_any (V M : List Int) (hV : Byt V) (hM : Byt M) (w : World) :
    Calls Tryz.prog 63 #[.agg (cv V M)] w fun e w' => e = .returned (.agg (cv (can V M) M)) ∧ Below w.heap.size w w' := by
  have hVl := hV.1
  have hMl := hM.1
  have HV : Hid (Byt V) := hV
  have HM : Hid (Byt M) := hM
  clear hV hM
  go_enter Tryz.func63, Tryz.ntmps63
  go_wp2
  go_loopw [4] (fun i wr => ∃ k : Nat, k ≤ 13 ∧ i = .int .i64 k ∧ ∃ U : List Int, Byt U ∧ (∀ j, j < 13 → U.getD j 0 = if j < k then bits .and .u8 (V.getD j 0) (M.getD j 0) else V.getD j 0) ∧ wr.heap[w.heap.size]? = some (.cells (cv U M) 37 (0, 0)) ∧ wr.heap[w.heap.size + 1]? = some (.cells zeroC 37 (0, 0)) ∧ Below w.heap.size w wr) (fun i _ => 13 - (intOf i).toNat)
  case atStart => exact ⟨0, Nat.zero_le _, rfl, V, HV.out, fun j _ => by simp, heap_past _ _ _ _ (heap_new _ _ _ rfl), heap_new _ _ _ (by simp), ((Below.refl _ _).alloc (Nat.le_refl _) _).alloc (by simp) _⟩
  case round =>
    obtain ⟨k, hk, rfl, U, hU, hUj, g0, g1, hb⟩ := hrel
    have hUl := hU.1
    by_cases hlt : k < 13
    · obtain ⟨x, hx, hxe⟩ : ∃ x, (cv U M)[k]? = some (.int .u8 x) ∧ x = U.getD k 0 := ⟨_, cv_val U M hUl k hlt, rfl⟩
      obtain ⟨y, hy, hye⟩ : ∃ y, (cv U M)[13 + k]? = some (.int .u8 y) ∧ y = M.getD k 0 := ⟨_, cv_mask U M hUl hMl k hlt, rfl⟩
      have hx0 : wr.cell? ⟨w.heap.size, k, none⟩ = some (.int .u8 x) := by rw [cell_of_row wr _ _ _ _ _ g0]; exact hx
      have hy0 : wr.cell? ⟨w.heap.size, 13 + k, none⟩ = some (.int .u8 y) := by rw [cell_of_row wr _ _ _ _ _ g0]; exact hy
      have hf0 : wr.frozen? ⟨w.heap.size, k, none⟩ = false := frozen_of_row wr _ _ _ _ g0
      have HU : Hid (Byt U) := hU
      have HUJ : Hid (∀ j, j < 13 → U.getD j 0 = if j < k then bits .and .u8 (V.getD j 0) (M.getD j 0) else V.getD j 0) := hUj
      have HX : Hid (x = U.getD k 0) := hxe
      have HY : Hid (y = M.getD k 0) := hye
      clear hU hUj hxe hye hx hy
      go_wp2_with fail
      refine wp_region_tail 11 (by kernel_rfl) (by kernel_rfl) ?_
      simp only [List.take_succ_cons, List.take_zero, List.drop_succ_cons, List.drop_zero]
      repeat go_big_quiet_step (fail)
      refine wpQuiet_nil ?_
      go_wp2_with fail
      go_roundw
      case rel =>
        refine ⟨k + 1, by omega, by go_num, U.set k (bits .and .u8 x y), byt_set U HU.out k _ hlt (bits_u8 _ _ _), fun j hj => ?_, ?_, ?_, ?_⟩
        · rw [getD_set _ _ _ _ (by omega)]
          by_cases e : k = j
          · subst e
            rw [if_pos rfl, if_pos (by omega), HX.out, HY.out, HUJ.out k hlt, if_neg (by omega)]
          · rw [if_neg e, HUJ.out j hj]
            by_cases h : j < k
            · rw [if_pos h, if_pos (by omega)]
            · rw [if_neg h, if_neg (by omega)]
        · rw [← cv_set_val U M hUl k hlt]; exact heap_setCell_same wr _ _ _ _ _ g0
        · exact (heap_setCell_other wr ⟨w.heap.size, k, none⟩ (w.heap.size + 1) _ (by simp)).trans g1
        · exact (hb.setCell (Nat.le_refl _) _).drew
      case measure => simp [intOf]; omega
    · obtain rfl : k = 13 := by omega
      have HU : Hid (Byt U) := hU
      have HUJ : Hid (∀ j, j < 13 → U.getD j 0 = if j < 13 then bits .and .u8 (V.getD j 0) (M.getD j 0) else V.getD j 0) := hUj
      clear hU hUj
      go_wp2_with (first
        | (refine wl_loadC rfl _ rfl w.heap.size rfl U M g0 hUl hMl ?_)
        | (refine wl_storeC rfl _ _ rfl (w.heap.size + 1) U M rfl rfl _ g1 rfl hUl hMl _ rfl ?_))
      have e : U = can V M := mk_eq U HU.out _ fun i hi => by
        rw [bt_at, HUJ.out _ (by omega), if_pos (by omega), and_yb _ _ (HV.out.2 _) (HM.out.2 _)]; rfl
      subst e
      refine retC (p := 2) rfl rfl (w.heap.size + 1) rfl (can V M) M hUl hMl (setRow_heap _ _ _ _ _ _ g1) ⟨rfl, ?_⟩
      exact below_setRow hb (by omega) _
end Go.Proofs.YtnbklmmampdbfaaGreatDoor
namespace Go.Proofs.YtnbklmmampdbfaaGreatDoor
open Go Go.RowKit
set_option maxRecDepth 20000

/-- Does a cube have a header? -/
def has (V M H : List Int) : Bool := (List.range 104).all fun i => !(bt M i) || (bt V i == bt H i)
theorem has_iff (V M H : List Int) : has V M H = true ↔ ∀ i, i < 104 → bt M i = true → bt V i = bt H i := by
  unfold has
  simp only [List.all_eq_true, List.mem_range, Bool.or_eq_true, Bool.not_eq_true', beq_iff_eq]
  constructor
  · intro h i hi hm
    rcases h i hi with h' | h'
    · rw [h'] at hm; cases hm
    · exact h'
  · intro h i hi
    cases hm : bt M i
    · exact .inl rfl
    · exact .inr (h i hi hm)

theorem has_byte (v h m : Int) (hv : 0 ≤ v ∧ v < 256) (hh : 0 ≤ h ∧ h < 256) (hm : 0 ≤ m ∧ m < 256) : bits .and .u8 (bits .xor .u8 v h) m = 0 ↔ ∀ j, j < 8 → yb m j = true → yb v j = yb h j := by
  rw [zero_byte _ (bits_u8 _ _ _)]
  constructor
  · intro g j hj hmj
    have := g j hj
    rw [and_yb _ _ (bits_u8 _ _ _) hm, xor_yb _ _ hv hh, hmj] at this
    simpa using this
  · intro g j hj
    rw [and_yb _ _ (bits_u8 _ _ _) hm, xor_yb _ _ hv hh]
    cases hmj : yb m j
    · simp
    · rw [g j hj hmj]; simp

theorem has_all (V M H : List Int) (hV : Byt V) (hM : Byt M) (hH : Byt H) (h : ∀ k, k < 13 → bits .and .u8 (bits .xor .u8 (V.getD k 0) (H.getD k 0)) (M.getD k 0) = 0) : has V M H = true :=
  (has_iff V M H).2 fun i hi hm => (has_byte _ _ _ (hV.2 _) (hH.2 _) (hM.2 _)).1 (h (i / 8) (by omega)) (i % 8) (by omega) hm
theorem has_not (V M H : List Int) (hV : Byt V) (hM : Byt M) (hH : Byt H) (k : Nat) (hk : k < 13) (h : bits .and .u8 (bits .xor .u8 (V.getD k 0) (H.getD k 0)) (M.getD k 0) ≠ 0) : has V M H = false := by
  cases e : has V M H
  · rfl
  · refine absurd ((has_byte _ _ _ (hV.2 _) (hH.2 _) (hM.2 _)).2 fun j hj hm => ?_) h
    have := (has_iff V M H).1 e (8 * k + j) (by omega)
    unfold bt at this
    rw [show (8 * k + j) / 8 = k by omega, show (8 * k + j) % 8 = j by omega] at this
    exact this hm

set_option maxHeartbeats 1000000 in
theorem has_any (V M H : List Int) (hV : Byt V) (hM : Byt M) (hH : Byt H) (w : World) :
    Calls Tryz.prog 22 #[.agg (cv V M), .agg (hv H)] w fun e w' => e = .returned (.bool (has V M H)) ∧ Below w.heap.size w w' := by
  have hVl := hV.1
  have hMl := hM.1
  have hHl := hH.1
  have HV : Hid (Byt V) := hV
  have HM : Hid (Byt M) := hM
  have HH : Hid (Byt H) := hH
  clear hV hM hH
  go_enter Tryz.func22, Tryz.ntmps22
  go_wp2
  go_loopw [6] (fun i wr => ∃ k : Nat, k ≤ 13 ∧ i = .int .i64 k ∧ (∀ j, j < k → bits .and .u8 (bits .xor .u8 (V.getD j 0) (H.getD j 0)) (M.getD j 0) = 0) ∧ wr.heap[w.heap.size]? = some (.cells (cv V M) 37 (0, 0)) ∧ wr.heap[w.heap.size + 1]? = some (.cells (hv H) 31 (0, 0)) ∧ Below w.heap.size w wr) (fun i _ => 13 - (intOf i).toNat)
  case atStart => exact ⟨0, Nat.zero_le _, rfl, fun j hj => by omega, heap_past _ _ _ _ (heap_new _ _ _ rfl), heap_new _ _ _ (by simp), ((Below.refl _ _).alloc (Nat.le_refl _) _).alloc (by simp) _⟩
  case round =>
    obtain ⟨k, hk, rfl, hUj, g0, g1, hb⟩ := hrel
    by_cases hlt : k < 13
    · obtain ⟨x, hx, hxe⟩ : ∃ x, (cv V M)[k]? = some (.int .u8 x) ∧ x = V.getD k 0 := ⟨_, cv_val V M hVl k hlt, rfl⟩
      obtain ⟨y, hy, hye⟩ : ∃ y, (cv V M)[13 + k]? = some (.int .u8 y) ∧ y = M.getD k 0 := ⟨_, cv_mask V M hVl hMl k hlt, rfl⟩
      obtain ⟨z, hz, hze⟩ : ∃ z, (hv H)[k]? = some (.int .u8 z) ∧ z = H.getD k 0 := ⟨_, hv_at H hHl k hlt, rfl⟩
      have hx0 := later_cell g0 hx
      have hy0 := later_cell g0 hy
      have hz0 := later_cell g1 hz
      have HUJ : Hid (∀ j, j < k → bits .and .u8 (bits .xor .u8 (V.getD j 0) (H.getD j 0)) (M.getD j 0) = 0) := hUj
      have HX : Hid (x = V.getD k 0) := hxe
      have HY : Hid (y = M.getD k 0) := hye
      have HZ : Hid (z = H.getD k 0) := hze
      have ne1 := Later.ne wr
      clear hUj hxe hye hx hy hz hze
      by_cases hc : bits .and .u8 (bits .xor .u8 x z) y = 0
      · have HC : Hid (bits .and .u8 (bits .xor .u8 x z) y = 0) := hc
        have hne : (bits .and .u8 (bits .xor .u8 x z) y != 0) = false := by simp [hc]
        clear hc
        go_wp2_with fail
        refine wp_region_later (by kernel_rfl) (by kernel_rfl) ?_
        repeat go_big_quiet_step (fail)
        refine wpQuiet_nil ?_
        rintro w' ⟨u, rfl⟩
        go_wp2_with fail
        go_roundw
        case rel =>
          refine ⟨k + 1, by omega, by go_num, fun j hj => ?_, later_block g0 _ ⟨u, rfl⟩, later_block g1 _ ⟨u, rfl⟩, hb.trans (u.below.mono hb.size)⟩
          by_cases e : j = k
          · subst e; rw [← HX.out, ← HY.out, ← HZ.out]; exact HC.out
          · exact HUJ.out j (by omega)
        case measure => simp [intOf]; omega
      · have HC : Hid (¬ bits .and .u8 (bits .xor .u8 x z) y = 0) := hc
        have hne : (bits .and .u8 (bits .xor .u8 x z) y != 0) = true := by simp [hc]
        clear hc
        go_wp2_with fail
        refine wp_region_later (by kernel_rfl) (by kernel_rfl) ?_
        repeat go_big_quiet_step (fail)
        refine wpQuiet_nil ?_
        rintro w' ⟨u, rfl⟩
        go_wp2_with fail
        go_ret
        refine ⟨ret_bool ?_, hb.trans (u.below.mono hb.size)⟩
        have hn := HC.out
        rw [HX.out, HY.out, HZ.out] at hn
        rw [has_not V M H HV.out HM.out HH.out k hlt hn]
    · obtain rfl : k = 13 := by omega
      have HUJ : Hid (∀ j, j < 13 → bits .and .u8 (bits .xor .u8 (V.getD j 0) (H.getD j 0)) (M.getD j 0) = 0) := hUj
      clear hUj
      go_wp2_with fail
      go_ret
      exact ⟨ret_bool (has_all V M H HV.out HM.out HH.out HUJ.out).symm, hb⟩
end Go.Proofs.YtnbklmmampdbfaaGreatDoor
namespace Go.Proofs.YtnbklmmampdbfaaGreatDoor
open Go Go.RowKit
set_option maxRecDepth 20000

/-- An operation that only reckons or reads. -/
def isRead (o : Oper) : Bool :=
  match o.op with
  | .move _ | .load _ _ | .binOp _ _ _ _ _ | .indexAddr _ _ _ | .extract _ _ | .assign _ | .fieldAddr _ _ _ | .slice _ _ _ _ _ => true
  | _ => false

theorem read_value {P : Program} {ρ : Operand → Value} {o : Oper} (h : isRead o = true) (w : World) (nx : Next) (w' : World) (hr : (execOp ρ o).run P w = .ok nx w') : ∃ u, nx = .value u := by
  unfold isRead at h
  unfold execOp at hr
  split at h
  · rename_i x e
    simp only [e, Sem.run_pure, Result.ok.injEq] at hr
    exact ⟨_, hr.1.symm⟩
  · rename_i t x e
    simp only [e, Sem.run_bind, Sem.run_pure] at hr
    revert hr
    generalize (Instr.loadAt t (ρ x)).run P w = r
    intro hr
    cases r with
    | ok a w1 => simp only [Result.andThen_ok, Result.ok.injEq] at hr; exact ⟨_, hr.1.symm⟩
    | halt x w1 => simp [Result.andThen] at hr
  · rename_i op t x y z e
    simp only [e, Sem.run_bind, Sem.run_pure] at hr
    revert hr
    generalize ((eqGuard op t x y (ρ x) (ρ y)).run P w).andThen (fun _ w' => (binOp op t (ρ x) (ρ y)).run P w') = r
    intro hr
    cases r with
    | ok a w1 => simp only [Result.andThen_ok, Result.ok.injEq] at hr; exact ⟨_, hr.1.symm⟩
    | halt x w1 => simp [Result.andThen] at hr
  · rename_i t x y e
    simp only [e, Sem.run_bind, Sem.run_pure] at hr
    revert hr
    generalize (Instr.indexAt t (ρ x) (ρ y)).run P w = r
    intro hr
    cases r with
    | ok a w1 => simp only [Result.andThen_ok, Result.ok.injEq] at hr; exact ⟨_, hr.1.symm⟩
    | halt x w1 => simp [Result.andThen] at hr
  · rename_i x i e
    simp only [e, Sem.run_bind, Sem.run_pure] at hr
    revert hr
    generalize (Instr.extract (ρ x) i).run P w = r
    intro hr
    cases r with
    | ok a w1 => simp only [Result.andThen_ok, Result.ok.injEq] at hr; exact ⟨_, hr.1.symm⟩
    | halt x w1 => simp [Result.andThen] at hr
  · rename_i x e
    simp only [e, Sem.run_pure, Result.ok.injEq] at hr
    exact ⟨_, hr.1.symm⟩
  · rename_i t x i e
    simp only [e, Sem.run_bind, Sem.run_pure] at hr
    revert hr
    generalize (Instr.fieldAt t (ρ x) i).run P w = r
    intro hr
    cases r with
    | ok a w1 => simp only [Result.andThen_ok, Result.ok.injEq] at hr; exact ⟨_, hr.1.symm⟩
    | halt x w1 => simp [Result.andThen] at hr
  · rename_i t x lo hi mx e
    simp only [e, Sem.run_bind, Sem.run_pure] at hr
    revert hr
    generalize (Instr.sliceAt t (ρ x) (lo.map ρ) (hi.map ρ) (mx.map ρ)).run P w = r
    intro hr
    cases r with
    | ok a w1 => simp only [Result.andThen_ok, Result.ok.injEq] at hr; exact ⟨_, hr.1.symm⟩
    | halt x w1 => simp [Result.andThen] at hr
  · cases h

theorem yieldsIf_of_in {P : Program} {ops : Array Oper} {S : World → Prop} {o : Oper} {v : Value} {a : Act} (h : isRead o = true) (hy : YieldsIn P ops S o v a) : YieldsIf P ops S o v a := by
  rcases hy with ⟨hw, hv⟩ | hn
  · refine .inl ⟨hw, fun w hS => ?_⟩
    have hq := hv w hS
    unfold Oper.quietAt at hq
    cases hr : (execOp a.eval o).run P w with
    | ok nx w' =>
      obtain ⟨u, rfl⟩ := read_value h w nx w' hr
      rw [hr] at hq
      obtain ⟨rfl, rfl⟩ := hq
      rfl
    | halt x w' => rw [hr] at hq; exact hq.elim
  · exact .inr hn

def headFrom (md : Region.Mode) (ops : Array Oper) : Nat → Nat → Array Bool → Bool
  | 0, _, _ => true
  | f + 1, k, listed => (Region.ready md ops listed).contains k && Region.free md ops listed k && headFrom md ops f (k + 1) (listed.setIfInBounds k true)
def listedFrom : Nat → Nat → Array Bool → Array Bool
  | 0, _, l => l
  | f + 1, k, l => listedFrom f (k + 1) (l.setIfInBounds k true)

theorem reads_held {P : Program} {md : Region.Mode} {ops : Array Oper} {Q : Exit → Act → World → Prop} {S : World → Prop} {g : Nat} (hs : Region.noSelect ops = true) (hQ : ∀ d v c a w, Q (.panic c) (Act.put a d v) w → Q (.panic c) a w) (w : World) (hS : S w) :
    ∀ (l : List Oper) (k : Nat) (listed : Array Bool) (a : Act), (∀ j, j < l.length → l[j]? = ops[k + j]?) → headFrom md ops l.length k listed = true → l.all isRead = true →
      wpQuiet P ops S (fun a' => wpAnyH P md ops Q S g (listedFrom l.length k listed) a' w) l a → wpAnyH P md ops Q S (l.length + g) listed a w
  | [], _, _, _, _, _, _, h => by simpa [wpQuiet, listedFrom] using h
  | o :: l, k, listed, a, hl, hB, hr, h => by
    have h0 : ops[k]? = some o := by simpa using (hl 0 (by simp)).symm
    simp only [List.length_cons, headFrom, Bool.and_eq_true] at hB
    simp only [List.all_cons, Bool.and_eq_true] at hr
    have hst : qOp P ops S k (wpQuiet P ops S (fun a' => wpAnyH P md ops Q S g (listedFrom (o :: l).length k listed) a' w) l) a := by
      unfold qOp; simp only [h0]; exact h
    obtain ⟨v, hy, hK⟩ := yieldsIn_of_qOp h0 hst
    have ih := reads_held hs hQ w hS l (k + 1) (listed.setIfInBounds k true) (a.put o.dst v) (fun j hj => by
      have := hl (j + 1) (by simp; omega)
      simpa [Nat.add_assoc, Nat.add_comm 1 j] using this) hB.2 hr.2 hK
    rw [show (o :: l).length + g = (l.length + g) + 1 by simp; omega]
    exact wpAnyH_take h0 hs hB.1.2 hB.1.1 (fun c a w => hQ o.dst v c a w) (yieldsIf_of_in hr.1 hy) hS ih

/-- A drawn region, from its beginning. -/
theorem region_begin {P : Program} {id : Nat} {Q : Exit → Act → World → Prop} {a : Act} {w : World} {lo : List Oper} (n : Nat) (hn : lo.length = n) (hm : P.follows .mixedOrders = true)
    (h : wpAnyH P .any lo.toArray Q (fun w' => ∃ u : Later w, w' = u.world) n (Array.replicate n false) a w.drew) : (Code.region id lo.toArray true).wp P Q a w := by
  refine wp_region_held (S := fun w' => ∃ u : Later w, w' = u.world) hm ?_
  rw [show lo.toArray.size = n by simpa using hn]
  exact h
/-- The same with a class of worlds of one's own. -/
theorem region_beginS {P : Program} {id : Nat} {Q : Exit → Act → World → Prop} {a : Act} {w : World} {lo : List Oper} (S : World → Prop) (n : Nat) (hn : lo.length = n) (hm : P.follows .mixedOrders = true)
    (h : wpAnyH P .any lo.toArray Q S n (Array.replicate n false) a w.drew) : (Code.region id lo.toArray true).wp P Q a w := by
  refine wp_region_held (S := S) hm ?_
  rw [show lo.toArray.size = n by simpa using hn]
  exact h
/-- n operations, from number k on, that only read, are taken first. -/
theorem region_reads {P : Program} {Q : Exit → Act → World → Prop} {S : World → Prop} {a : Act} {w : World} {lo : List Oper} {listed : Array Bool} (k n g : Nat) (hl : ((lo.drop k).take n).length = n) (hs : Region.noSelect lo.toArray = true)
    (hB : headFrom .any lo.toArray n k listed = true) (hr : ((lo.drop k).take n).all isRead = true) (hQ : ∀ d v c a w, Q (.panic c) (Act.put a d v) w → Q (.panic c) a w) (hS : S w)
    (h : wpQuiet P lo.toArray S (fun a' => wpAnyH P .any lo.toArray Q S g (listedFrom n k listed) a' w) ((lo.drop k).take n) a) : wpAnyH P .any lo.toArray Q S (n + g) listed a w := by
  have := reads_held (P := P) (md := .any) (Q := Q) (g := g) hs hQ w hS ((lo.drop k).take n) k listed a (fun j hj => by
    rw [hl] at hj
    rw [List.getElem?_take_of_lt hj, List.getElem?_drop]
    simp) (by rw [hl]; exact hB) hr (by rw [hl]; exact h)
  rwa [hl] at this
theorem noPanic {F : Act → World → Prop} : ∀ (d : Option Tmp) (v : Value) c (a : Act) (w : World), (fun (e : Exit) a w => e = .normal ∧ F a w) (.panic c) (Act.put a d v) w → (fun (e : Exit) a w => e = .normal ∧ F a w) (.panic c) a w :=
  fun _ _ _ _ _ h => absurd h.1 (by simp)
/-- A cut behind a region. -/
theorem region_cut {P : Program} {c : Code} {Q : Exit → Act → World → Prop} {a : Act} {w : World} (F : Act → Act → World → Prop) (h1 : c.wp P (fun e a' w' => e = .normal ∧ F a a' w') a w) (h2 : ∀ a' w', F a a' w' → Q .normal a' w') : c.wp P Q a w :=
  Code.wp_mono (by rintro e a' w' ⟨rfl, h⟩; exact h2 a' w' h) h1

theorem wpOp_wanted {P : Program} {ops : Array Oper} {Q : Exit → Act → World → Prop} {i : Nat} {o : Oper} {K : Act → World → Prop} {a : Act} {w : World} (hi : ops[i]? = some o) (hw : Region.wanted o (yielded ops a.tmps) = true) (h : o.wp P a w K Q) : wpOp P ops Q i K a w := by
  unfold Go.wpOp
  simp only [hi, hw, if_true]
  exact .inl h
theorem wpOp_call {ops : Array Oper} {Q : Exit → Act → World → Prop} {i : Nat} {o : Oper} {K : Act → World → Prop} {a : Act} {w : World} (hi : ops[i]? = some o) (hw : Region.wanted o (yielded ops a.tmps) = true) (f : FuncId) (xs : Array Operand)
    (hf : ∀ (b : Act) (w : World), (execOp b.eval o).run Tryz.prog w = .ok (.enter f (xs.map b.eval)) w) (vs : Array Value) (hvs : xs.toList.map a.eval = vs.toList)
    (D : Value → World → Prop) (h : Calls Tryz.prog f vs w fun e w' => ∃ v, e = .returned v ∧ D v w') (d : Option Tmp) (hd : o.dst = d) (hK : ∀ v w', D v w' → K (a.put d v) w') : wpOp Tryz.prog ops Q i K a w := by
  subst hd
  refine wpOp_wanted hi hw ?_
  unfold Oper.wp
  rw [hf a w, show xs.map a.eval = vs from Array.ext' (by rw [Array.toList_map]; exact hvs)]
  refine h.mono ?_
  rintro e w' ⟨v, rfl, hc⟩
  exact hK v w' hc
theorem wpOp_allocC {ops : Array Oper} {Q : Exit → Act → World → Prop} {i : Nat} {o : Oper} {K : Act → World → Prop} {a : Act} {w : World} (hi : ops[i]? = some o) (hw : Region.wanted o (yielded ops a.tmps) = true) (ho : o.op = .alloc 37) (d : Option Tmp) (hd : o.dst = d)
    (hK : K (a.put d (.pointer (some ⟨w.heap.size, 0, none⟩))) (w.alloc (.cells zeroC 37))) : wpOp Tryz.prog ops Q i K a w := by
  subst hd
  refine wpOp_wanted hi hw ?_
  obtain ⟨dst, op, ty, pos, after, guard⟩ := o
  subst ho
  unfold Oper.wp
  have : ∀ (b : Act), (execOp b.eval ⟨dst, .alloc 37, ty, pos, after, guard⟩).run Tryz.prog w = .ok (.value (.pointer (some ⟨w.heap.size, 0, none⟩))) (w.alloc (.cells zeroC 37)) := fun b => by simp [go_sem]
  rw [this a]
  exact hK
theorem wpOp_alloc26 {ops : Array Oper} {Q : Exit → Act → World → Prop} {i : Nat} {o : Oper} {K : Act → World → Prop} {a : Act} {w : World} (hi : ops[i]? = some o) (hw : Region.wanted o (yielded ops a.tmps) = true) (ho : o.op = .alloc 31) (d : Option Tmp) (hd : o.dst = d)
    (hK : K (a.put d (.pointer (some ⟨w.heap.size, 0, none⟩))) (w.alloc (.cells zero26 31))) : wpOp Tryz.prog ops Q i K a w := by
  subst hd
  refine wpOp_wanted hi hw ?_
  obtain ⟨dst, op, ty, pos, after, guard⟩ := o
  subst ho
  unfold Oper.wp
  have : ∀ (b : Act), (execOp b.eval ⟨dst, .alloc 31, ty, pos, after, guard⟩).run Tryz.prog w = .ok (.value (.pointer (some ⟨w.heap.size, 0, none⟩))) (w.alloc (.cells zero26 31)) := fun b => by simp [go_sem]
  rw [this a]
  exact hK
theorem wpOp_store26 {ops : Array Oper} {Q : Exit → Act → World → Prop} {i : Nat} {o : Oper} {K : Act → World → Prop} {a : Act} {w : World} (hi : ops[i]? = some o) (hw : Region.wanted o (yielded ops a.tmps) = true) (x y : Operand) (ho : o.op = .store 31 x y)
    (g : Nat) (L : List Int) (hx : a.eval x = .pointer (some ⟨g, 0, none⟩)) (hy : a.eval y = .agg (hv L)) (old : Array Value) (hg : w.heap[g]? = some (.cells old 31 (0, 0))) (hold : old.size = 13) (hL : L.length = 13) (d : Option Tmp) (hd : o.dst = d)
    (hK : K (a.put d undef) (w.setRow g (hv L))) : wpOp Tryz.prog ops Q i K a w := by
  subst hd
  exact wpOp_wanted hi hw (wp_store_row 31 x y ho g (hv L) hx hy 31 old hg (size26 L hL) (by rw [hv_size, hold, hL]) (hv_one L) hK)
theorem wpOp_storeC {ops : Array Oper} {Q : Exit → Act → World → Prop} {i : Nat} {o : Oper} {K : Act → World → Prop} {a : Act} {w : World} (hi : ops[i]? = some o) (hw : Region.wanted o (yielded ops a.tmps) = true) (x y : Operand) (ho : o.op = .store 37 x y)
    (g : Nat) (V M : List Int) (hx : a.eval x = .pointer (some ⟨g, 0, none⟩)) (hy : a.eval y = .agg (cv V M)) (old : Array Value) (hg : w.heap[g]? = some (.cells old 37 (0, 0))) (hold : old.size = 26) (hV : V.length = 13) (hM : M.length = 13) (d : Option Tmp) (hd : o.dst = d)
    (hK : K (a.put d undef) (w.setRow g (cv V M))) : wpOp Tryz.prog ops Q i K a w := by
  subst hd
  exact wpOp_wanted hi hw (wp_store_row 37 x y ho g (cv V M) hx hy 37 old hg (sizeC V M hV hM) (by rw [cv_size V M hV hM, hold]) (cv_one V M) hK)
theorem wpOp_assign {P : Program} {ops : Array Oper} {Q : Exit → Act → World → Prop} {i : Nat} {o : Oper} {K : Act → World → Prop} {a : Act} {w : World} (hi : ops[i]? = some o) (hw : Region.wanted o (yielded ops a.tmps) = true) (x : Operand) (ho : o.op = .assign x) (v : Value) (hx : a.eval x = v) (d : Option Tmp) (hd : o.dst = d)
    (hK : K (a.put d v) w) : wpOp P ops Q i K a w := by
  subst hd hx
  refine wpOp_wanted hi hw ?_
  unfold Oper.wp execOp
  simp only [ho, Sem.run_pure]
  exact hK
end Go.Proofs.YtnbklmmampdbfaaGreatDoor
namespace Go.Proofs.YtnbklmmampdbfaaGreatDoor
open Go Go.RowKit
set_option maxRecDepth 20000

/-- The end of a function whose results are a cube in memory, and a plain one. -/
theorem retCe {fn : Func} {R : Ending → World → Prop} {a : Act} {w : World} {p u : Tmp} (hr : fn.results = #[.cell p 37, .tmp u]) (hd : a.defers = []) (g : Nat) (hp : a.tmps.getD p undef = .pointer (some ⟨g, 0, none⟩)) (V M : List Int) (hV : V.length = 13) (hM : M.length = 13)
    (hg : w.heap[g]? = some (.cells (cv V M) 37 (0, 0))) (v : Value) (hu : a.tmps.getD u undef = v) (h : R (.returned (.tuple #[.agg (cv V M), v])) w) : bodyPost Tryz.prog fn R .ret a w := by
  refine bodyPost_ret (v := .tuple #[.agg (cv V M), v]) ?_ hd h
  rw [results_cell_tmp hr, hp, hu]
  simp [asAddr, run_loadVar_row w g 37 37 (cv V M) (0, 0) _ hg Tryz.underlying37 rfl (sizeC V M hV hM)]

/-- Have two cubes a header together? -/
def meets (V M V' M' : List Int) : Bool := (List.range 104).all fun i => !(bt M i && bt M' i) || (bt V i == bt V' i)
def meetV (V M V' M' : List Int) : List Int := mk fun i => (bt V i && bt M i) || (bt V' i && bt M' i)
def meetM (M M' : List Int) : List Int := mk fun i => bt M i || bt M' i
theorem meets_iff (V M V' M' : List Int) : meets V M V' M' = true ↔ ∀ i, i < 104 → bt M i = true → bt M' i = true → bt V i = bt V' i := by
  unfold meets
  simp only [List.all_eq_true, List.mem_range, Bool.or_eq_true, Bool.not_eq_true', beq_iff_eq]
  constructor
  · intro h i hi hm hm'
    rcases h i hi with h' | h'
    · rw [hm, hm'] at h'; cases h'
    · exact h'
  · intro h i hi
    cases hm : bt M i
    · exact .inl rfl
    · cases hm' : bt M' i
      · exact .inl rfl
      · exact .inr (h i hi hm hm')

theorem clash_byte (v m v' m' : Int) (hv : 0 ≤ v ∧ v < 256) (hm : 0 ≤ m ∧ m < 256) (hv' : 0 ≤ v' ∧ v' < 256) (hm' : 0 ≤ m' ∧ m' < 256) : bits .and .u8 (bits .and .u8 (bits .xor .u8 v v') m) m' = 0 ↔ ∀ j, j < 8 → yb m j = true → yb m' j = true → yb v j = yb v' j := by
  rw [zero_byte _ (bits_u8 _ _ _)]
  constructor
  · intro g j hj hmj hmj'
    have := g j hj
    rw [and_yb _ _ (bits_u8 _ _ _) hm', and_yb _ _ (bits_u8 _ _ _) hm, xor_yb _ _ hv hv', hmj, hmj'] at this
    simpa using this
  · intro g j hj
    rw [and_yb _ _ (bits_u8 _ _ _) hm', and_yb _ _ (bits_u8 _ _ _) hm, xor_yb _ _ hv hv']
    cases hmj : yb m j
    · simp
    · cases hmj' : yb m' j
      · simp
      · rw [g j hj hmj hmj']; simp

theorem can_byt (V M : List Int) : Byt (can V M) := mk_byt _
theorem can_bt (V M : List Int) (i : Nat) (hi : i < 104) : bt (can V M) i = (bt V i && bt M i) := mk_bt _ i hi
theorem meetV_byt (V M V' M' : List Int) : Byt (meetV V M V' M') := mk_byt _
theorem meetM_byt (M M' : List Int) : Byt (meetM M M') := mk_byt _

theorem meets_all (V M V' M' : List Int) (hM : Byt M) (hM' : Byt M') (h : ∀ k, k < 13 → bits .and .u8 (bits .and .u8 (bits .xor .u8 ((can V M).getD k 0) ((can V' M').getD k 0)) (M.getD k 0)) (M'.getD k 0) = 0) : meets V M V' M' = true :=
  (meets_iff V M V' M').2 fun i hi hm hm' => by
    have := (clash_byte _ _ _ _ ((can_byt V M).2 _) (hM.2 _) ((can_byt V' M').2 _) (hM'.2 _)).1 (h (i / 8) (by omega)) (i % 8) (by omega) hm hm'
    rw [← bt_at, ← bt_at, can_bt _ _ i hi, can_bt _ _ i hi, hm, hm'] at this
    simpa using this
theorem meets_not (V M V' M' : List Int) (hM : Byt M) (hM' : Byt M') (k : Nat) (hk : k < 13) (h : bits .and .u8 (bits .and .u8 (bits .xor .u8 ((can V M).getD k 0) ((can V' M').getD k 0)) (M.getD k 0)) (M'.getD k 0) ≠ 0) : meets V M V' M' = false := by
  cases e : meets V M V' M'
  · rfl
  · refine absurd ((clash_byte _ _ _ _ ((can_byt V M).2 _) (hM.2 _) ((can_byt V' M').2 _) (hM'.2 _)).2 fun j hj hm hm' => ?_) h
    have ed : (8 * k + j) / 8 = k := by omega
    have em : (8 * k + j) % 8 = j := by omega
    have hb : ∀ L : List Int, yb (L.getD k 0) j = bt L (8 * k + j) := fun L => by unfold bt; rw [ed, em]
    rw [hb] at hm hm' ⊢
    rw [hb, can_bt _ _ _ (by omega), can_bt _ _ _ (by omega), hm, hm', (meets_iff V M V' M').1 e _ (by omega) hm hm']

/-- What Meet answers. -/
def meetR (V M V' M' : List Int) : Value := .tuple #[.agg (if meets V M V' M' then cv (meetV V M V' M') (meetM M M') else cv Z Z), .bool (meets V M V' M')]
theorem meetR_yes (V M V' M' : List Int) (h : meets V M V' M' = true) : meetR V M V' M' = .tuple #[.agg (cv (meetV V M V' M') (meetM M M')), .bool true] := by unfold meetR; rw [h]; rfl
theorem meetR_no (V M V' M' : List Int) (h : meets V M V' M' = false) : meetR V M V' M' = .tuple #[.agg (cv Z Z), .bool false] := by unfold meetR; rw [h]; rfl

set_option maxHeartbeats 4000000 in
theorem meet_any (V M V' M' : List Int) (hV : Byt V) (hM : Byt M) (hV' : Byt V') (hM' : Byt M') (w : World) :
    Calls Tryz.prog 62 #[.agg (cv V M), .agg (cv V' M')] w fun e w' => e = .returned (meetR V M V' M') ∧ Below w.heap.size w w' := by
  have hVl := hV.1
  have hMl := hM.1
  have hVl' := hV'.1
  have hMl' := hM'.1
  have C1 : Hid (∀ W, Calls Tryz.prog 63 #[.agg (cv V M)] W fun e w' => e = .returned (.agg (cv (can V M) M)) ∧ Below W.heap.size W w') := canon_any V M hV hM
  have C2 : Hid (∀ W, Calls Tryz.prog 63 #[.agg (cv V' M')] W fun e w' => e = .returned (.agg (cv (can V' M') M')) ∧ Below W.heap.size W w') := canon_any V' M' hV' hM'
  have HM : Hid (Byt M) := hM
  have HM' : Hid (Byt M') := hM'
  have hAl : (can V M).length = 13 := (can_byt V M).1
  have hBl : (can V' M').length = 13 := (can_byt V' M').1
  clear hV hM hV' hM'
  go_enter Tryz.func62, Tryz.ntmps62
  go_wp2_with fail
  obtain ⟨W, hW⟩ : ∃ W, W = ((w.alloc (.cells (cv V M) 37)).alloc (.cells (cv V' M') 37)).alloc (.cells zeroC 37) := ⟨_, rfl⟩
  have g0 : W.heap[w.heap.size]? = some (.cells (cv V M) 37 (0, 0)) := by rw [hW]; exact heap_past _ _ _ _ (heap_past _ _ _ _ (heap_new _ _ _ rfl))
  have g1 : W.heap[w.heap.size + 1]? = some (.cells (cv V' M') 37 (0, 0)) := by rw [hW]; exact heap_past _ _ _ _ (heap_new _ _ _ (by simp))
  have g2 : W.heap[w.heap.size + 2]? = some (.cells zeroC 37 (0, 0)) := by rw [hW]; exact heap_new _ _ _ (by simp)
  have hb : Below w.heap.size w W := by rw [hW]; exact (((Below.refl _ _).alloc (Nat.le_refl _) _).alloc (by simp) _).alloc (by simp; omega) _
  have hsz := hb.size
  rw [← hW]
  clear hW
  have ne1 := Later.ne W
  refine wp_region_latertail 4 (by kernel_rfl) (by kernel_rfl) ?_
  simp only [List.take_succ_cons, List.take_zero, List.drop_succ_cons, List.drop_zero]
  refine qlC rfl _ rfl w.heap.size rfl V M g0 hVl hMl ?_
  simp only [Act.put, List.setIfInBounds_toArray, List.set_cons_succ, List.set_cons_zero]
  go_big_quiet_want; go_big_quiet_op
  refine ⟨_, fun u => Calls.later_of (C1.out u.world), ?_⟩
  go_big_quiet_on
  refine qlC rfl _ rfl (w.heap.size + 1) rfl V' M' g1 hVl' hMl' ?_
  simp only [Act.put, List.setIfInBounds_toArray, List.set_cons_succ, List.set_cons_zero]
  go_big_quiet_want; go_big_quiet_op
  refine ⟨_, fun u => Calls.later_of (C2.out u.world), ?_⟩
  go_big_quiet_on
  refine wpQuiet_nil ?_
  rintro w1 ⟨u, rfl⟩
  obtain ⟨W1, hW1⟩ : ∃ W1, W1 = u.world := ⟨_, rfl⟩
  have k0 : W1.heap[w.heap.size]? = some (.cells (cv V M) 37 (0, 0)) := by rw [hW1]; exact later_block g0 _ ⟨u, rfl⟩
  have k1 : W1.heap[w.heap.size + 1]? = some (.cells (cv V' M') 37 (0, 0)) := by rw [hW1]; exact later_block g1 _ ⟨u, rfl⟩
  have k2 : W1.heap[w.heap.size + 2]? = some (.cells zeroC 37 (0, 0)) := by rw [hW1]; exact later_block g2 _ ⟨u, rfl⟩
  have hb1 : Below w.heap.size w W1 := by rw [hW1]; exact hb.trans (u.below.mono hsz)
  rw [← hW1]
  clear hW1 g0 g1 g2 hb C1 C2
  have m0 : (W1.setRow w.heap.size (cv (can V M) M)).heap[w.heap.size]? = some (.cells (cv (can V M) M) 37 (0, 0)) := setRow_heap _ _ _ _ _ _ k0
  have m1 : (W1.setRow w.heap.size (cv (can V M) M)).heap[w.heap.size + 1]? = some (.cells (cv V' M') 37 (0, 0)) := (setRow_other W1 _ _ _ (by omega)).trans k1
  have m2 : (W1.setRow w.heap.size (cv (can V M) M)).heap[w.heap.size + 2]? = some (.cells zeroC 37 (0, 0)) := (setRow_other W1 _ _ _ (by omega)).trans k2
  have hb2 := below_setRow hb1 (Nat.le_refl _) (cv (can V M) M)
  obtain ⟨W2, hW2⟩ : ∃ W2, W2 = W1.setRow w.heap.size (cv (can V M) M) := ⟨_, rfl⟩
  have n0 : (W2.setRow (w.heap.size + 1) (cv (can V' M') M')).heap[w.heap.size]? = some (.cells (cv (can V M) M) 37 (0, 0)) := by rw [hW2]; exact (setRow_other _ _ _ _ (by omega)).trans m0
  have n1 : (W2.setRow (w.heap.size + 1) (cv (can V' M') M')).heap[w.heap.size + 1]? = some (.cells (cv (can V' M') M') 37 (0, 0)) := by rw [hW2]; exact setRow_heap _ _ _ _ _ _ m1
  have n2 : (W2.setRow (w.heap.size + 1) (cv (can V' M') M')).heap[w.heap.size + 2]? = some (.cells zeroC 37 (0, 0)) := by rw [hW2]; exact (setRow_other _ _ _ _ (by omega)).trans m2
  have hb3 : Below w.heap.size w (W2.setRow (w.heap.size + 1) (cv (can V' M') M')) := by rw [hW2]; exact below_setRow hb2 (by omega) _
  rw [← hW2] at m1
  refine wl_storeC rfl _ _ rfl w.heap.size (can V M) M rfl rfl _ k0 (cv_size _ _ hVl hMl) hAl hMl _ hW2.symm ?_
  simp only [Act.put]
  refine wl_storeC rfl _ _ rfl (w.heap.size + 1) (can V' M') M' rfl rfl _ m1 (cv_size _ _ hVl' hMl') hBl hMl' _ rfl ?_
  simp only [Act.put]
  obtain ⟨W3, hW3⟩ : ∃ W3, W3 = W2.setRow (w.heap.size + 1) (cv (can V' M') M') := ⟨_, rfl⟩
  rw [← hW3] at n0 n1 n2 hb3 ⊢
  clear m0 m1 m2 hb2 k0 k1 k2 hb1 hW2 hW3
  go_wp2_with fail
  go_loopw [11] (fun i wr => ∃ k : Nat, k ≤ 13 ∧ i = .int .i64 k ∧ ∃ U N : List Int, Byt U ∧ Byt N ∧ (∀ j, j < 13 → U.getD j 0 = if j < k then bits .or .u8 ((can V M).getD j 0) ((can V' M').getD j 0) else (can V M).getD j 0) ∧ (∀ j, j < 13 → N.getD j 0 = if j < k then bits .or .u8 (M.getD j 0) (M'.getD j 0) else M.getD j 0)
    ∧ (∀ j, j < k → bits .and .u8 (bits .and .u8 (bits .xor .u8 ((can V M).getD j 0) ((can V' M').getD j 0)) (M.getD j 0)) (M'.getD j 0) = 0)
    ∧ wr.heap[w.heap.size]? = some (.cells (cv U N) 37 (0, 0)) ∧ wr.heap[w.heap.size + 1]? = some (.cells (cv (can V' M') M') 37 (0, 0)) ∧ wr.heap[w.heap.size + 2]? = some (.cells zeroC 37 (0, 0)) ∧ Below w.heap.size w wr) (fun i _ => 13 - (intOf i).toNat)
  case atStart => exact ⟨0, Nat.zero_le _, rfl, can V M, M, can_byt V M, HM.out, fun j _ => by simp, fun j _ => by simp, fun j hj => by omega, n0, n1, n2, hb3⟩
  case round =>
    clear n0 n1 n2 hb3
    obtain ⟨k, hk, rfl, U, N, hU, hN, hUj, hNj, hno, g0, g1, g2, hb⟩ := hrel
    have hUl := hU.1
    have hNl := hN.1
    have HU : Hid (Byt U) := hU
    have HN : Hid (Byt N) := hN
    have HUJ : Hid (∀ j, j < 13 → U.getD j 0 = if j < k then bits .or .u8 ((can V M).getD j 0) ((can V' M').getD j 0) else (can V M).getD j 0) := hUj
    have HNJ : Hid (∀ j, j < 13 → N.getD j 0 = if j < k then bits .or .u8 (M.getD j 0) (M'.getD j 0) else M.getD j 0) := hNj
    have HNO : Hid (∀ j, j < k → bits .and .u8 (bits .and .u8 (bits .xor .u8 ((can V M).getD j 0) ((can V' M').getD j 0)) (M.getD j 0)) (M'.getD j 0) = 0) := hno
    clear hU hN hUj hNj hno
    by_cases hlt : k < 13
    · obtain ⟨x, hx, hxe⟩ : ∃ x, (cv U N)[k]? = some (.int .u8 x) ∧ x = (can V M).getD k 0 := ⟨_, cv_val U N hUl k hlt, by rw [HUJ.out k hlt, if_neg (by omega)]⟩
      obtain ⟨y, hy, hye⟩ : ∃ y, (cv U N)[13 + k]? = some (.int .u8 y) ∧ y = M.getD k 0 := ⟨_, cv_mask U N hUl hNl k hlt, by rw [HNJ.out k hlt, if_neg (by omega)]⟩
      obtain ⟨x', hx', hxe'⟩ : ∃ x, (cv (can V' M') M')[k]? = some (.int .u8 x) ∧ x = (can V' M').getD k 0 := ⟨_, cv_val _ M' hBl k hlt, rfl⟩
      obtain ⟨y', hy', hye'⟩ : ∃ y, (cv (can V' M') M')[13 + k]? = some (.int .u8 y) ∧ y = M'.getD k 0 := ⟨_, cv_mask _ M' hBl hMl' k hlt, rfl⟩
      have hx0 := later_cell g0 hx
      have hy0 := later_cell g0 hy
      have hx1 := later_cell g1 hx'
      have hy1 := later_cell g1 hy'
      have HX : Hid (x = (can V M).getD k 0) := hxe
      have HY : Hid (y = M.getD k 0) := hye
      have HX' : Hid (x' = (can V' M').getD k 0) := hxe'
      have HY' : Hid (y' = M'.getD k 0) := hye'
      have ne2 := Later.ne wr
      clear hxe hye hxe' hye'
      by_cases hc : bits .and .u8 (bits .and .u8 (bits .xor .u8 x x') y) y' = 0
      · have HC : Hid (bits .and .u8 (bits .and .u8 (bits .xor .u8 x x') y) y' = 0) := hc
        have hne : (bits .and .u8 (bits .and .u8 (bits .xor .u8 x x') y) y' != 0) = false := by simp [hc]
        clear hc
        go_wp2_with fail
        refine wp_region_later (by kernel_rfl) (by kernel_rfl) ?_
        repeat go_big_quiet_step (fail)
        refine wpQuiet_nil ?_
        rintro w' ⟨u, rfl⟩
        obtain ⟨W4, hW4⟩ : ∃ W4, W4 = u.world := ⟨_, rfl⟩
        have k0 : W4.heap[w.heap.size]? = some (.cells (cv U N) 37 (0, 0)) := by rw [hW4]; exact later_block g0 _ ⟨u, rfl⟩
        have k1 : W4.heap[w.heap.size + 1]? = some (.cells (cv (can V' M') M') 37 (0, 0)) := by rw [hW4]; exact later_block g1 _ ⟨u, rfl⟩
        have k2 : W4.heap[w.heap.size + 2]? = some (.cells zeroC 37 (0, 0)) := by rw [hW4]; exact later_block g2 _ ⟨u, rfl⟩
        have hb4 : Below w.heap.size w W4 := by rw [hW4]; exact hb.trans (u.below.mono hb.size)
        rw [← hW4]
        clear hW4 g0 g1 g2 hb hx0 hy0 hx1 hy1 ne2
        have cx : W4.cell? ⟨w.heap.size, k, none⟩ = some (.int .u8 x) := by rw [cell_of_row W4 _ _ _ _ _ k0]; exact hx
        have cx' : W4.cell? ⟨w.heap.size + 1, k, none⟩ = some (.int .u8 x') := by rw [cell_of_row W4 _ _ _ _ _ k1]; exact hx'
        have cf : W4.frozen? ⟨w.heap.size, k, none⟩ = false := frozen_of_row W4 _ _ _ _ k0
        go_wp2_with fail
        refine wp_region_tail 11 (by kernel_rfl) (by kernel_rfl) ?_
        simp only [List.take_succ_cons, List.take_zero, List.drop_succ_cons, List.drop_zero]
        repeat go_big_quiet_step (fail)
        refine wpQuiet_nil ?_
        have l0 : ((W4.setCell ⟨w.heap.size, k, none⟩ (.int .u8 (bits .or .u8 x x'))).drew).heap[w.heap.size]? = some (.cells (cv (U.set k (bits .or .u8 x x')) N) 37 (0, 0)) := by rw [← cv_set_val U N hUl k hlt]; exact heap_setCell_same W4 _ _ _ _ _ k0
        have l1 : ((W4.setCell ⟨w.heap.size, k, none⟩ (.int .u8 (bits .or .u8 x x'))).drew).heap[w.heap.size + 1]? = some (.cells (cv (can V' M') M') 37 (0, 0)) := (heap_setCell_other W4 ⟨w.heap.size, k, none⟩ (w.heap.size + 1) _ (by simp)).trans k1
        have l2 : ((W4.setCell ⟨w.heap.size, k, none⟩ (.int .u8 (bits .or .u8 x x'))).drew).heap[w.heap.size + 2]? = some (.cells zeroC 37 (0, 0)) := (heap_setCell_other W4 ⟨w.heap.size, k, none⟩ (w.heap.size + 2) _ (by simp)).trans k2
        have hb5 : Below w.heap.size w ((W4.setCell ⟨w.heap.size, k, none⟩ (.int .u8 (bits .or .u8 x x'))).drew) := (hb4.setCell (Nat.le_refl _) _).drew
        obtain ⟨W5, hW5⟩ : ∃ W5, W5 = (W4.setCell ⟨w.heap.size, k, none⟩ (.int .u8 (bits .or .u8 x x'))).drew := ⟨_, rfl⟩
        have hUl2 : (U.set k (bits .or .u8 x x')).length = 13 := by rw [List.length_set]; exact hUl
        go_wp2_with fail
        rw [← hW5] at l0 l1 l2 hb5 ⊢
        clear hW5 k0 k1 k2 hb4 cx cx' cf hx hx' hy hy'
        have cy : W5.cell? ⟨w.heap.size, 13 + k, none⟩ = some (.int .u8 y) := by rw [cell_of_row W5 _ _ _ _ _ l0, cv_mask _ N hUl2 hNl k hlt, HNJ.out k hlt, if_neg (by omega), HY.out]
        have cy' : W5.cell? ⟨w.heap.size + 1, 13 + k, none⟩ = some (.int .u8 y') := by rw [cell_of_row W5 _ _ _ _ _ l1, cv_mask _ M' hBl hMl' k hlt, HY'.out]
        have cf : W5.frozen? ⟨w.heap.size, 13 + k, none⟩ = false := frozen_of_row W5 _ _ _ _ l0
        refine wp_region_tail 11 (by kernel_rfl) (by kernel_rfl) ?_
        simp only [List.take_succ_cons, List.take_zero, List.drop_succ_cons, List.drop_zero]
        repeat go_big_quiet_step (fail)
        refine wpQuiet_nil ?_
        go_wp2_with fail
        go_roundw
        case rel =>
          refine ⟨k + 1, by omega, by go_num, U.set k (bits .or .u8 x x'), N.set k (bits .or .u8 y y'), byt_set U HU.out k _ hlt (bits_u8 _ _ _), byt_set N HN.out k _ hlt (bits_u8 _ _ _), fun j hj => ?_, fun j hj => ?_, fun j hj => ?_, ?_, ?_, ?_, ?_⟩
          · rw [getD_set _ _ _ _ (by omega)]
            by_cases e : k = j
            · subst e
              rw [if_pos rfl, if_pos (by omega), HX.out, HX'.out]
            · rw [if_neg e, HUJ.out j hj]
              by_cases h : j < k
              · rw [if_pos h, if_pos (by omega)]
              · rw [if_neg h, if_neg (by omega)]
          · rw [getD_set _ _ _ _ (by omega)]
            by_cases e : k = j
            · subst e
              rw [if_pos rfl, if_pos (by omega), HY.out, HY'.out]
            · rw [if_neg e, HNJ.out j hj]
              by_cases h : j < k
              · rw [if_pos h, if_pos (by omega)]
              · rw [if_neg h, if_neg (by omega)]
          · by_cases e : j = k
            · subst e; rw [← HX.out, ← HY.out, ← HX'.out, ← HY'.out]; exact HC.out
            · exact HNO.out j (by omega)
          · rw [← cv_set_mask _ N hUl2 k]; exact heap_setCell_same W5 _ _ _ _ _ l0
          · exact (heap_setCell_other W5 ⟨w.heap.size, 13 + k, none⟩ (w.heap.size + 1) _ (by simp)).trans l1
          · exact (heap_setCell_other W5 ⟨w.heap.size, 13 + k, none⟩ (w.heap.size + 2) _ (by simp)).trans l2
          · exact (hb5.setCell (Nat.le_refl _) _).drew
        case measure => simp [intOf]; omega
      · have HC : Hid (¬ bits .and .u8 (bits .and .u8 (bits .xor .u8 x x') y) y' = 0) := hc
        have hne : (bits .and .u8 (bits .and .u8 (bits .xor .u8 x x') y) y' != 0) = true := by simp [hc]
        clear hc
        go_wp2_with fail
        refine wp_region_later (by kernel_rfl) (by kernel_rfl) ?_
        repeat go_big_quiet_step (fail)
        refine wpQuiet_nil ?_
        rintro w' ⟨u, rfl⟩
        have k2 := later_block g2 _ ⟨u, rfl⟩
        go_wp2_with (first
          | (refine wl_storeC rfl _ _ rfl (w.heap.size + 2) Z Z rfl (by rw [← zeroC_eq]; rfl) _ k2 rfl Z_byt.1 Z_byt.1 _ rfl ?_))
        refine retCe (p := 4) (u := 5) rfl rfl (w.heap.size + 2) rfl Z Z Z_byt.1 Z_byt.1 (setRow_heap _ _ _ _ _ _ k2) _ rfl ⟨?_, ?_⟩
        · have hn := HC.out
          rw [HX.out, HY.out, HX'.out, HY'.out] at hn
          rw [meetR_no _ _ _ _ (meets_not V M V' M' HM.out HM'.out k hlt hn)]; rfl
        · exact below_setRow (hb.trans (u.below.mono hb.size)) (by omega) _
    · obtain rfl : k = 13 := by omega
      go_wp2_with (first
        | (refine wl_loadC rfl _ rfl w.heap.size rfl U N g0 hUl hNl ?_)
        | (refine wl_storeC rfl _ _ rfl (w.heap.size + 2) U N rfl rfl _ g2 rfl hUl hNl _ rfl ?_))
      have e1 : U = meetV V M V' M' := mk_eq U HU.out _ fun i hi => by
        rw [bt_at, HUJ.out _ (by omega), if_pos (by omega), or_yb _ _ ((can_byt V M).2 _) ((can_byt V' M').2 _), ← bt_at, ← bt_at, can_bt _ _ _ hi, can_bt _ _ _ hi]
      have e2 : N = meetM M M' := mk_eq N HN.out _ fun i hi => by
        rw [bt_at, HNJ.out _ (by omega), if_pos (by omega), or_yb _ _ (HM.out.2 _) (HM'.out.2 _), ← bt_at, ← bt_at]
      have e3 := meets_all V M V' M' HM.out HM'.out HNO.out
      subst e1 e2
      refine retCe (p := 4) (u := 5) rfl rfl (w.heap.size + 2) rfl (meetV V M V' M') (meetM M M') hUl hNl (setRow_heap _ _ _ _ _ _ g2) _ rfl ⟨?_, ?_⟩
      · rw [meetR_yes _ _ _ _ e3]; rfl
      · exact below_setRow hb (by omega) _
end Go.Proofs.YtnbklmmampdbfaaGreatDoor
namespace Go.Proofs.YtnbklmmampdbfaaGreatDoor
open Go Go.RowKit
set_option maxRecDepth 20000

theorem info13 : (Tryz.prog.info? 31).map (·.size) = some 13 := by kernel_rfl

/-- A header that lies within a block, from a place on. -/
theorem load_part (w : World) (g off : Nat) (cs : Array Value) (t : TypeId) (fr : Nat × Nat) (L : List Int) (hL : L.length = 13) (hg : w.heap[g]? = some (.cells cs t fr)) (hc : ∀ j, j < 13 → cs[off + j]? = some (.int .u8 (L.getD j 0))) :
    (loadVar 31 ⟨g, off, none⟩).run Tryz.prog w = .ok (.agg (hv L)) w := by
  have hl : (loadCells ⟨g, off, none⟩ ((L.map (Value.int .u8))).length).run Tryz.prog w = .ok (L.map (Value.int .u8)).toArray w :=
    run_loadCells_list (P := Tryz.prog) w ⟨g, off, none⟩ (L.map (Value.int .u8)) (fun j v hv => by
      have hadd : (⟨g, off, none⟩ : Addr).add j = ⟨g, off + j, none⟩ := by unfold Addr.add; split <;> simp_all
      have hj : j < 13 := by
        have := (List.getElem?_eq_some_iff.1 hv).1
        simpa [hL] using this
      rw [hadd, cell_of_row w g (off + j) cs t fr hg, hc j hj]
      rw [List.getElem?_map, List.getElem?_eq_getElem (by omega)] at hv
      simpa [List.getD, hL, hj] using hv)
  have hi := info13
  cases hq : Tryz.prog.info? 31 with
  | none => simp [hq] at hi
  | some i =>
    have hs : i.size = 13 := by simpa [hq] using hi
    have hagg : (isAgg 31).run Tryz.prog w = .ok true w := by
      unfold isAgg
      rw [Sem.run_bind, run_underlying Tryz.underlying31 w]
      rfl
    rw [List.length_map, hL] at hl
    simp [loadVar, Sem.run_bind, hagg, sizeOf, typeInfo, hq, hs, hl, hv]

theorem wl_loadPart {ops : Array Oper} {rest : List Oper} {o : Oper} {a : Act} {w : World} {Q : Exit → Act → World → Prop} (hw : Region.wanted o (yielded ops a.tmps) = true) (x : Operand) (ho : o.op = .load 31 x)
    (g off : Nat) (hx : a.eval x = .pointer (some ⟨g, off, none⟩)) (cs : Array Value) (t : TypeId) (fr : Nat × Nat) (L : List Int) (hL : L.length = 13) (hg : w.heap[g]? = some (.cells cs t fr)) (hc : ∀ j, j < 13 → cs[off + j]? = some (.int .u8 (L.getD j 0)))
    (h : wpList Tryz.prog ops Q rest (a.put o.dst (.agg (hv L))) w) : wpList Tryz.prog ops Q (o :: rest) a w := by
  refine wpList_step fun K hK => ?_
  rw [if_pos hw]
  unfold Oper.wp execOp
  simp only [ho, hx, Instr.loadAt, Instr.sureAddr, Sem.run_bind, Sem.run_pure, Result.andThen_ok, load_part w g off cs t fr L hL hg hc]
  exact hK _ _ h
/-- The mask of a cube in memory. -/
theorem wl_loadM {ops : Array Oper} {rest : List Oper} {o : Oper} {a : Act} {w : World} {Q : Exit → Act → World → Prop} (hw : Region.wanted o (yielded ops a.tmps) = true) (x : Operand) (ho : o.op = .load 31 x)
    (g : Nat) (hx : a.eval x = .pointer (some ⟨g, 13, none⟩)) (V M : List Int) (hg : w.heap[g]? = some (.cells (cv V M) 37 (0, 0))) (hV : V.length = 13) (hM : M.length = 13)
    (h : wpList Tryz.prog ops Q rest (a.put o.dst (.agg (hv M))) w) : wpList Tryz.prog ops Q (o :: rest) a w :=
  wl_loadPart hw x ho g 13 hx _ _ _ M hM hg (fun j hj => cv_mask V M hV hM j hj) h
theorem wl_loadV {ops : Array Oper} {rest : List Oper} {o : Oper} {a : Act} {w : World} {Q : Exit → Act → World → Prop} (hw : Region.wanted o (yielded ops a.tmps) = true) (x : Operand) (ho : o.op = .load 31 x)
    (g : Nat) (hx : a.eval x = .pointer (some ⟨g, 0, none⟩)) (V M : List Int) (hg : w.heap[g]? = some (.cells (cv V M) 37 (0, 0))) (hV : V.length = 13)
    (h : wpList Tryz.prog ops Q rest (a.put o.dst (.agg (hv V))) w) : wpList Tryz.prog ops Q (o :: rest) a w :=
  wl_loadPart hw x ho g 0 hx _ _ _ V hV hg (fun j hj => by rw [Nat.zero_add]; exact cv_val V M hV j hj) h

theorem qlPart {W : World} {ops : Array Oper} {Q : Act → Prop} {rest : List Oper} {o : Oper} {a : Act} (hw : Region.wanted o (yielded ops a.tmps) = true) (x : Operand) (ho : o.op = .load 31 x)
    (g off : Nat) (hx : a.eval x = .pointer (some ⟨g, off, none⟩)) (cs : Array Value) (t : TypeId) (L : List Int) (hL : L.length = 13) (hg : W.heap[g]? = some (.cells cs t (0, 0))) (hc : ∀ j, j < 13 → cs[off + j]? = some (.int .u8 (L.getD j 0)))
    (h : wpQuiet Tryz.prog ops (fun w' => ∃ u : Later W, w' = u.world) Q rest (a.put o.dst (.agg (hv L)))) : wpQuiet Tryz.prog ops (fun w' => ∃ u : Later W, w' = u.world) Q (o :: rest) a := by
  refine BigFrame.wpQuiet_want hw fun K hK => ⟨.agg (hv L), fun w hC => ?_, hK _ h⟩
  unfold Oper.quietAt execOp
  simp only [ho, hx, Instr.loadAt, Instr.sureAddr, Sem.run_bind, Sem.run_pure, Result.andThen_ok, load_part w g off cs t (0, 0) L hL (later_block hg w hC) hc]
  exact ⟨rfl, rfl⟩
theorem qlM {W : World} {ops : Array Oper} {Q : Act → Prop} {rest : List Oper} {o : Oper} {a : Act} (hw : Region.wanted o (yielded ops a.tmps) = true) (x : Operand) (ho : o.op = .load 31 x)
    (g : Nat) (hx : a.eval x = .pointer (some ⟨g, 13, none⟩)) (V M : List Int) (hg : W.heap[g]? = some (.cells (cv V M) 37 (0, 0))) (hV : V.length = 13) (hM : M.length = 13)
    (h : wpQuiet Tryz.prog ops (fun w' => ∃ u : Later W, w' = u.world) Q rest (a.put o.dst (.agg (hv M)))) : wpQuiet Tryz.prog ops (fun w' => ∃ u : Later W, w' = u.world) Q (o :: rest) a :=
  qlPart hw x ho g 13 hx _ _ M hM hg (fun j hj => cv_mask V M hV hM j hj) h
theorem qlV {W : World} {ops : Array Oper} {Q : Act → Prop} {rest : List Oper} {o : Oper} {a : Act} (hw : Region.wanted o (yielded ops a.tmps) = true) (x : Operand) (ho : o.op = .load 31 x)
    (g : Nat) (hx : a.eval x = .pointer (some ⟨g, 0, none⟩)) (V M : List Int) (hg : W.heap[g]? = some (.cells (cv V M) 37 (0, 0))) (hV : V.length = 13)
    (h : wpQuiet Tryz.prog ops (fun w' => ∃ u : Later W, w' = u.world) Q rest (a.put o.dst (.agg (hv V)))) : wpQuiet Tryz.prog ops (fun w' => ∃ u : Later W, w' = u.world) Q (o :: rest) a :=
  qlPart hw x ho g 0 hx _ _ V hV hg (fun j hj => by rw [Nat.zero_add]; exact cv_val V M hV j hj) h

theorem store_part (w : World) (g off : Nat) (cs : Array Value) (t : TypeId) (L : List Int) (hL : L.length = 13) (hg : w.heap[g]? = some (.cells cs t (0, 0))) (hs : off + 13 ≤ cs.size) :
    (storeVar 31 ⟨g, off, none⟩ (.agg (hv L))).run Tryz.prog w = .ok () (w.setRow g (cs.toList.take off ++ L.map (Value.int .u8) ++ cs.toList.drop (off + 13)).toArray) := by
  have hst := run_storeCells_at Tryz.prog g off t (L.map (Value.int .u8)) 0 cs w hg (by simp [hL]; omega) (fun v hv => by
    obtain ⟨z, _, rfl⟩ := List.mem_map.1 hv; rfl)
  have hi := info13
  cases hq : Tryz.prog.info? 31 with
  | none => simp [hq] at hi
  | some i =>
    have hs' : i.size = 13 := by simpa [hq] using hi
    rw [Nat.add_zero, List.length_map, hL] at hst
    simp [storeVar, sizeOf, typeInfo, hq, Value.cells, hs', hv, hL, hst]

theorem wl_storePart {ops : Array Oper} {rest : List Oper} {o : Oper} {a : Act} {w : World} {Q : Exit → Act → World → Prop} (hgd : o.guard = none) (x y : Operand) (ho : o.op = .store 31 x y)
    (g off : Nat) (hx : a.eval x = .pointer (some ⟨g, off, none⟩)) (cs : Array Value) (t : TypeId) (L : List Int) (hy : a.eval y = .agg (hv L)) (hL : L.length = 13) (hg : w.heap[g]? = some (.cells cs t (0, 0))) (hs : off + 13 ≤ cs.size)
    (cs' : Array Value) (hcs' : (cs.toList.take off ++ L.map (Value.int .u8) ++ cs.toList.drop (off + 13)).toArray = cs')
    (h : wpList Tryz.prog ops Q rest (a.put o.dst undef) (w.setRow g cs')) : wpList Tryz.prog ops Q (o :: rest) a w :=
  wpList_plain hgd fun _ hK => by
    unfold Oper.wp execOp
    simp only [ho, hx, hy, Instr.storeAt, Instr.sureAddr, Sem.run_bind, Sem.run_pure, Result.andThen_ok, store_part w g off cs t L hL hg hs, hcs']
    exact hK _ _ h
theorem wl_storeM {ops : Array Oper} {rest : List Oper} {o : Oper} {a : Act} {w : World} {Q : Exit → Act → World → Prop} (hgd : o.guard = none) (x y : Operand) (ho : o.op = .store 31 x y)
    (g : Nat) (hx : a.eval x = .pointer (some ⟨g, 13, none⟩)) (V M L : List Int) (hy : a.eval y = .agg (hv L)) (hV : V.length = 13) (hM : M.length = 13) (hL : L.length = 13) (hg : w.heap[g]? = some (.cells (cv V M) 37 (0, 0)))
    (w' : World) (hw' : w.setRow g (cv V L) = w')
    (h : wpList Tryz.prog ops Q rest (a.put o.dst undef) w') : wpList Tryz.prog ops Q (o :: rest) a w :=
  wl_storePart hgd x y ho g 13 hx _ _ L hy hL hg (by rw [cv_size V M hV hM]; omega) (cv V L) (by unfold cv hv; simp [hV, hM]) (by rw [hw']; exact h)
theorem wl_storeV {ops : Array Oper} {rest : List Oper} {o : Oper} {a : Act} {w : World} {Q : Exit → Act → World → Prop} (hgd : o.guard = none) (x y : Operand) (ho : o.op = .store 31 x y)
    (g : Nat) (hx : a.eval x = .pointer (some ⟨g, 0, none⟩)) (V M L : List Int) (hy : a.eval y = .agg (hv L)) (hV : V.length = 13) (hM : M.length = 13) (hL : L.length = 13) (hg : w.heap[g]? = some (.cells (cv V M) 37 (0, 0)))
    (w' : World) (hw' : w.setRow g (cv L M) = w')
    (h : wpList Tryz.prog ops Q rest (a.put o.dst undef) w') : wpList Tryz.prog ops Q (o :: rest) a w :=
  wl_storePart hgd x y ho g 0 hx _ _ L hy hL hg (by rw [cv_size V M hV hM]; omega) (cv L M) (by unfold cv hv; simp [hV]) (by rw [hw']; exact h)

theorem built_of (L : List Int) : Tryz.prog.built 37 [(0, .agg (hv L))] = Tryz.prog.built 37 [(0, .agg (hv L))] := rfl
end Go.Proofs.YtnbklmmampdbfaaGreatDoor
namespace Go.Proofs.YtnbklmmampdbfaaGreatDoor
open Go Go.RowKit
set_option maxRecDepth 20000

theorem all_any (w : World) : Calls Tryz.prog 14 #[] w fun e w' => e = .returned (.agg (cv Z Z)) ∧ Below w.heap.size w w' := by
  go_enter Tryz.func14, Tryz.ntmps14
  go_wp2_with (refine wl_storeC rfl _ _ rfl w.heap.size Z Z rfl (by rw [← zeroC_eq]; rfl) _ (heap_new _ _ _ rfl) rfl Z_byt.1 Z_byt.1 _ (setRow_new _ _ _ _ _ rfl) ?_)
  refine retC (p := 0) rfl rfl w.heap.size rfl Z Z Z_byt.1 Z_byt.1 (heap_new _ _ _ rfl) ⟨rfl, ?_⟩
  exact (Below.refl _ _).alloc (Nat.le_refl _) _

theorem cisBit_yes (i : Int) (w : World) (h0 : 0 ≤ i) (h1 : i < 104) :
    Calls Tryz.prog 106 #[.int .i64 i] w fun e w' => e = .returned (.bool true) ∧ w' = w := by
  go_enter Tryz.func106, Tryz.ntmps106
  go_wp2
  go_ret
  exact ⟨ret_bool (by simp), rfl⟩
theorem cisBit_no (i : Int) (w : World) (h : ¬ (0 ≤ i ∧ i < 104)) :
    Calls Tryz.prog 106 #[.int .i64 i] w fun e w' => e = .returned (.bool false) ∧ w' = w := by
  by_cases h0 : 0 ≤ i
  · have h1 : 104 ≤ i := by omega
    go_enter Tryz.func106, Tryz.ntmps106
    go_wp2
    go_ret
    exact ⟨ret_bool (by simp; omega), rfl⟩
  · go_enter Tryz.func106, Tryz.ntmps106
    go_wp2
    go_ret
    exact ⟨ret_bool (by simp), rfl⟩

/-- A header with a bit as it is told. -/
def setb (L : List Int) (i : Nat) (b : Bool) : List Int := mk fun k => if k = i then b else bt L k
theorem setb_byt (L : List Int) (i : Nat) (b : Bool) : Byt (setb L i b) := mk_byt _
theorem setb_bt (L : List Int) (i : Nat) (b : Bool) (k : Nat) (hk : k < 104) : bt (setb L i b) k = if k = i then b else bt L k := mk_bt _ k hk
theorem setb_same (L : List Int) (hL : Byt L) (i : Nat) (b : Bool) (h : bt L i = b) : setb L i b = L :=
  (mk_eq L hL _ fun k _ => by
    by_cases e : k = i
    · rw [if_pos e, e, h]
    · rw [if_neg e]).symm

theorem hbit_nat (L : List Int) (hL : Byt L) (i : Nat) (hi : i < 104) (w : World) :
    Calls Tryz.prog 85 #[.agg (hv L), .int .i64 (i : Int)] w fun e w' => e = .returned (.bool (bt L i)) ∧ Below w.heap.size w w' := by
  have := bit_any L hL i w
  rwa [bitB_bt L i hi] at this
theorem rbit_nat (L : List Int) (hL : Byt L) (i : Nat) (hi : i < 104) (w : World) :
    Calls Tryz.prog 89 #[.agg (hv L), .int .i64 (i : Int)] w fun e w' => e = .returned (.bool (bt L i)) ∧ Below w.heap.size w w' := by
  have := refBit_any L hL i w
  rwa [bitB_bt L i hi] at this
theorem rput_nat (L : List Int) (hL : Byt L) (i : Nat) (hi : i < 104) (b : Bool) (w : World) :
    Calls Tryz.prog 88 #[.agg (hv L), .int .i64 (i : Int), .bool b] w fun e w' => e = .returned (.agg (hv (setb L i b))) ∧ Below w.heap.size w w' := by
  have := refPut_any L hL i b w (by omega) (by omega)
  rwa [setB_mk L hL i b hi] at this
theorem flip_nat (L : List Int) (hL : Byt L) (i : Nat) (hi : i < 104) (b : Bool) (h : bt L i ≠ b) (w : World) :
    Calls Tryz.prog 119 #[.agg (hv L), .int .i64 (i : Int)] w fun e w' => e = .returned (.agg (hv (setb L i b))) ∧ Below w.heap.size w w' := by
  have := flip_any L hL i w
  rw [flipL_mk L hL i hi] at this
  rwa [show setb L i b = mk fun k => if k = i then !(bt L k) else bt L k from mk_ext _ _ fun k _ => by
    by_cases e : k = i
    · rw [if_pos e, if_pos e, e]; revert h; cases bt L i <;> cases b <;> simp
    · rw [if_neg e, if_neg e]]

set_option maxHeartbeats 1000000 in
theorem set_any (L : List Int) (hL : Byt L) (i : Nat) (hi : i < 104) (b : Bool) (w : World) :
    Calls Tryz.prog 107 #[.agg (hv L), .int .i64 (i : Int), .bool b] w fun e w' => e = .returned (.agg (hv (setb L i b))) ∧ Below w.heap.size w w' := by
  have hl := hL.1
  by_cases h : bt L i = b
  · rw [setb_same L hL i b h]
    have CB : Hid (∀ W, Calls Tryz.prog 85 #[.agg (hv L), .int .i64 (i : Int)] W fun e w' => e = .returned (.bool b) ∧ Below W.heap.size W w') := by
      have := hbit_nat L hL i hi; rwa [h] at this
    clear h
    go_enter Tryz.func107, Tryz.ntmps107
    go_wp2_with (refine wl_load26 rfl _ rfl w.heap.size rfl L (heap_past _ _ _ _ (heap_new _ _ _ rfl)) hl ?_)
    refine (CB.out _).mono ?_
    rintro e w1 ⟨rfl, hb1⟩
    have g1 : w1.heap[w.heap.size]? = some (.cells (hv L) 31 (0, 0)) := by
      rw [hb1.block _ (by simp; omega)]; exact heap_past _ _ _ _ (heap_new _ _ _ rfl)
    have g2 : w1.heap[w.heap.size + 1]? = some (.cells zero26 31 (0, 0)) := by
      rw [hb1.block _ (by simp)]; exact heap_new _ _ _ (by simp)
    have hB1 : Below w.heap.size w w1 := (((Below.refl _ _).alloc (Nat.le_refl _) _).alloc (by simp) _).trans (hb1.mono (by simp; omega))
    clear hb1
    have hn : (b != b) = false := by simp
    go_wp2_with (first
      | (refine wl_load26 rfl _ rfl w.heap.size rfl L g1 hl ?_)
      | (refine wl_store26 rfl _ _ rfl (w.heap.size + 1) L rfl rfl _ g2 rfl hl _ rfl ?_))
    refine ret26 (p := 6) rfl rfl (w.heap.size + 1) rfl L hl (setRow_heap _ _ _ _ _ _ g2) ⟨rfl, ?_⟩
    exact below_setRow hB1 (by omega) _
  · have CB : Hid (∀ W, Calls Tryz.prog 85 #[.agg (hv L), .int .i64 (i : Int)] W fun e w' => e = .returned (.bool (!b)) ∧ Below W.heap.size W w') := by
      have := hbit_nat L hL i hi
      rwa [show bt L i = !b by revert h; cases bt L i <;> cases b <;> simp] at this
    have CF : Hid (∀ W, Calls Tryz.prog 119 #[.agg (hv L), .int .i64 (i : Int)] W fun e w' => e = .returned (.agg (hv (setb L i b))) ∧ Below W.heap.size W w') := flip_nat L hL i hi b h
    have hsl := (setb_byt L i b).1
    have hn : ((!b) != b) = true := by cases b <;> rfl
    clear h
    go_enter Tryz.func107, Tryz.ntmps107
    go_wp2_with (refine wl_load26 rfl _ rfl w.heap.size rfl L (heap_past _ _ _ _ (heap_new _ _ _ rfl)) hl ?_)
    refine (CB.out _).mono ?_
    rintro e w1 ⟨rfl, hb1⟩
    have g1 : w1.heap[w.heap.size]? = some (.cells (hv L) 31 (0, 0)) := by
      rw [hb1.block _ (by simp; omega)]; exact heap_past _ _ _ _ (heap_new _ _ _ rfl)
    have g2 : w1.heap[w.heap.size + 1]? = some (.cells zero26 31 (0, 0)) := by
      rw [hb1.block _ (by simp)]; exact heap_new _ _ _ (by simp)
    have hB1 : Below w.heap.size w w1 := (((Below.refl _ _).alloc (Nat.le_refl _) _).alloc (by simp) _).trans (hb1.mono (by simp; omega))
    have hz1 := hb1.size
    simp only [World.size_alloc] at hz1
    clear hb1
    go_wp2_with (first
      | (refine wl_load26 rfl _ rfl w.heap.size rfl L g1 hl ?_))
    refine (CF.out _).mono ?_
    rintro e w2 ⟨rfl, hb2⟩
    have g3 : w2.heap[w.heap.size + 1]? = some (.cells zero26 31 (0, 0)) := by
      rw [hb2.block _ (by omega)]; exact g2
    have hB2 : Below w.heap.size w w2 := hB1.trans (hb2.mono hB1.size)
    clear hb2
    go_wp2_with (first
      | (refine wl_store26 rfl _ _ rfl (w.heap.size + 1) (setb L i b) rfl rfl _ g3 rfl hsl _ rfl ?_))
    refine ret26 (p := 6) rfl rfl (w.heap.size + 1) rfl _ hsl (setRow_heap _ _ _ _ _ _ g3) ⟨rfl, ?_⟩
    exact below_setRow hB2 (by omega) _
end Go.Proofs.YtnbklmmampdbfaaGreatDoor
namespace Go.Proofs.YtnbklmmampdbfaaGreatDoor
open Go Go.RowKit
set_option maxRecDepth 20000

set_option maxHeartbeats 1000000 in
theorem fix_no (V M : List Int) (i : Int) (b : Bool) (hi : ¬ (0 ≤ i ∧ i < 104)) (w : World) :
    Calls Tryz.prog 84 #[.agg (cv V M), .int .i64 i, .bool b] w fun e w' => e = .returned (.tuple #[.agg (cv Z Z), .int .i64 3]) ∧ Below w.heap.size w w' := by
  go_enter Tryz.func84, Tryz.ntmps84
  have HI : Hid (¬ (0 ≤ i ∧ i < 104)) := hi
  clear hi
  go_wp2_with (first
    | (go_at_call 106; refine (cisBit_no _ _ HI.out).mono ?_; rintro e w' ⟨rfl, rfl⟩)
    | (refine wl_storeC rfl _ _ rfl (w.heap.size + 1) Z Z rfl (by rw [← zeroC_eq]; rfl) _ (heap_new _ _ _ (by simp)) rfl Z_byt.1 Z_byt.1 _ (setRow_new _ _ _ _ _ (by simp)) ?_))
  refine retCe (p := 6) (u := 7) rfl rfl (w.heap.size + 1) rfl Z Z Z_byt.1 Z_byt.1 (heap_new _ _ _ (by simp)) _ rfl ⟨rfl, ?_⟩
  exact ((Below.refl _ _).alloc (Nat.le_refl _) _).alloc (by simp) _

def fixV (V M : List Int) (i : Nat) (b : Bool) : List Int := setb (can V M) i b
def fixM (M : List Int) (i : Nat) : List Int := setb M i true

set_option maxHeartbeats 2000000 in
theorem fix_in (V M : List Int) (hV : Byt V) (hM : Byt M) (i : Nat) (b : Bool) (hi : i < 104) (w : World) :
    Calls Tryz.prog 84 #[.agg (cv V M), .int .i64 (i : Int), .bool b] w fun e w' => e = .returned (.tuple #[.agg (cv (fixV V M i b) (fixM M i)), .int .i64 0]) ∧ Below w.heap.size w w' := by
  have hVl := hV.1
  have hMl := hM.1
  have hCl := (can_byt V M).1
  have hFl : (fixM M i).length = 13 := (setb_byt M i true).1
  have hGl : (fixV V M i b).length = 13 := (setb_byt _ i b).1
  have CC : Hid (∀ W, Calls Tryz.prog 63 #[.agg (cv V M)] W fun e w' => e = .returned (.agg (cv (can V M) M)) ∧ Below W.heap.size W w') := canon_any V M hV hM
  have C1 : Hid (∀ W, Calls Tryz.prog 107 #[.agg (hv M), .int .i64 (i : Int), .bool true] W fun e w' => e = .returned (.agg (hv (fixM M i))) ∧ Below W.heap.size W w') := set_any M hM i hi true
  have C2 : Hid (∀ W, Calls Tryz.prog 107 #[.agg (hv (can V M)), .int .i64 (i : Int), .bool b] W fun e w' => e = .returned (.agg (hv (fixV V M i b))) ∧ Below W.heap.size W w') := set_any _ (can_byt V M) i hi b
  clear hV hM
  go_enter Tryz.func84, Tryz.ntmps84
  have g0 : ((w.alloc (.cells (cv V M) 37)).alloc (.cells zeroC 37)).heap[w.heap.size]? = some (.cells (cv V M) 37 (0, 0)) := heap_past _ _ _ _ (heap_new _ _ _ rfl)
  have g1 : ((w.alloc (.cells (cv V M) 37)).alloc (.cells zeroC 37)).heap[w.heap.size + 1]? = some (.cells zeroC 37 (0, 0)) := heap_new _ _ _ (by simp)
  have hb : Below w.heap.size w ((w.alloc (.cells (cv V M) 37)).alloc (.cells zeroC 37)) := ((Below.refl _ _).alloc (Nat.le_refl _) _).alloc (by simp) _
  have hsz : w.heap.size + 2 ≤ ((w.alloc (.cells (cv V M) 37)).alloc (.cells zeroC 37)).heap.size := by simp
  go_wp2_with (first
    | (go_at_call 106; refine (cisBit_yes _ _ (by omega) (by omega)).mono ?_; rintro e w' ⟨rfl, rfl⟩)
    | (refine wl_loadC rfl _ rfl w.heap.size rfl V M g0 hVl hMl ?_))
  refine (CC.out _).mono ?_
  rintro e w1 ⟨rfl, hb1⟩
  have k0 : w1.heap[w.heap.size]? = some (.cells (cv V M) 37 (0, 0)) := by rw [hb1.block _ (by simp; omega)]; exact g0
  have k1 : w1.heap[w.heap.size + 1]? = some (.cells zeroC 37 (0, 0)) := by rw [hb1.block _ (by simp)]; exact g1
  have hz1 : w.heap.size + 2 ≤ w1.heap.size := Nat.le_trans hsz hb1.size
  have hB1 := hb.trans (hb1.mono hb.size)
  clear g0 g1 hb hsz hb1 CC
  have l0 : (w1.setRow w.heap.size (cv (can V M) M)).heap[w.heap.size]? = some (.cells (cv (can V M) M) 37 (0, 0)) := setRow_heap _ _ _ _ _ _ k0
  have l1 : (w1.setRow w.heap.size (cv (can V M) M)).heap[w.heap.size + 1]? = some (.cells zeroC 37 (0, 0)) := (setRow_other _ _ _ _ (by omega)).trans k1
  go_wp2_with (first
    | (refine wl_storeC rfl _ _ rfl w.heap.size (can V M) M rfl rfl _ k0 (cv_size _ _ hVl hMl) hCl hMl _ rfl ?_)
    | (refine wl_loadM rfl _ rfl w.heap.size rfl (can V M) M l0 hCl hMl ?_))
  refine (C1.out _).mono ?_
  rintro e w2 ⟨rfl, hb2⟩
  have m0 : w2.heap[w.heap.size]? = some (.cells (cv (can V M) M) 37 (0, 0)) := by rw [hb2.block _ (by simp; omega)]; exact l0
  have m1 : w2.heap[w.heap.size + 1]? = some (.cells zeroC 37 (0, 0)) := by rw [hb2.block _ (by simp; omega)]; exact l1
  have hz2 : w.heap.size + 2 ≤ w2.heap.size := Nat.le_trans (by simpa using hz1) hb2.size
  have hB2 := (below_setRow hB1 (Nat.le_refl _) (cv (can V M) M)).trans (hb2.mono (by simpa using hB1.size))
  clear l0 l1 k0 k1 hB1 hb2 hz1 C1
  have n0 : (w2.setRow w.heap.size (cv (can V M) (fixM M i))).heap[w.heap.size]? = some (.cells (cv (can V M) (fixM M i)) 37 (0, 0)) := setRow_heap _ _ _ _ _ _ m0
  have n1 : (w2.setRow w.heap.size (cv (can V M) (fixM M i))).heap[w.heap.size + 1]? = some (.cells zeroC 37 (0, 0)) := (setRow_other _ _ _ _ (by omega)).trans m1
  go_wp2_with (first
    | (refine wl_storeM rfl _ _ rfl w.heap.size rfl (can V M) M (fixM M i) rfl hCl hMl hFl m0 _ rfl ?_)
    | (refine wl_loadV rfl _ rfl w.heap.size rfl (can V M) (fixM M i) n0 hCl ?_))
  refine (C2.out _).mono ?_
  rintro e w3 ⟨rfl, hb3⟩
  have p0 : w3.heap[w.heap.size]? = some (.cells (cv (can V M) (fixM M i)) 37 (0, 0)) := by rw [hb3.block _ (by simp; omega)]; exact n0
  have p1 : w3.heap[w.heap.size + 1]? = some (.cells zeroC 37 (0, 0)) := by rw [hb3.block _ (by simp; omega)]; exact n1
  have hB3 := (below_setRow hB2 (Nat.le_refl _) (cv (can V M) (fixM M i))).trans (hb3.mono (by simpa using hB2.size))
  clear m0 m1 n0 n1 hB2 hb3 hz2 C2
  have q0 : (w3.setRow w.heap.size (cv (fixV V M i b) (fixM M i))).heap[w.heap.size]? = some (.cells (cv (fixV V M i b) (fixM M i)) 37 (0, 0)) := setRow_heap _ _ _ _ _ _ p0
  have q1 : (w3.setRow w.heap.size (cv (fixV V M i b) (fixM M i))).heap[w.heap.size + 1]? = some (.cells zeroC 37 (0, 0)) := (setRow_other _ _ _ _ (by omega)).trans p1
  go_wp2_with (first
    | (refine wl_storeV rfl _ _ rfl w.heap.size rfl (can V M) (fixM M i) (fixV V M i b) rfl hCl hFl hGl p0 _ rfl ?_)
    | (refine wl_loadC rfl _ rfl w.heap.size rfl (fixV V M i b) (fixM M i) q0 hGl hFl ?_)
    | (refine wl_storeC rfl _ _ rfl (w.heap.size + 1) (fixV V M i b) (fixM M i) rfl rfl _ q1 rfl hGl hFl _ rfl ?_))
  refine retCe (p := 6) (u := 7) rfl rfl (w.heap.size + 1) rfl _ _ hGl hFl (setRow_heap _ _ _ _ _ _ q1) _ rfl ⟨rfl, ?_⟩
  exact below_setRow (below_setRow hB3 (Nat.le_refl _) _) (by omega) _
end Go.Proofs.YtnbklmmampdbfaaGreatDoor
