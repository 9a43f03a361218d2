import Derived.Test.YtnppfibojcgkmaaProg
import Derived.WalkKit
import Derived.WalkSpells
import Derived.WalkLawsBesides
import Derived.BigQuiet
import Derived.KernelRfl
import Derived.Laws.StructEq
import Derived.Laws.Tables
import Derived.Laws.Rows
namespace Go.Proofs.Ytnppfibojcgkmaa
open Go Go.RowKit
set_option maxRecDepth 20000

theorem ret_bool {a b : Bool} (h : a = b) : Ending.returned (.bool a) = .returned (.bool b) := by rw [h]
theorem ret_int {k : IntKind} {a b : Int} (h : a = b) : Ending.returned (.int k a) = .returned (.int k b) := by rw [h]

def hv (L : List Int) : Array Value := (L.map (Value.int .u8)).toArray
def Byt (L : List Int) : Prop := L.length = 13 ∧ ∀ k, 0 ≤ L.getD k 0 ∧ L.getD k 0 < 256

theorem hv_size (L : List Int) : (hv L).size = L.length := by simp [hv]
theorem hv_at (L : List Int) (hL : L.length = 13) (k : Nat) (hk : k < 13) : (hv L)[k]? = some (.int .u8 (L.getD k 0)) := by
  unfold hv
  simp [List.getElem?_map, List.getElem?_eq_getElem (show k < L.length by omega), List.getD]
theorem hv_one (L : List Int) : (hv L).all (·.oneCell') = true := by
  simp [hv, Value.oneCell']
theorem hv_inj {L M : List Int} (h : hv L = hv M) : L = M := by
  have h' : L.map (Value.int .u8) = M.map (Value.int .u8) := by simpa [hv] using h
  exact (List.map_inj_right (fun a b e => by simpa using e)).1 h'

theorem part5 (L : List Int) (hL : L.length = 13) (k : Nat) (hk : k < 13) (w : World) : (part 5 (hv L) k).run Try.prog w = .ok (.int .u8 (L.getD k 0)) w := by
  have u5 := Try.underlying5
  have hx := hv_at L hL k hk
  have hz : ∀ w, (sizeOf 5).run Try.prog w = .ok 1 w := fun w => by kernel_rfl
  have ha : ∀ w, (isAgg 5).run Try.prog w = .ok false w := fun w => by kernel_rfl
  simp [part, ha, hx, Sem.run_bind]

theorem loop26 (L M : List Int) (hL : L.length = 13) (hM : M.length = 13) (w : World) (k : Option Bool × Unit → World → Result Bool) (k1 : k (some false, ()) w = .ok false w) (k2 : k (none, ()) w = .ok true w) : ∀ (is : List Nat), (∀ i ∈ is, i < 13) →
    ((forIn is ((none, ()) : Option Bool × Unit) fun i (_ : Option Bool × Unit) => (do
            if !(← Op.equalIn 9999 5 (← part 5 (hv L) (i * 1)) (← part 5 (hv M) (i * 1))) then pure (ForInStep.done (some false, ())) else pure (ForInStep.yield (none, ())) : Sem (ForInStep (Option Bool × Unit)))).run Try.prog w).andThen k = .ok (is.all fun i => L.getD i 0 == M.getD i 0) w := by
  intro is
  induction is with
  | nil => intro _; simpa using k2
  | cons i is ih =>
    intro h
    have hi := h i (by simp)
    have ih' := ih (fun j hj => h j (by simp [hj]))
    have e : (Op.equalIn 9999 5 (.int .u8 (L.getD i 0)) (.int .u8 (M.getD i 0))).run Try.prog w = .ok (L.getD i 0 == M.getD i 0) w := run_equalIn_int w 9998 5 .u8 .u8 _ _ Try.underlying5
    simp only [List.forIn_cons, Sem.run_bind, Nat.mul_one, part5 L hL i hi, part5 M hM i hi, Result.andThen_ok, e]
    by_cases hc : (L.getD i 0 == M.getD i 0) = true
    · simp only [hc, Bool.not_true, Bool.false_eq_true, if_false, Sem.run_pure, Result.andThen_ok, List.all_cons, Bool.true_and]
      simpa only [Sem.run_bind, Nat.mul_one] using ih'
    · have hc' : (L.getD i 0 == M.getD i 0) = false := by simpa using hc
      simp only [hc', Bool.not_false, if_true, Sem.run_pure, Result.andThen_ok, List.all_cons, Bool.false_and]
      exact k1

theorem loopN (d : Nat) (L M : List Int) (hL : L.length = 13) (hM : M.length = 13) (w : World) (k : Option Bool × Unit → World → Result Bool) (k1 : k (some false, ()) w = .ok false w) (k2 : k (none, ()) w = .ok true w) : ∀ (is : List Nat), (∀ i ∈ is, i < 13) →
    ((forIn is ((none, ()) : Option Bool × Unit) fun i (_ : Option Bool × Unit) => (do
            if !(← Op.equalIn (d + 1) 5 (← part 5 (hv L) (i * 1)) (← part 5 (hv M) (i * 1))) then pure (ForInStep.done (some false, ())) else pure (ForInStep.yield (none, ())) : Sem (ForInStep (Option Bool × Unit)))).run Try.prog w).andThen k = .ok (is.all fun i => L.getD i 0 == M.getD i 0) w := by
  intro is
  induction is with
  | nil => intro _; simpa using k2
  | cons i is ih =>
    intro h
    have hi := h i (by simp)
    have ih' := ih (fun j hj => h j (by simp [hj]))
    have e : (Op.equalIn (d + 1) 5 (.int .u8 (L.getD i 0)) (.int .u8 (M.getD i 0))).run Try.prog w = .ok (L.getD i 0 == M.getD i 0) w := run_equalIn_int w d 5 .u8 .u8 _ _ Try.underlying5
    simp only [List.forIn_cons, Sem.run_bind, Nat.mul_one, part5 L hL i hi, part5 M hM i hi, Result.andThen_ok, e]
    by_cases hc : (L.getD i 0 == M.getD i 0) = true
    · simp only [hc, Bool.not_true, Bool.false_eq_true, if_false, Sem.run_pure, Result.andThen_ok, List.all_cons, Bool.true_and]
      simpa only [Sem.run_bind, Nat.mul_one] using ih'
    · have hc' : (L.getD i 0 == M.getD i 0) = false := by simpa using hc
      simp only [hc', Bool.not_false, if_true, Sem.run_pure, Result.andThen_ok, List.all_cons, Bool.false_and]
      exact k1

theorem all_eq (L M : List Int) (hL : L.length = 13) (hM : M.length = 13) : ((List.range' 0 13).all fun i => L.getD i 0 == M.getD i 0) = (L == M) := by
  rw [Bool.eq_iff_iff]
  simp only [List.all_eq_true, List.mem_range'_1, beq_iff_eq]
  constructor
  · intro h
    apply List.ext_getElem (by omega)
    intro k h1 h2
    have := h k ⟨by omega, by omega⟩
    simpa [List.getD, h1, h2] using this
  · rintro rfl k _; rfl

structure Later (W : World) where
  world : World
  below : Below W.heap.size W world

theorem Later.ne (W : World) : Nonempty (Later W) := ⟨⟨W, Below.refl _ _⟩⟩

theorem wp_region_later {P : Program} {id : Nat} {Q : Exit → Act → World → Prop} {a : Act} {w : World} {l : List Oper} (hm : P.follows .mixedOrders = true) (hB : Region.lexB .any l.toArray = true)
    (h : wpQuiet P l.toArray (fun w' => ∃ u : Later w, w' = u.world) (fun a' => ∀ w', (∃ u : Later w, w' = u.world) → Q .normal a' w') l a) : (Code.region id l.toArray true).wp P Q a w :=
  wp_region_quiet (C := fun w' => ∃ u : Later w, w' = u.world) hm hB ⟨⟨w.drew, (Below.refl _ _).drew⟩, rfl⟩ (by simpa using h)

theorem Calls.later_of {P : Program} {f : FuncId} {args : Array Value} {W : World} {u : Later W} {v : Value}
    (h : Calls P f args u.world fun e w' => e = .returned v ∧ Below u.world.heap.size u.world w') : Calls P f args u.world fun e w'' => e = .returned v ∧ ∃ u' : Later W, w'' = u'.world :=
  h.mono fun _ w1 ⟨he, hb⟩ => ⟨he, ⟨w1, u.below.trans (hb.mono u.below.size)⟩, rfl⟩

theorem q_load_row {P : Program} {ops : Array Oper} {C : World → Prop} {Q : Act → Prop} {rest : List Oper} {o : Oper} {a : Act} (hw : Region.wanted o (yielded ops a.tmps) = true) (ty : TypeId) (x : Operand) (ho : o.op = .load ty x)
    (g : Nat) (hx : a.eval x = .pointer (some ⟨g, 0, none⟩)) (t : TypeId) (cs : Array Value) (fr : Nat × Nat) (d : TypeDesc) (hg : ∀ w', C w' → w'.heap[g]? = some (.cells cs t fr))
    (hu : P.underlying ty = some d) (hd : (match d with | .struct _ | .array _ _ => true | _ => false) = true) (hi : (P.info? ty).map (·.size) = some cs.size)
    (h : wpQuiet P ops C Q rest (a.put o.dst (.agg cs))) : wpQuiet P ops C Q (o :: rest) a := by
  refine BigFrame.wpQuiet_want hw fun K hK => ⟨.agg cs, fun w hC => ?_, hK _ h⟩
  unfold Oper.quietAt execOp
  simp only [ho, hx, Instr.loadAt, Instr.sureAddr, Sem.run_bind, Sem.run_pure, Result.andThen_ok, run_loadVar_row w g t ty cs fr d (hg w hC) hu hd hi]
  exact ⟨rfl, rfl⟩

theorem later_block {W : World} {g : Nat} {o : Obj} (h : W.heap[g]? = some o) : ∀ w', (∃ u : Later W, w' = u.world) → w'.heap[g]? = some o := by
  rintro w' ⟨u, rfl⟩
  have hlt : g < W.heap.size := by
    rcases Array.getElem?_eq_some_iff.1 h with ⟨hl, _⟩
    exact hl
  rw [u.below.block g hlt, h]


theorem setRow_new (w : World) (old cs : Array Value) (t : TypeId) (g : Nat) (hg : g = w.heap.size) : (w.alloc (.cells old t)).setRow g cs = w.alloc (.cells cs t) := by
  subst hg
  simp only [World.setRow, World.alloc]
  congr 1
  apply Array.ext
  · simp
  · intro k h1 h2
    simp only [Array.getElem_modify, Array.getElem_push]
    by_cases hk : k < w.heap.size
    · simp [hk, show ¬ w.heap.size = k by omega]
    · have : w.heap.size = k := by simp at h2; omega
      simp [this]

theorem setRow_past (w : World) (o : Obj) (cs : Array Value) (g : Nat) (hg : g < w.heap.size) : (w.alloc o).setRow g cs = (w.setRow g cs).alloc o := by
  simp only [World.setRow, World.alloc]
  congr 1
  apply Array.ext
  · simp
  · intro k h1 h2
    simp only [Array.getElem_modify, Array.getElem_push, Array.size_modify]
    by_cases hk : k < w.heap.size
    · simp [hk]
    · simp [hk, show ¬ g = k by omega]

theorem setRow_drew (w : World) (g : Nat) (cs : Array Value) : w.drew.setRow g cs = (w.setRow g cs).drew := rfl
theorem setRow_drewN (w : World) (g n : Nat) (cs : Array Value) : (w.drewN n).setRow g cs = (w.setRow g cs).drewN n := rfl

theorem below_setRow {B : Nat} {a w : World} (h : Below B a w) {g : Nat} (hg : B ≤ g) (cs : Array Value) : Below B a (w.setRow g cs) :=
  ⟨h.os, h.tape, h.output, by simpa using h.size, fun k hk => (setRow_other w g k cs (by omega)).trans (h.block k hk)⟩

theorem heap_new (w : World) (o : Obj) (g : Nat) (hg : g = w.heap.size) : (w.alloc o).heap[g]? = some o := by rw [hg]; exact heap_alloc_new w o
theorem heap_past (w : World) (o x : Obj) (g : Nat) (h : w.heap[g]? = some x) : (w.alloc o).heap[g]? = some x := by
  rw [Below.heap_alloc w o g (Array.getElem?_eq_some_iff.1 h).1]; exact h

end Go.Proofs.Ytnppfibojcgkmaa
