import Derived.Test.YthddlchkbnmcaaaGreatDoorJ13
import Derived.Lib.BitFns
import Derived.Great.BuildSlice
import Derived.Laws.AppendOwn
import Derived.Laws.OwnMore
import Derived.WalkMore
import Derived.Test.YthddlchkbnmcaaaGreatDoorJ9
namespace Go.Proofs.YthddlchkbnmcaaaGreatDoor
open Go Go.RowKit
set_option maxRecDepth 20000

theorem all_any (w : World) : Calls Tryz.prog 14 #[] w fun e w' => e = .returned (.agg (cv Z Z)) ∧ Below w.heap.size w w' := by
  go_enter Tryz.func14, Tryz.ntmps14
  go_wp2_with (refine wl_storeC rfl _ _ rfl w.heap.size Z Z rfl (by rw [← zeroC_eq]; rfl) _ (heap_new _ _ _ rfl) rfl Z_byt.1 Z_byt.1 _ (setRow_new _ _ _ _ _ rfl) ?_)
  refine retC (p := 0) rfl rfl w.heap.size rfl Z Z Z_byt.1 Z_byt.1 (heap_new _ _ _ rfl) ⟨rfl, ?_⟩
  exact (Below.refl _ _).alloc (Nat.le_refl _) _

theorem cisBit_yes (i : Int) (w : World) (h0 : 0 ≤ i) (h1 : i < 104) :
    Calls Tryz.prog 106 #[.int .i64 i] w fun e w' => e = .returned (.bool true) ∧ w' = w := by
  go_enter Tryz.func106, Tryz.ntmps106
  go_wp2
  go_ret
  exact ⟨ret_bool (by simp), rfl⟩
/-- A header with a bit as it is told. -/
def setb (L : List Int) (i : Nat) (b : Bool) : List Int := mk fun k => if k = i then b else bt L k
theorem setb_byt (L : List Int) (i : Nat) (b : Bool) : Byt (setb L i b) := mk_byt _
theorem setb_bt (L : List Int) (i : Nat) (b : Bool) (k : Nat) (hk : k < 104) : bt (setb L i b) k = if k = i then b else bt L k := mk_bt _ k hk
theorem setb_same (L : List Int) (hL : Byt L) (i : Nat) (b : Bool) (h : bt L i = b) : setb L i b = L :=
  (mk_eq L hL _ fun k _ => by
    by_cases e : k = i
    · rw [if_pos e, e, h]
    · rw [if_neg e]).symm

theorem hbit_nat (L : List Int) (hL : Byt L) (i : Nat) (hi : i < 104) (w : World) :
    Calls Tryz.prog 85 #[.agg (hv L), .int .i64 (i : Int)] w fun e w' => e = .returned (.bool (bt L i)) ∧ Below w.heap.size w w' := by
  have := bit_any L hL i w
  rwa [bitB_bt L i hi] at this
theorem rbit_nat (L : List Int) (hL : Byt L) (i : Nat) (hi : i < 104) (w : World) :
    Calls Tryz.prog 89 #[.agg (hv L), .int .i64 (i : Int)] w fun e w' => e = .returned (.bool (bt L i)) ∧ Below w.heap.size w w' := by
  have := refBit_any L hL i w
  rwa [bitB_bt L i hi] at this
theorem rput_nat (L : List Int) (hL : Byt L) (i : Nat) (hi : i < 104) (b : Bool) (w : World) :
    Calls Tryz.prog 88 #[.agg (hv L), .int .i64 (i : Int), .bool b] w fun e w' => e = .returned (.agg (hv (setb L i b))) ∧ Below w.heap.size w w' := by
  have := refPut_any L hL i b w (by omega) (by omega)
  rwa [setB_mk L hL i b hi] at this
theorem flip_nat (L : List Int) (hL : Byt L) (i : Nat) (hi : i < 104) (b : Bool) (h : bt L i ≠ b) (w : World) :
    Calls Tryz.prog 119 #[.agg (hv L), .int .i64 (i : Int)] w fun e w' => e = .returned (.agg (hv (setb L i b))) ∧ Below w.heap.size w w' := by
  have := flip_any L hL i w
  rw [flipL_mk L hL i hi] at this
  rwa [show setb L i b = mk fun k => if k = i then !(bt L k) else bt L k from mk_ext _ _ fun k _ => by
    by_cases e : k = i
    · rw [if_pos e, if_pos e, e]; revert h; cases bt L i <;> cases b <;> simp
    · rw [if_neg e, if_neg e]]

set_option maxHeartbeats 1000000 in
theorem set_any (L : List Int) (hL : Byt L) (i : Nat) (hi : i < 104) (b : Bool) (w : World) :
    Calls Tryz.prog 107 #[.agg (hv L), .int .i64 (i : Int), .bool b] w fun e w' => e = .returned (.agg (hv (setb L i b))) ∧ Below w.heap.size w w' := by
  have hl := hL.1
  by_cases h : bt L i = b
  · rw [setb_same L hL i b h]
    have CB : Hid (∀ W, Calls Tryz.prog 85 #[.agg (hv L), .int .i64 (i : Int)] W fun e w' => e = .returned (.bool b) ∧ Below W.heap.size W w') := by
      have := hbit_nat L hL i hi; rwa [h] at this
    clear h
    go_enter Tryz.func107, Tryz.ntmps107
    go_wp2_with (refine wl_load26 rfl _ rfl w.heap.size rfl L (heap_past _ _ _ _ (heap_new _ _ _ rfl)) hl ?_)
    refine (CB.out _).mono ?_
    rintro e w1 ⟨rfl, hb1⟩
    have g1 : w1.heap[w.heap.size]? = some (.cells (hv L) 31 (0, 0)) := by
      rw [hb1.block _ (by simp; omega)]; exact heap_past _ _ _ _ (heap_new _ _ _ rfl)
    have g2 : w1.heap[w.heap.size + 1]? = some (.cells zero26 31 (0, 0)) := by
      rw [hb1.block _ (by simp)]; exact heap_new _ _ _ (by simp)
    have hB1 : Below w.heap.size w w1 := (((Below.refl _ _).alloc (Nat.le_refl _) _).alloc (by simp) _).trans (hb1.mono (by simp; omega))
    clear hb1
    have hn : (b != b) = false := by simp
    go_wp2_with (first
      | (refine wl_load26 rfl _ rfl w.heap.size rfl L g1 hl ?_)
      | (refine wl_store26 rfl _ _ rfl (w.heap.size + 1) L rfl rfl _ g2 rfl hl _ rfl ?_))
    refine ret26 (p := 6) rfl rfl (w.heap.size + 1) rfl L hl (setRow_heap _ _ _ _ _ _ g2) ⟨rfl, ?_⟩
    exact below_setRow hB1 (by omega) _
  · have CB : Hid (∀ W, Calls Tryz.prog 85 #[.agg (hv L), .int .i64 (i : Int)] W fun e w' => e = .returned (.bool (!b)) ∧ Below W.heap.size W w') := by
      have := hbit_nat L hL i hi
      rwa [show bt L i = !b by revert h; cases bt L i <;> cases b <;> simp] at this
    have CF : Hid (∀ W, Calls Tryz.prog 119 #[.agg (hv L), .int .i64 (i : Int)] W fun e w' => e = .returned (.agg (hv (setb L i b))) ∧ Below W.heap.size W w') := flip_nat L hL i hi b h
    have hsl := (setb_byt L i b).1
    have hn : ((!b) != b) = true := by cases b <;> rfl
    clear h
    go_enter Tryz.func107, Tryz.ntmps107
    go_wp2_with (refine wl_load26 rfl _ rfl w.heap.size rfl L (heap_past _ _ _ _ (heap_new _ _ _ rfl)) hl ?_)
    refine (CB.out _).mono ?_
    rintro e w1 ⟨rfl, hb1⟩
    have g1 : w1.heap[w.heap.size]? = some (.cells (hv L) 31 (0, 0)) := by
      rw [hb1.block _ (by simp; omega)]; exact heap_past _ _ _ _ (heap_new _ _ _ rfl)
    have g2 : w1.heap[w.heap.size + 1]? = some (.cells zero26 31 (0, 0)) := by
      rw [hb1.block _ (by simp)]; exact heap_new _ _ _ (by simp)
    have hB1 : Below w.heap.size w w1 := (((Below.refl _ _).alloc (Nat.le_refl _) _).alloc (by simp) _).trans (hb1.mono (by simp; omega))
    have hz1 := hb1.size
    simp only [World.size_alloc] at hz1
    clear hb1
    go_wp2_with (first
      | (refine wl_load26 rfl _ rfl w.heap.size rfl L g1 hl ?_))
    refine (CF.out _).mono ?_
    rintro e w2 ⟨rfl, hb2⟩
    have g3 : w2.heap[w.heap.size + 1]? = some (.cells zero26 31 (0, 0)) := by
      rw [hb2.block _ (by omega)]; exact g2
    have hB2 : Below w.heap.size w w2 := hB1.trans (hb2.mono hB1.size)
    clear hb2
    go_wp2_with (first
      | (refine wl_store26 rfl _ _ rfl (w.heap.size + 1) (setb L i b) rfl rfl _ g3 rfl hsl _ rfl ?_))
    refine ret26 (p := 6) rfl rfl (w.heap.size + 1) rfl _ hsl (setRow_heap _ _ _ _ _ _ g3) ⟨rfl, ?_⟩
    exact below_setRow hB2 (by omega) _
end Go.Proofs.YthddlchkbnmcaaaGreatDoor
namespace Go.Proofs.YthddlchkbnmcaaaGreatDoor
open Go Go.RowKit
set_option maxRecDepth 20000

def fixV (V M : List Int) (i : Nat) (b : Bool) : List Int := setb (can V M) i b
def fixM (M : List Int) (i : Nat) : List Int := setb M i true

set_option maxHeartbeats 2000000 in
theorem fix_in (V M : List Int) (hV : Byt V) (hM : Byt M) (i : Nat) (b : Bool) (hi : i < 104) (w : World) :
    Calls Tryz.prog 84 #[.agg (cv V M), .int .i64 (i : Int), .bool b] w fun e w' => e = .returned (.tuple #[.agg (cv (fixV V M i b) (fixM M i)), .int .i64 0]) ∧ Below w.heap.size w w' := by
  have hVl := hV.1
  have hMl := hM.1
  have hCl := (can_byt V M).1
  have hFl : (fixM M i).length = 13 := (setb_byt M i true).1
  have hGl : (fixV V M i b).length = 13 := (setb_byt _ i b).1
  have CC : Hid (∀ W, Calls Tryz.prog 63 #[.agg (cv V M)] W fun e w' => e = .returned (.agg (cv (can V M) M)) ∧ Below W.heap.size W w') := canon_any V M hV hM
  have C1 : Hid (∀ W, Calls Tryz.prog 107 #[.agg (hv M), .int .i64 (i : Int), .bool true] W fun e w' => e = .returned (.agg (hv (fixM M i))) ∧ Below W.heap.size W w') := set_any M hM i hi true
  have C2 : Hid (∀ W, Calls Tryz.prog 107 #[.agg (hv (can V M)), .int .i64 (i : Int), .bool b] W fun e w' => e = .returned (.agg (hv (fixV V M i b))) ∧ Below W.heap.size W w') := set_any _ (can_byt V M) i hi b
  clear hV hM
  go_enter Tryz.func84, Tryz.ntmps84
  have g0 : ((w.alloc (.cells (cv V M) 37)).alloc (.cells zeroC 37)).heap[w.heap.size]? = some (.cells (cv V M) 37 (0, 0)) := heap_past _ _ _ _ (heap_new _ _ _ rfl)
  have g1 : ((w.alloc (.cells (cv V M) 37)).alloc (.cells zeroC 37)).heap[w.heap.size + 1]? = some (.cells zeroC 37 (0, 0)) := heap_new _ _ _ (by simp)
  have hb : Below w.heap.size w ((w.alloc (.cells (cv V M) 37)).alloc (.cells zeroC 37)) := ((Below.refl _ _).alloc (Nat.le_refl _) _).alloc (by simp) _
  have hsz : w.heap.size + 2 ≤ ((w.alloc (.cells (cv V M) 37)).alloc (.cells zeroC 37)).heap.size := by simp
  go_wp2_with (first
    | (go_at_call 106; refine (cisBit_yes _ _ (by omega) (by omega)).mono ?_; rintro e w' ⟨rfl, rfl⟩)
    | (refine wl_loadC rfl _ rfl w.heap.size rfl V M g0 hVl hMl ?_))
  refine (CC.out _).mono ?_
  rintro e w1 ⟨rfl, hb1⟩
  have k0 : w1.heap[w.heap.size]? = some (.cells (cv V M) 37 (0, 0)) := by rw [hb1.block _ (by simp; omega)]; exact g0
  have k1 : w1.heap[w.heap.size + 1]? = some (.cells zeroC 37 (0, 0)) := by rw [hb1.block _ (by simp)]; exact g1
  have hz1 : w.heap.size + 2 ≤ w1.heap.size := Nat.le_trans hsz hb1.size
  have hB1 := hb.trans (hb1.mono hb.size)
  clear g0 g1 hb hsz hb1 CC
  have l0 : (w1.setRow w.heap.size (cv (can V M) M)).heap[w.heap.size]? = some (.cells (cv (can V M) M) 37 (0, 0)) := setRow_heap _ _ _ _ _ _ k0
  have l1 : (w1.setRow w.heap.size (cv (can V M) M)).heap[w.heap.size + 1]? = some (.cells zeroC 37 (0, 0)) := (setRow_other _ _ _ _ (by omega)).trans k1
  go_wp2_with (first
    | (refine wl_storeC rfl _ _ rfl w.heap.size (can V M) M rfl rfl _ k0 (cv_size _ _ hVl hMl) hCl hMl _ rfl ?_)
    | (refine wl_loadM rfl _ rfl w.heap.size rfl (can V M) M l0 hCl hMl ?_))
  refine (C1.out _).mono ?_
  rintro e w2 ⟨rfl, hb2⟩
  have m0 : w2.heap[w.heap.size]? = some (.cells (cv (can V M) M) 37 (0, 0)) := by rw [hb2.block _ (by simp; omega)]; exact l0
  have m1 : w2.heap[w.heap.size + 1]? = some (.cells zeroC 37 (0, 0)) := by rw [hb2.block _ (by simp; omega)]; exact l1
  have hz2 : w.heap.size + 2 ≤ w2.heap.size := Nat.le_trans (by simpa using hz1) hb2.size
  have hB2 := (below_setRow hB1 (Nat.le_refl _) (cv (can V M) M)).trans (hb2.mono (by simpa using hB1.size))
  clear l0 l1 k0 k1 hB1 hb2 hz1 C1
  have n0 : (w2.setRow w.heap.size (cv (can V M) (fixM M i))).heap[w.heap.size]? = some (.cells (cv (can V M) (fixM M i)) 37 (0, 0)) := setRow_heap _ _ _ _ _ _ m0
  have n1 : (w2.setRow w.heap.size (cv (can V M) (fixM M i))).heap[w.heap.size + 1]? = some (.cells zeroC 37 (0, 0)) := (setRow_other _ _ _ _ (by omega)).trans m1
  go_wp2_with (first
    | (refine wl_storeM rfl _ _ rfl w.heap.size rfl (can V M) M (fixM M i) rfl hCl hMl hFl m0 _ rfl ?_)
    | (refine wl_loadV rfl _ rfl w.heap.size rfl (can V M) (fixM M i) n0 hCl ?_))
  refine (C2.out _).mono ?_
  rintro e w3 ⟨rfl, hb3⟩
  have p0 : w3.heap[w.heap.size]? = some (.cells (cv (can V M) (fixM M i)) 37 (0, 0)) := by rw [hb3.block _ (by simp; omega)]; exact n0
  have p1 : w3.heap[w.heap.size + 1]? = some (.cells zeroC 37 (0, 0)) := by rw [hb3.block _ (by simp; omega)]; exact n1
  have hB3 := (below_setRow hB2 (Nat.le_refl _) (cv (can V M) (fixM M i))).trans (hb3.mono (by simpa using hB2.size))
  clear m0 m1 n0 n1 hB2 hb3 hz2 C2
  have q0 : (w3.setRow w.heap.size (cv (fixV V M i b) (fixM M i))).heap[w.heap.size]? = some (.cells (cv (fixV V M i b) (fixM M i)) 37 (0, 0)) := setRow_heap _ _ _ _ _ _ p0
  have q1 : (w3.setRow w.heap.size (cv (fixV V M i b) (fixM M i))).heap[w.heap.size + 1]? = some (.cells zeroC 37 (0, 0)) := (setRow_other _ _ _ _ (by omega)).trans p1
  go_wp2_with (first
    | (refine wl_storeV rfl _ _ rfl w.heap.size rfl (can V M) (fixM M i) (fixV V M i b) rfl hCl hFl hGl p0 _ rfl ?_)
    | (refine wl_loadC rfl _ rfl w.heap.size rfl (fixV V M i b) (fixM M i) q0 hGl hFl ?_)
    | (refine wl_storeC rfl _ _ rfl (w.heap.size + 1) (fixV V M i b) (fixM M i) rfl rfl _ q1 rfl hGl hFl _ rfl ?_))
  refine retCe (p := 6) (u := 7) rfl rfl (w.heap.size + 1) rfl _ _ hGl hFl (setRow_heap _ _ _ _ _ _ q1) _ rfl ⟨rfl, ?_⟩
  exact below_setRow (below_setRow hB3 (Nat.le_refl _) _) (by omega) _
end Go.Proofs.YthddlchkbnmcaaaGreatDoor
namespace Go.Proofs.YthddlchkbnmcaaaGreatDoor
open Go Go.RowKit
set_option maxRecDepth 20000

theorem any_step {P : Program} {md : Region.Mode} {ops : Array Oper} {Q : Exit → Act → World → Prop} {fuel : Nat} {listed : Array Bool} {a : Act} {w : World} (rs : List Nat) (hr : Region.ready md ops listed = rs) (hne : rs ≠ [])
    (h : ∀ i ∈ rs, wpOp P ops Q i (wpAny P md ops Q fuel (listed.setIfInBounds i true)) a w) : wpAny P md ops Q (fuel + 1) listed a w :=
  ⟨fun h0 => absurd (hr.symm.trans h0) hne, fun i hi => h i (hr ▸ hi)⟩
theorem wpOp_value {P : Program} {ops : Array Oper} {Q : Exit → Act → World → Prop} {i : Nat} {o : Oper} {K : Act → World → Prop} {a : Act} {w w' : World} {v : Value} (hi : ops[i]? = some o) (hg : o.guard = none) (hr : (execOp a.eval o).run P w = .ok (.value v) w') (h : K (a.put o.dst v) w') : wpOp P ops Q i K a w := by
  have hw : Region.wanted o (yielded ops a.tmps) = true := by unfold Region.wanted; rw [hg]
  unfold Go.wpOp
  simp only [hi, hw, if_true]
  left
  unfold Oper.wp
  rw [hr]
  exact h
theorem wpOp_skip {P : Program} {ops : Array Oper} {Q : Exit → Act → World → Prop} {i : Nat} {o : Oper} {K : Act → World → Prop} {a : Act} {w w' : World} (hi : ops[i]? = some o) (hg : o.guard = none) (hr : (execOp a.eval o).run P w = .ok .skip w') (h : K (a.put o.dst undef) w') : wpOp P ops Q i K a w := by
  have hw : Region.wanted o (yielded ops a.tmps) = true := by unfold Region.wanted; rw [hg]
  unfold Go.wpOp
  simp only [hi, hw, if_true]
  left
  unfold Oper.wp
  rw [hr]
  exact h

theorem run_store_row (a : Act) (o : Oper) (w : World) (ty : TypeId) (x y : Operand) (ho : o.op = .store ty x y) (g : Nat) (cells : Array Value) (hx : a.eval x = .pointer (some ⟨g, 0, none⟩)) (hy : a.eval y = .agg cells) (t : TypeId) (old : Array Value) (hg : w.heap[g]? = some (.cells old t (0, 0)))
    (hi : (Tryz.prog.info? ty).map (·.size) = some cells.size) (hold : old.size = cells.size) (h1 : cells.all (·.oneCell') = true) : (execOp a.eval o).run Tryz.prog w = .ok .skip (w.setRow g cells) := by
  unfold execOp
  simp only [ho, hx, hy, Instr.storeAt, Instr.sureAddr, Sem.run_bind, Sem.run_pure, Result.andThen_ok, run_storeVar_row w g t ty old cells hg hi hold h1]
theorem run_storeC (a : Act) (o : Oper) (w : World) (x y : Operand) (ho : o.op = .store 37 x y) (g : Nat) (V M : List Int) (hx : a.eval x = .pointer (some ⟨g, 0, none⟩)) (hy : a.eval y = .agg (cv V M)) (old : Array Value) (hg : w.heap[g]? = some (.cells old 37 (0, 0))) (hold : old.size = 26) (hV : V.length = 13) (hM : M.length = 13) : (execOp a.eval o).run Tryz.prog w = .ok .skip (w.setRow g (cv V M)) :=
  run_store_row a o w _ x y ho g _ hx hy _ old hg (sizeC V M hV hM) (by rw [cv_size V M hV hM, hold]) (cv_one V M)
end Go.Proofs.YthddlchkbnmcaaaGreatDoor
namespace Go.Proofs.YthddlchkbnmcaaaGreatDoor
open Go Go.RowKit
set_option maxRecDepth 20000

end Go.Proofs.YthddlchkbnmcaaaGreatDoor
namespace Go.Proofs.YthddlchkbnmcaaaGreatDoor
open Go Go.RowKit
set_option maxRecDepth 20000

/-- How many bits of a byte are one. -/
def ones (x : Int) : Int := ((List.range 8).filter fun j => yb x j).length

/-- How many bits of a cube are free. -/
def free (M : List Int) : Int := ((List.range 104).filter fun i => !(bt M i)).length

end Go.Proofs.YthddlchkbnmcaaaGreatDoor
namespace Go.Proofs.YthddlchkbnmcaaaGreatDoor
open Go Go.RowKit
set_option maxRecDepth 20000

/-- Bytes as cells. -/
def bv (L : List UInt8) : Array Value := (L.map fun b => Value.int .u8 (b.toNat : Int)).toArray

end Go.Proofs.YthddlchkbnmcaaaGreatDoor
namespace Go.Proofs.YthddlchkbnmcaaaGreatDoor
open Go Go.RowKit
set_option maxRecDepth 20000

theorem fold_get (off : Nat) : ∀ (xs : List Value) (n : Nat) (cells : Array Value) (k : Nat), off + n + xs.length ≤ cells.size →
    ((xs.zipIdx n).foldl (fun cs (x : Value × Nat) => cs.setIfInBounds (off + x.2) x.1) cells)[k]? = if off + n ≤ k ∧ k < off + n + xs.length then xs[k - (off + n)]? else cells[k]?
  | [], n, cells, k, _ => by
    simp only [List.zipIdx_nil, List.foldl_nil, List.length_nil, Nat.add_zero]
    rw [if_neg (by omega)]
  | x :: xs, n, cells, k, h => by
    simp only [List.length_cons] at h
    rw [List.zipIdx_cons, List.foldl_cons, fold_get off xs (n + 1) _ k (by simp; omega)]
    simp only [List.length_cons]
    by_cases h1 : off + (n + 1) ≤ k ∧ k < off + (n + 1) + xs.length
    · rw [if_pos h1, if_pos (by omega), show k - (off + n) = (k - (off + (n + 1))) + 1 by omega, List.getElem?_cons_succ]
    · rw [if_neg h1]
      by_cases h2 : k = off + n
      · subst h2
        rw [if_pos (by omega), Nat.sub_self, List.getElem?_cons_zero, Array.getElem?_setIfInBounds_self_of_lt (by omega)]
      · rw [if_neg (by omega), Array.getElem?_setIfInBounds_ne (by omega)]

theorem fold_all (xs cells : Array Value) (h : xs.size = cells.size) : xs.zipIdx.foldl (fun cs (x : Value × Nat) => cs.setIfInBounds (0 + x.2) x.1) cells = xs := by
  have e : xs.zipIdx.foldl (fun cs (x : Value × Nat) => cs.setIfInBounds (0 + x.2) x.1) cells = (xs.toList.zipIdx 0).foldl (fun cs (x : Value × Nat) => cs.setIfInBounds (0 + x.2) x.1) cells := by
    rw [← Array.foldl_toList]; simp
  rw [e]
  apply Array.ext_getElem?
  intro k
  rw [fold_get 0 xs.toList 0 cells k (by simp; omega)]
  by_cases hk : k < xs.size
  · rw [if_pos (by simp; omega)]; simp
  · rw [if_neg (by simp; omega), Array.getElem?_eq_none (by omega), Array.getElem?_eq_none (by omega)]

theorem infoC : ∃ i, Tryz.prog.info? 37 = some i ∧ i.zero = some (.agg zeroC) ∧ i.size = 26 ∧ i.bytes = 26 := by
  cases h : Tryz.prog.info? 37 with
  | none => exact absurd (show (Tryz.prog.info? 37).isSome = true by kernel_rfl) (by rw [h]; simp)
  | some i =>
    have h1 : (Tryz.prog.info? 37).map (fun i => (i.zero, i.size, i.bytes)) = some (some (.agg zeroC), 26, 26) := by kernel_rfl
    rw [h] at h1
    simp only [Option.map_some, Option.some.injEq, Prod.mk.injEq] at h1
    exact ⟨i, rfl, h1.1, h1.2.1, h1.2.2⟩

/-- A slice of one cube. -/
theorem wl_build1 {ops : Array Oper} {rest : List Oper} {o : Oper} {a : Act} {w : World} {Q : Exit → Act → World → Prop} (hg : o.guard = none) (x : Operand) (ho : o.op = .buildSlice 49 1 #[(0, x)]) (V M : List Int) (hV : V.length = 13) (hM : M.length = 13) (hx : a.eval x = .agg (cv V M))
    (h : wpList Tryz.prog ops Q rest (a.put o.dst (.slice (some ⟨w.heap.size, 0, none⟩) 1 1)) (w.alloc (.cells (cv V M) 37))) : wpList Tryz.prog ops Q (o :: rest) a w := by
  obtain ⟨ie, hie, hz, hs, _⟩ := infoC
  refine wpList_buildSlice hg 49 37 1 _ ho (cv V M) ie (.agg zeroC) Tryz.underlying49 hie hz (by rw [hs]; decide) (by rw [hs]; decide) ?_ h
  have hsz := cv_size V M hV hM
  simp only [List.map_toArray, List.map_cons, List.map_nil, hx, Instr.fill, hs, Nat.zero_mul, Value.cells, hsz]
  rw [if_neg (by simp)]
  congr 1
  exact fold_all _ _ (by rw [hsz]; simp)

/-- The cells of a list of cubes. -/
def ccells (C : List (List Int × List Int)) : List Value := C.flatMap fun c => (cv c.1 c.2).toList
theorem ccells_append (C D : List (List Int × List Int)) : ccells (C ++ D) = ccells C ++ ccells D := by simp [ccells]
theorem ccells_one (V M : List Int) : ccells [(V, M)] = (cv V M).toList := by simp [ccells]

theorem own_below {w w' : World} {B : Nat} {e : TypeId} {s : Nat} {v : Value} {n : Nat} {xs : List Value} (h : w.ownsRow B e s v n xs) (hb : Below w.heap.size w w') : w'.ownsRow B e s v n xs := by
  obtain ⟨h1, h2 | ⟨g, cap, cur, rfl, hB, hcur, h3⟩⟩ := h
  · exact ⟨h1, .inl h2⟩
  · exact ⟨h1, .inr ⟨g, cap, cur, rfl, hB, (hb.block g (Array.getElem?_eq_some_iff.1 hcur).1).trans hcur, h3⟩⟩
theorem own_base {w : World} {B B' : Nat} {e : TypeId} {s : Nat} {v : Value} {n : Nat} {xs : List Value} (h : w.ownsRow B e s v n xs) (hB' : B' ≤ B) : w.ownsRow B' e s v n xs := by
  obtain ⟨h1, h2 | ⟨g', cap, cur, rfl, hB, h3⟩⟩ := h
  · exact ⟨h1, .inl h2⟩
  · exact ⟨h1, .inr ⟨g', cap, cur, rfl, by omega, h3⟩⟩
end Go.Proofs.YthddlchkbnmcaaaGreatDoor
namespace Go.Proofs.YthddlchkbnmcaaaGreatDoor
open Go Go.RowKit
set_option maxRecDepth 20000

/-- A goal at which the walk stands still. -/
def Stopped (p : Prop) : Prop := p
theorem of_stopped {p : Prop} (h : Stopped p) : p := h

end Go.Proofs.YthddlchkbnmcaaaGreatDoor
namespace Go.Proofs.YthddlchkbnmcaaaGreatDoor
open Go Go.RowKit
set_option maxRecDepth 20000

/-- A cube that lies within a block, from a place on. -/
theorem load_cube (w : World) (g off : Nat) (cs : Array Value) (t : TypeId) (fr : Nat × Nat) (V M : List Int) (hV : V.length = 13) (hM : M.length = 13) (hg : w.heap[g]? = some (.cells cs t fr)) (hc : ∀ j, j < 26 → cs[off + j]? = (cv V M)[j]?) :
    (loadVar 37 ⟨g, off, none⟩).run Tryz.prog w = .ok (.agg (cv V M)) w := by
  have hsz := cv_size V M hV hM
  have hl : (loadCells ⟨g, off, none⟩ (cv V M).toList.length).run Tryz.prog w = .ok (cv V M).toList.toArray w :=
    run_loadCells_list (P := Tryz.prog) w ⟨g, off, none⟩ (cv V M).toList (fun j v hv => by
      have hadd : (⟨g, off, none⟩ : Addr).add j = ⟨g, off + j, none⟩ := by unfold Addr.add; split <;> simp_all
      have hj : j < 26 := by
        have := (List.getElem?_eq_some_iff.1 hv).1
        simpa [hsz] using this
      rw [hadd, cell_of_row w g (off + j) cs t fr hg, hc j hj]
      simpa using hv)
  obtain ⟨i, hq, _, hs, _⟩ := infoC
  have hagg : (isAgg 37).run Tryz.prog w = .ok true w := by
    unfold isAgg
    rw [Sem.run_bind, run_underlying Tryz.underlying37 w]
    rfl
  rw [Array.length_toList, hsz, Array.toArray_toList] at hl
  simp [loadVar, Sem.run_bind, hagg, sizeOf, typeInfo, hq, hs, hl]
theorem wl_loadCat {ops : Array Oper} {rest : List Oper} {o : Oper} {a : Act} {w : World} {Q : Exit → Act → World → Prop} (hw : Region.wanted o (yielded ops a.tmps) = true) (x : Operand) (ho : o.op = .load 37 x)
    (g off : Nat) (hx : a.eval x = .pointer (some ⟨g, off, none⟩)) (cs : Array Value) (t : TypeId) (fr : Nat × Nat) (V M : List Int) (hV : V.length = 13) (hM : M.length = 13) (hg : w.heap[g]? = some (.cells cs t fr)) (hc : ∀ j, j < 26 → cs[off + j]? = (cv V M)[j]?)
    (h : wpList Tryz.prog ops Q rest (a.put o.dst (.agg (cv V M))) w) : wpList Tryz.prog ops Q (o :: rest) a w := by
  refine wpList_step fun K hK => ?_
  rw [if_pos hw]
  unfold Oper.wp execOp
  simp only [ho, hx, Instr.loadAt, Instr.sureAddr, Sem.run_bind, Sem.run_pure, Result.andThen_ok, load_cube w g off cs t fr V M hV hM hg hc]
  exact hK _ _ h

def m0 : List Int := [0, 0, 0, 0, 0, 0, 0, 0, 0, 0, 0, 0, 0]
theorem Z_m0 : Z = m0 := Z_eq
theorem byt_of (L : List Int) (h1 : L.length = 13) (h2 : ∀ x ∈ L, 0 ≤ x ∧ x < 256) : Byt L := by
  refine ⟨h1, fun k => ?_⟩
  rcases Nat.lt_or_ge k 13 with h | h
  · rw [List.getD, List.getElem?_eq_getElem (by omega)]; exact h2 _ (List.getElem_mem _)
  · rw [List.getD, List.getElem?_eq_none (by omega)]; decide
theorem b0 : Byt m0 := byt_of _ rfl (by decide)

theorem all0 (w : World) : Calls Tryz.prog 14 #[] w fun e w' => e = .returned (.agg (cv m0 m0)) ∧ Below w.heap.size w w' := by
  have := all_any w; rwa [Z_m0] at this
end Go.Proofs.YthddlchkbnmcaaaGreatDoor
namespace Go.Proofs.YthddlchkbnmcaaaGreatDoor
open Go Go.RowKit
set_option maxRecDepth 20000

/-- The first rule that has a header. -/
def hasR (H : List Int) (r : RuleM) : Bool := has r.cube.1 r.cube.2 H
def rule0 : RuleM := ⟨0, (Z, Z), 0⟩
def lookT (l : List RuleM) (H : List Int) : RuleM × Bool := match l.find? (hasR H) with
  | some r => (r, true)
  | none => (rule0, false)
theorem find_take_none {α : Type} {p : α → Bool} {l : List α} {k : Nat} {x : α} (h : (l.take k).find? p = none) (hx : l[k]? = some x) (hp : p x = false) : (l.take (k + 1)).find? p = none := by
  rw [List.take_add_one, hx, List.find?_append, h]
  simp [hp]
theorem find_of_take {α : Type} {p : α → Bool} {l : List α} {k : Nat} {x : α} (h : (l.take k).find? p = none) (hx : l[k]? = some x) (hp : p x = true) : l.find? p = some x := by
  obtain ⟨hk, rfl⟩ := List.getElem?_eq_some_iff.1 hx
  conv => lhs; rw [← List.take_append_drop k l]
  rw [List.find?_append, h, List.drop_eq_getElem_cons hk, List.find?_cons, hp]
  rfl
theorem rule0_ok : okR8 rule0 := ⟨Z_byt, Z_byt⟩
/-- The end of a function that answers a rule in memory and a truth value. -/
theorem retRb {fn : Func} {R : Ending → World → Prop} {a : Act} {w : World} {p u : Tmp} (hr : fn.results = #[.cell p 39, .tmp u]) (hd : a.defers = []) (g : Nat) (hp : a.tmps.getD p undef = .pointer (some ⟨g, 0, none⟩)) (r : RuleM) (hk : okR8 r)
    (hg : w.heap[g]? = some (.cells (ruleV r) 39 (0, 0))) (v : Value) (hv : a.tmps.getD u undef = v) (h : R (.returned (.tuple #[.agg (ruleV r), v])) w) : bodyPost Tryz.prog fn R .ret a w := by
  refine bodyPost_ret (v := .tuple #[.agg (ruleV r), v]) ?_ hd h
  have hl := RuleOk.load w g 0 _ _ _ (ruleV r) (ruleV_size hk) hg (own_cells _ _)
  unfold RuleE at hl
  simp only at hl
  have hp' : a.tmps[p]?.getD undef = .pointer (some ⟨g, 0, none⟩) := by simpa using hp
  have hv' : a.tmps[u]?.getD undef = v := by simpa using hv
  simp [results, hr, hp', hv', hl, asAddr]

def RulesAt (w : World) (v : Value) (l : List RuleM) : Prop := GSl RuleE ruleV w v l
set_option maxHeartbeats 8000000 in
set_option maxRecDepth 100000 in
theorem look_any (l : List RuleM) (hl0 : ∀ r ∈ l, okR8 r) (vl : Value) (H : List Int) (hH : Byt H) (w : World) (hl : RulesAt w vl l) :
    Calls Tryz.prog 11 #[vl, .agg (hv H)] w fun e w' => e = .returned (.tuple #[.agg (ruleV (lookT l H).1), .bool (lookT l H).2]) ∧ Below w.heap.size w w' := by
  have hHl := hH.1
  have HA : Hid (∀ (V M : List Int) W, Byt V → Byt M → Calls Tryz.prog 22 #[.agg (cv V M), .agg (hv H)] W fun e w' => e = .returned (.bool (has V M H)) ∧ Below W.heap.size W w') := fun V M W h1 h2 => has_any V M H h1 h2 hH W
  obtain ⟨o, cap, rfl, hc1, hc2⟩ := GSl.slice hl
  obtain ⟨n, hn0⟩ : ∃ n, n = l.length := ⟨_, rfl⟩
  have HN : Hid (n = l.length) := hn0
  rw [← hn0] at hl hc1 ⊢
  have HL : Hid (RulesAt w (.slice o n cap) l) := hl
  have HOK : Hid (∀ r ∈ l, okR8 r) := hl0
  unfold maxLen at hc2
  have K0 : Hid (((w.alloc (.cells (hv H) 31)).alloc (.cells RuleE.zero 39)).heap[w.heap.size]? = some (.cells (hv H) 31 (0, 0)) ∧ ((w.alloc (.cells (hv H) 31)).alloc (.cells RuleE.zero 39)).heap[w.heap.size + 1]? = some (.cells RuleE.zero 39 (0, 0))) := ⟨heap_past _ _ _ _ (heap_new _ _ _ rfl), heap_new _ _ _ (by simp)⟩
  have B0 : Hid (Below w.heap.size w ((w.alloc (.cells (hv H) 31)).alloc (.cells RuleE.zero 39))) := ((Below.refl _ _).alloc (Nat.le_refl _) _).alloc (by simp) _
  obtain ⟨S, hS⟩ : ∃ S, S = lookT l H := ⟨_, rfl⟩
  have HS : Hid (S = lookT l H) := hS
  rw [← hS]
  clear hl hn0 hl0 hS
  go_enter Tryz.func11, Tryz.ntmps11
  go_wp2_with fail
  go_loopw [10] (fun i wr => ∃ k : Nat, k ≤ n ∧ i = .int .i64 (k : Int) ∧ Hid ((l.take k).find? (hasR H) = none) ∧ wr.heap[w.heap.size]? = some (.cells (hv H) 31 (0, 0)) ∧ wr.heap[w.heap.size + 1]? = some (.cells RuleE.zero 39 (0, 0)) ∧ Below w.heap.size w wr) (fun i _ => n - (intOf i).toNat)
  case atStart => exact ⟨0, Nat.zero_le _, rfl, rfl, K0.out.1, K0.out.2, B0.out⟩
  case round =>
    clear K0 B0
    obtain ⟨k, hk, rfl, HF, h1, h2, hb⟩ := hrel
    have R1 : Hid (wr.heap[w.heap.size]? = some (.cells (hv H) 31 (0, 0))) := h1
    have R2 : Hid (wr.heap[w.heap.size + 1]? = some (.cells RuleE.zero 39 (0, 0))) := h2
    have HB : Hid (Below w.heap.size w wr) := hb
    clear h1 h2 hb
    by_cases hlt : k < n
    · have hlt' : (k : Int) < (n : Int) := by omega
      obtain ⟨g, off, cur, ty, fr, r, rfl, hg, hc, hxk⟩ := (GSl.below HL.out HB.out).at k hlt
      have hr : okR8 r := HOK.out r (List.mem_of_getElem? hxk)
      have HR : Hid (okR8 r) := hr
      have hsz := ruleV_size hr
      have K1 : Hid (wr.heap[g]? = some (.cells cur ty fr)) := hg
      have H1 : Hid (∀ j, j < 28 → cur[off + k * 28 + j]? = (ruleV r)[j]?) := hc
      have KN : Hid ((wr.alloc (.cells (ruleV r) 39)).heap[wr.heap.size]? = some (.cells (ruleV r) 39 (0, 0))) := heap_new _ _ _ rfl
      have RN1 : Hid ((wr.alloc (.cells (ruleV r) 39)).heap[w.heap.size]? = some (.cells (hv H) 31 (0, 0))) := heap_past _ _ _ _ R1.out
      have RN2 : Hid ((wr.alloc (.cells (ruleV r) 39)).heap[w.heap.size + 1]? = some (.cells RuleE.zero 39 (0, 0))) := heap_past _ _ _ _ R2.out
      have BN : Hid (Below w.heap.size w (wr.alloc (.cells (ruleV r) 39))) := HB.out.alloc HB.out.size _
      have HX : Hid (l[k]? = some r) := hxk
      clear hg hc hxk hr
      go_wp2_with (first
        | (refine wl_loadE (E := RuleE) RuleOk rfl _ rfl g (off + k * 28) rfl cur ty fr (ruleV r) hsz K1.out H1.out ?_)
        | (refine wl_storeE (E := RuleE) RuleOk rfl _ _ rfl wr.heap.size (ruleV r) (rule_fits HR.out) rfl rfl _ (heap_new _ _ _ rfl) rfl _ (setRow_new _ _ _ _ _ rfl) ?_)
        | (refine wl_loadE (E := CubE) CubOk rfl _ rfl wr.heap.size 1 rfl _ _ _ (cv r.cube.1 r.cube.2) (cv_size _ _ HR.out.1.1 HR.out.2.1) KN.out (rule_at HR.out).2.1 ?_)
        | (refine wl_load26 rfl _ rfl w.heap.size rfl H RN1.out hHl ?_))
      refine (HA.out r.cube.1 r.cube.2 _ HR.out.1 HR.out.2).mono ?_
      rintro e w1 ⟨rfl, hb1⟩
      have B1 : Hid (Below w.heap.size w w1) := BN.out.trans (hb1.mono BN.out.size)
      have KR : Hid (w1.heap[wr.heap.size]? = some (.cells (ruleV r) 39 (0, 0))) := (hb1.block _ (by simp)).trans KN.out
      have R3 : Hid (w1.heap[w.heap.size]? = some (.cells (hv H) 31 (0, 0))) := (hb1.block _ (Array.getElem?_eq_some_iff.1 RN1.out).1).trans RN1.out
      have R4 : Hid (w1.heap[w.heap.size + 1]? = some (.cells RuleE.zero 39 (0, 0))) := (hb1.block _ (Array.getElem?_eq_some_iff.1 RN2.out).1).trans RN2.out
      clear hb1
      cases hhas : has r.cube.1 r.cube.2 H with
      | true =>
        have HE : Hid (S = (r, true)) := by
          show _ = _
          rw [HS.out]
          unfold lookT
          rw [find_of_take HF.out HX.out hhas]
        clear hhas
        go_wp2_with (first
          | (refine wl_loadE (E := RuleE) RuleOk rfl _ rfl wr.heap.size 0 rfl _ _ _ (ruleV r) hsz KR.out (own_cells _ _) ?_)
          | (refine wl_storeE (E := RuleE) RuleOk rfl _ _ rfl (w.heap.size + 1) (ruleV r) (rule_fits HR.out) rfl rfl _ R4.out rfl _ rfl ?_))
        refine retRb rfl rfl (w.heap.size + 1) rfl r HR.out (setRow_heap _ _ _ _ _ _ R4.out) _ rfl ?_
        rw [HE.out]
        exact ⟨rfl, below_setRow B1.out (by omega) _⟩
      | false =>
        have HF2 : Hid ((l.take (k + 1)).find? (hasR H) = none) := find_take_none HF.out HX.out hhas
        clear hhas
        go_wp2_with fail
        go_roundw
        case rel => exact ⟨k + 1, by omega, by go_num, HF2, R3.out, R4.out, B1.out⟩
        case measure => simp [intOf]; omega
    · have hlt' : ¬ (k : Int) < (n : Int) := by omega
      have HE : Hid (S = (rule0, false)) := by
        have e := HN.out
        have hF := HF.out
        rw [List.take_of_length_le (by omega)] at hF
        show _ = _
        rw [HS.out]
        unfold lookT
        rw [hF]
      have HZ : Hid (RuleE.zero = ruleV rule0) := zero_rule
      go_wp2_with (first
        | (refine wl_storeE (E := RuleE) RuleOk rfl _ _ rfl (w.heap.size + 1) (ruleV rule0) (rule_fits rule0_ok) rfl (by rw [← HZ.out]; rfl) _ R2.out rfl _ rfl ?_))
      refine retRb rfl rfl (w.heap.size + 1) rfl rule0 rule0_ok (setRow_heap _ _ _ _ _ _ R2.out) _ rfl ?_
      rw [HE.out]
      exact ⟨rfl, below_setRow HB.out (by omega) _⟩
end Go.Proofs.YthddlchkbnmcaaaGreatDoor
namespace Go.Proofs.YthddlchkbnmcaaaGreatDoor
open Go Go.RowKit
set_option maxRecDepth 20000

/-- Thirteen bytes of ones. -/
def F : List Int := mk fun _ => true
end Go.Proofs.YthddlchkbnmcaaaGreatDoor
