import Derived.Test.YtjmpakngbdemgaaJ9
import Derived.Test.YtjmpakngbdemgaaJ10
namespace Go.Proofs.Ytjmpakngbdemgaa
open Go Go.Lib Go.RowKit
set_option maxRecDepth 20000

/-! deal.Deal's drawn regions. -/
theorem run_index13 {o : Oper} {t : Nat} {x y : Operand} (ho : o.op = .indexAddr t x y) (a : Act) (W : World) (u z v : Value) (hu : a.eval x = u) (hz : a.eval y = z) (h : (Instr.indexAt t u z).run Try.prog W = .ok v W) : (execOp a.eval o).run Try.prog W = .ok (.value v) W := by
  unfold execOp
  simp only [ho, Sem.run_bind, hu, hz, h, Result.andThen_ok, Sem.run_pure]
theorem load_int13 (W : World) (ad : Addr) (n : Int) (h : W.cell? ad = some (.int .i64 n)) : (Instr.loadAt 3 (.pointer (some ad))).run Try.prog W = .ok (.int .i64 n) W := by
  simp [go_sem, h]
def d6_ops : List Oper := [
  { dst := some 31, op := .load 37 (.tmp 10), type := 37, pos := "deal.go:23", after := #[], guard := none },
  { dst := some 32, op := .move (.tmp 0), type := 24, pos := "deal.go:23", after := #[], guard := none },
  { dst := some 33, op := .move (.tmp 13), type := 3, pos := "deal.go:23", after := #[], guard := none },
  { dst := some 34, op := .indexAddr 24 (.tmp 32) (.tmp 33), type := 0, pos := "deal.go:23", after := #[{ on := 1, ground := .data }, { on := 2, ground := .data }], guard := none },
  { dst := some 35, op := .load 3 (.tmp 34), type := 3, pos := "deal.go:23", after := #[{ on := 3, ground := .data }], guard := none },
  { dst := some 36, op := .call { callee := .value (.func 9), args := #[.tmp 31, .tmp 35, .const (.int .i64 0)], argTypes := #[37, 3, 3] }, type := 3, pos := "deal.go:23", after := #[{ on := 0, ground := .data }, { on := 4, ground := .data }], guard := none },
  { dst := some 14, op := .assign (.tmp 36), type := 3, pos := "deal.go:23", after := #[{ on := 5, ground := .data }, { on := 5, ground := .chain }, { on := 0, ground := .phase }, { on := 1, ground := .phase }, { on := 2, ground := .phase }, { on := 3, ground := .phase }, { on := 4, ground := .phase }, { on := 5, ground := .phase }], guard := none }]
def d6_D : List Nat := [31, 32, 33, 34, 35, 36, 14]
def d6_V (g : Nat) (vw : Value) (room : Int) (vz : Value) (i gz oz : Nat) (x : Int) (_ r : Nat) (j : Nat) (v : Value) (_ : World) : Prop :=
  match j with
  | 0 => v = .agg (tabA g vw room)
  | 1 => v = vz
  | 2 => v = .int .i64 (i : Int)
  | 3 => v = .pointer (some ⟨gz, oz + i, none⟩)
  | 4 => v = .int .i64 x
  | 5 => v = .int .i64 (r : Int)
  | _ => True
set_option maxHeartbeats 4000000 in
theorem d6_region {id : Nat} {Q : Exit → Act → World → Prop} {a0 : Act} {w0 : World} (hs : 64 ≤ a0.tmps.size) (g q : Nat) (vw : Value) (room : Int) (i gz oz nz cz : Nat) (x : Int) (but r : Nat) (th : Nat → Bool) (ld2 : Nat → Int)
    (h10 : a0.eval (.tmp 10) = .pointer (some ⟨q, 0, none⟩)) (h0 : a0.eval (.tmp 0) = .slice (some ⟨gz, oz, none⟩) nz cz) (h13 : a0.eval (.tmp 13) = .int .i64 (i : Int)) (hbut : but = 0) (hi : i < nz)
    (hq : w0.heap[q]? = some (.cells (tabA g vw room) 37 (0, 0))) (cur : Array Value) (t : TypeId) (fr : Nat × Nat) (hgz : w0.heap[gz]? = some (.cells cur t fr)) (hx : cur[oz + i]? = some (.int .i64 x))
    (hqg : ¬ q = g) (hzg : ¬ gz = g) (HG : ∀ W, Below w0.heap.size w0 W → Calls Try.prog 9 #[.agg (tabA g vw room), .int .i64 x, .int .i64 (but : Int)] W fun e w' => e = .returned (.int .i64 (r : Int)) ∧ MapL w' g th ld2 ∧ Kept (fun k => k = g) W w')
    (hK : ∀ y w', y 14 = .int .i64 (r : Int) → MapL w' g th ld2 → Kept (fun k => k = g) w0 w' → Q .normal (putsD d6_D y a0) w') : (Code.region id d6_ops.toArray true).wp Try.prog Q a0 w0 := by
  have hDs : ∀ d ∈ d6_D, d < a0.tmps.size := fun d hd => by
    have : d < 64 := by
      revert hd; unfold d6_D; intro hd
      simp only [List.mem_cons, List.not_mem_nil, or_false] at hd
      omega
    omega
  have frm : ∀ (b : Bool) (w : World), (if b then MapL w g th ld2 ∧ Kept (fun k => k = g) w0 w else Below w0.heap.size w0 w) → Kept (fun k => k = g) w0 w := fun b w h => by
    cases b with
    | true => exact h.2
    | false => exact Kept.of_below h
  refine region_mid 6 5 (d6_V g vw room (.slice (some ⟨gz, oz, none⟩) nz cz) i gz oz x but r) (fun b w => if b then MapL w g th ld2 ∧ Kept (fun k => k = g) w0 w else Below w0.heap.size w0 w) d6_D (by kernel_rfl) (by decide) rfl (by kernel_rfl) (by decide) hDs (by kernel_rfl) (by kernel_rfl) (fun j v w w' h _ => h) ?_ ?_ ?_ ?_ ?_
  · intro b w w' h hb
    cases b with
    | true => exact ⟨h.1.below hb, h.2.add hb⟩
    | false => exact Below.trans h (hb.mono (Below.size h))
  · exact (Below.refl _ _).drew
  · intro k o ho hk hkm b a w h
    have e10 := (h.other 10 (by decide)).trans h10
    have e0 := (h.other 0 (by decide)).trans h0
    have e13 := (h.other 13 (by decide)).trans h13
    have e14 : True := trivial
    have i1 : (Instr.indexAt 24 (.slice (some ⟨gz, oz, none⟩) nz cz) (.int .i64 (i : Int))).run Try.prog w = .ok (.pointer (some ⟨gz, oz + i, none⟩)) w := by
      simp [go_sem, Try.underlying24]; omega
    rcases (show k = 0 ∨ k = 1 ∨ k = 2 ∨ k = 3 ∨ k = 4 by omega) with rfl | rfl | rfl | rfl | rfl
    · obtain rfl := Option.some.inj ho
      have bq : w.heap[q]? = some (.cells (tabA g vw room) 37 (0, 0)) := (frm b w h.wld).heap hq hqg
      exact iv_val rfl rfl _ (run_loadOp rfl _ _ _ _ e10 (load_tab bq)) rfl
    · obtain rfl := Option.some.inj ho
      exact iv_val rfl rfl _ (run_moveOp rfl _ _ _ e0) rfl
    · obtain rfl := Option.some.inj ho
      exact iv_val rfl rfl _ (run_moveOp rfl _ _ _ e13) rfl
    · obtain rfl := Option.some.inj ho
      have g1 : a.eval (.tmp 32) = _ := h.has ⟨1, .data⟩ (by simp) rfl _ 32 rfl rfl
      have g2 : a.eval (.tmp 33) = _ := h.has ⟨2, .data⟩ (by simp) rfl _ 33 rfl rfl
      exact iv_val rfl rfl _ (run_index13 rfl _ _ _ _ _ g1 g2 i1) rfl
    · obtain rfl := Option.some.inj ho
      have g1 : a.eval (.tmp 34) = .pointer (some ⟨gz, oz + i, none⟩) := h.has ⟨3, .data⟩ (by simp) rfl _ 34 rfl rfl
      have c0 : w.cell? ⟨gz, oz + i, none⟩ = some (.int .i64 x) := (cell_of_row _ _ _ _ _ _ ((frm b w h.wld).heap hgz hzg)).trans hx
      exact iv_val rfl rfl _ (run_loadOp rfl _ _ _ _ g1 (load_int13 _ _ _ c0)) rfl
  · intro o ho a w h
    obtain rfl := Option.some.inj ho
    have hb : Below w0.heap.size w0 w := h.wld
    have g1 : a.eval (.tmp 31) = .agg (tabA g vw room) := h.has ⟨0, .data⟩ (by simp) rfl _ 31 rfl rfl
    have g2 : a.eval (.tmp 35) = .int .i64 x := h.has ⟨4, .data⟩ (by simp) rfl _ 35 rfl rfl
    have g3 : a.eval (.const (.int .i64 0)) = .int .i64 (but : Int) := by rw [hbut]; rfl
    have ca : ∀ vs W, (callFunc 9 vs).run Try.prog W = .ok (.enter 9 vs) W := fun vs W => by have hf := Try.func9; simp [go_sem]
    refine wpOp_callQ rfl rfl 9 #[.agg (tabA g vw room), .int .i64 x, .int .i64 (but : Int)] (run_callOps rfl ca _ _ _ (by simp only [List.map_toArray, List.map_cons, List.map_nil, g1, g2, g3])) _ (HG w hb) _ rfl ?_ ?_ ?_
    · rintro v w' ⟨hv, hM, hk⟩
      obtain rfl : v = .int .i64 (r : Int) := by simpa using hv
      exact ⟨_, rfl, ⟨hM, Kept.pre hb hk⟩, fun j u hj hu => hu, fun _ _ => rfl⟩
    · rintro ch w' ⟨hv, _⟩; cases hv
    · rintro w' ⟨hv, _⟩; cases hv
  · intro a w hI hsz hdf hot hh
    have g1 : a.eval (.tmp 36) = .int .i64 (r : Int) := hh 5 _ 36 (by decide) rfl rfl
    refine wpOp_assign rfl rfl _ rfl (.int .i64 (r : Int)) g1 (some 14) rfl ?_
    show Q .normal (a.put (some 14) (.int .i64 (r : Int))) w
    have hsa : 14 < a.tmps.size := by rw [hsz]; exact hDs 14 (by decide)
    have e := puts_form (D := d6_D) (a := a.put (some 14) (.int .i64 (r : Int))) (a0 := a0) (by rw [size_put]; exact hsz) hdf (fun d hd => by
      rw [eval_put _ _ _ _ hsa, if_neg (fun e => hd (by rw [e]; decide))]
      exact hot d hd) hDs
    rw [e]
    refine hK _ w ?_ hI.1 hI.2
    show (a.put (some 14) (.int .i64 (r : Int))).eval (.tmp 14) = _
    rw [eval_put _ _ _ _ hsa, if_pos rfl]
def d7_ops : List Oper := [
  { dst := some 37, op := .load 37 (.tmp 10), type := 37, pos := "deal.go:24", after := #[], guard := none },
  { dst := some 38, op := .move (.tmp 0), type := 24, pos := "deal.go:24", after := #[], guard := none },
  { dst := some 39, op := .move (.tmp 13), type := 3, pos := "deal.go:24", after := #[], guard := none },
  { dst := some 40, op := .indexAddr 24 (.tmp 38) (.tmp 39), type := 0, pos := "deal.go:24", after := #[{ on := 1, ground := .data }, { on := 2, ground := .data }], guard := none },
  { dst := some 41, op := .load 3 (.tmp 40), type := 3, pos := "deal.go:24", after := #[{ on := 3, ground := .data }], guard := none },
  { dst := some 42, op := .move (.tmp 14), type := 3, pos := "deal.go:24", after := #[], guard := none },
  { dst := some 43, op := .call { callee := .value (.func 9), args := #[.tmp 37, .tmp 41, .tmp 42], argTypes := #[37, 3, 3] }, type := 3, pos := "deal.go:24", after := #[{ on := 0, ground := .data }, { on := 4, ground := .data }, { on := 5, ground := .data }], guard := none },
  { dst := some 15, op := .assign (.tmp 43), type := 3, pos := "deal.go:24", after := #[{ on := 6, ground := .data }, { on := 6, ground := .chain }, { on := 0, ground := .phase }, { on := 1, ground := .phase }, { on := 2, ground := .phase }, { on := 3, ground := .phase }, { on := 4, ground := .phase }, { on := 5, ground := .phase }, { on := 6, ground := .phase }], guard := none }]
def d7_D : List Nat := [37, 38, 39, 40, 41, 42, 43, 15]
def d7_V (g : Nat) (vw : Value) (room : Int) (vz : Value) (i gz oz : Nat) (x : Int) (but r : Nat) (j : Nat) (v : Value) (_ : World) : Prop :=
  match j with
  | 0 => v = .agg (tabA g vw room)
  | 1 => v = vz
  | 2 => v = .int .i64 (i : Int)
  | 3 => v = .pointer (some ⟨gz, oz + i, none⟩)
  | 4 => v = .int .i64 x
  | 5 => v = .int .i64 (but : Int)
  | 6 => v = .int .i64 (r : Int)
  | _ => True
set_option maxHeartbeats 4000000 in
theorem d7_region {id : Nat} {Q : Exit → Act → World → Prop} {a0 : Act} {w0 : World} (hs : 64 ≤ a0.tmps.size) (g q : Nat) (vw : Value) (room : Int) (i gz oz nz cz : Nat) (x : Int) (but r : Nat) (th : Nat → Bool) (ld2 : Nat → Int)
    (h10 : a0.eval (.tmp 10) = .pointer (some ⟨q, 0, none⟩)) (h0 : a0.eval (.tmp 0) = .slice (some ⟨gz, oz, none⟩) nz cz) (h13 : a0.eval (.tmp 13) = .int .i64 (i : Int)) (h14 : a0.eval (.tmp 14) = .int .i64 (but : Int)) (hi : i < nz)
    (hq : w0.heap[q]? = some (.cells (tabA g vw room) 37 (0, 0))) (cur : Array Value) (t : TypeId) (fr : Nat × Nat) (hgz : w0.heap[gz]? = some (.cells cur t fr)) (hx : cur[oz + i]? = some (.int .i64 x))
    (hqg : ¬ q = g) (hzg : ¬ gz = g) (HG : ∀ W, Below w0.heap.size w0 W → Calls Try.prog 9 #[.agg (tabA g vw room), .int .i64 x, .int .i64 (but : Int)] W fun e w' => e = .returned (.int .i64 (r : Int)) ∧ MapL w' g th ld2 ∧ Kept (fun k => k = g) W w')
    (hK : ∀ y w', y 15 = .int .i64 (r : Int) → MapL w' g th ld2 → Kept (fun k => k = g) w0 w' → Q .normal (putsD d7_D y a0) w') : (Code.region id d7_ops.toArray true).wp Try.prog Q a0 w0 := by
  have hDs : ∀ d ∈ d7_D, d < a0.tmps.size := fun d hd => by
    have : d < 64 := by
      revert hd; unfold d7_D; intro hd
      simp only [List.mem_cons, List.not_mem_nil, or_false] at hd
      omega
    omega
  have frm : ∀ (b : Bool) (w : World), (if b then MapL w g th ld2 ∧ Kept (fun k => k = g) w0 w else Below w0.heap.size w0 w) → Kept (fun k => k = g) w0 w := fun b w h => by
    cases b with
    | true => exact h.2
    | false => exact Kept.of_below h
  refine region_mid 7 6 (d7_V g vw room (.slice (some ⟨gz, oz, none⟩) nz cz) i gz oz x but r) (fun b w => if b then MapL w g th ld2 ∧ Kept (fun k => k = g) w0 w else Below w0.heap.size w0 w) d7_D (by kernel_rfl) (by decide) rfl (by kernel_rfl) (by decide) hDs (by kernel_rfl) (by kernel_rfl) (fun j v w w' h _ => h) ?_ ?_ ?_ ?_ ?_
  · intro b w w' h hb
    cases b with
    | true => exact ⟨h.1.below hb, h.2.add hb⟩
    | false => exact Below.trans h (hb.mono (Below.size h))
  · exact (Below.refl _ _).drew
  · intro k o ho hk hkm b a w h
    have e10 := (h.other 10 (by decide)).trans h10
    have e0 := (h.other 0 (by decide)).trans h0
    have e13 := (h.other 13 (by decide)).trans h13
    have e14 := (h.other 14 (by decide)).trans h14
    have i1 : (Instr.indexAt 24 (.slice (some ⟨gz, oz, none⟩) nz cz) (.int .i64 (i : Int))).run Try.prog w = .ok (.pointer (some ⟨gz, oz + i, none⟩)) w := by
      simp [go_sem, Try.underlying24]; omega
    rcases (show k = 0 ∨ k = 1 ∨ k = 2 ∨ k = 3 ∨ k = 4 ∨ k = 5 by omega) with rfl | rfl | rfl | rfl | rfl | rfl
    · obtain rfl := Option.some.inj ho
      have bq : w.heap[q]? = some (.cells (tabA g vw room) 37 (0, 0)) := (frm b w h.wld).heap hq hqg
      exact iv_val rfl rfl _ (run_loadOp rfl _ _ _ _ e10 (load_tab bq)) rfl
    · obtain rfl := Option.some.inj ho
      exact iv_val rfl rfl _ (run_moveOp rfl _ _ _ e0) rfl
    · obtain rfl := Option.some.inj ho
      exact iv_val rfl rfl _ (run_moveOp rfl _ _ _ e13) rfl
    · obtain rfl := Option.some.inj ho
      have g1 : a.eval (.tmp 38) = _ := h.has ⟨1, .data⟩ (by simp) rfl _ 38 rfl rfl
      have g2 : a.eval (.tmp 39) = _ := h.has ⟨2, .data⟩ (by simp) rfl _ 39 rfl rfl
      exact iv_val rfl rfl _ (run_index13 rfl _ _ _ _ _ g1 g2 i1) rfl
    · obtain rfl := Option.some.inj ho
      have g1 : a.eval (.tmp 40) = .pointer (some ⟨gz, oz + i, none⟩) := h.has ⟨3, .data⟩ (by simp) rfl _ 40 rfl rfl
      have c0 : w.cell? ⟨gz, oz + i, none⟩ = some (.int .i64 x) := (cell_of_row _ _ _ _ _ _ ((frm b w h.wld).heap hgz hzg)).trans hx
      exact iv_val rfl rfl _ (run_loadOp rfl _ _ _ _ g1 (load_int13 _ _ _ c0)) rfl
    · obtain rfl := Option.some.inj ho
      exact iv_val rfl rfl _ (run_moveOp rfl _ _ _ e14) rfl
  · intro o ho a w h
    obtain rfl := Option.some.inj ho
    have hb : Below w0.heap.size w0 w := h.wld
    have g1 : a.eval (.tmp 37) = .agg (tabA g vw room) := h.has ⟨0, .data⟩ (by simp) rfl _ 37 rfl rfl
    have g2 : a.eval (.tmp 41) = .int .i64 x := h.has ⟨4, .data⟩ (by simp) rfl _ 41 rfl rfl
    have g3 : a.eval (.tmp 42) = .int .i64 (but : Int) := h.has ⟨5, .data⟩ (by simp) rfl _ 42 rfl rfl
    have ca : ∀ vs W, (callFunc 9 vs).run Try.prog W = .ok (.enter 9 vs) W := fun vs W => by have hf := Try.func9; simp [go_sem]
    refine wpOp_callQ rfl rfl 9 #[.agg (tabA g vw room), .int .i64 x, .int .i64 (but : Int)] (run_callOps rfl ca _ _ _ (by simp only [List.map_toArray, List.map_cons, List.map_nil, g1, g2, g3])) _ (HG w hb) _ rfl ?_ ?_ ?_
    · rintro v w' ⟨hv, hM, hk⟩
      obtain rfl : v = .int .i64 (r : Int) := by simpa using hv
      exact ⟨_, rfl, ⟨hM, Kept.pre hb hk⟩, fun j u hj hu => hu, fun _ _ => rfl⟩
    · rintro ch w' ⟨hv, _⟩; cases hv
    · rintro w' ⟨hv, _⟩; cases hv
  · intro a w hI hsz hdf hot hh
    have g1 : a.eval (.tmp 43) = .int .i64 (r : Int) := hh 6 _ 43 (by decide) rfl rfl
    refine wpOp_assign rfl rfl _ rfl (.int .i64 (r : Int)) g1 (some 15) rfl ?_
    show Q .normal (a.put (some 15) (.int .i64 (r : Int))) w
    have hsa : 15 < a.tmps.size := by rw [hsz]; exact hDs 15 (by decide)
    have e := puts_form (D := d7_D) (a := a.put (some 15) (.int .i64 (r : Int))) (a0 := a0) (by rw [size_put]; exact hsz) hdf (fun d hd => by
      rw [eval_put _ _ _ _ hsa, if_neg (fun e => hd (by rw [e]; decide))]
      exact hot d hd) hDs
    rw [e]
    refine hK _ w ?_ hI.1 hI.2
    show (a.put (some 15) (.int .i64 (r : Int))).eval (.tmp 15) = _
    rw [eval_put _ _ _ _ hsa, if_pos rfl]
end Go.Proofs.Ytjmpakngbdemgaa
namespace Go.Proofs.Ytjmpakngbdemgaa
open Go Go.Lib Go.RowKit
set_option maxRecDepth 20000

/-! deal.Deal. -/
def pairsT (out : Nat → Nat × Nat) (n : Nat) : List (Int × Int) := (List.range n).map fun i => (((out i).1 : Int), ((out i).2 : Int))
theorem pairs_len (out : Nat → Nat × Nat) (n : Nat) : (pairsT out n).length = n := by simp [pairsT]
theorem pairs_set (out : Nat → Nat × Nat) (n i : Nat) (a b : Nat) : (pairsT out n).set i ((a : Int), (b : Int)) = pairsT (fun j => if j = i then (a, b) else out j) n := by
  apply List.ext_getElem?
  intro j
  unfold pairsT
  rw [List.getElem?_set]
  by_cases h : i = j
  · subst h
    rw [if_pos rfl]
    by_cases hi : i < n
    · simp [hi]
    · simp [hi]
  · rw [if_neg h]
    by_cases hj : j < n
    · simp [hj, show ¬ j = i from fun e => h e.symm]
    · simp [hj]
theorem own_base13 {w : World} {B B' : Nat} {e : TypeId} {s : Nat} {v : Value} {n : Nat} {xs : List Value} (h : w.ownsRow B e s v n xs) (hB : B' ≤ B) : w.ownsRow B' e s v n xs := by
  obtain ⟨h1, h2 | ⟨g, cap, cur, h3, h4, h5⟩⟩ := h
  · exact ⟨h1, .inl h2⟩
  · exact ⟨h1, .inr ⟨g, cap, cur, h3, Nat.le_trans hB h4, h5⟩⟩
theorem ord_len {K : Nat → Int} {n : Nat} {o : List Nat} (h : IsOrd K n o) : o.length = n := by
  have hnd : o.Nodup := h.2.imp fun {a b} hab e => by subst e; exact ahead_asymm hab hab
  refine Nat.le_antisymm (places_le n o (fun i hi => (h.1 i).1 hi) hnd) ?_
  have := sub_len (List.range n) o List.nodup_range (fun x hx => (h.1 x).2 (List.mem_range.1 hx))
  simpa using this
theorem pairs_zero (n : Nat) : pairsT (fun _ => (0, 0)) n = List.replicate n (0, 0) := by
  unfold pairsT
  rw [List.eq_replicate_iff]
  refine ⟨by simp, fun p hp => ?_⟩
  obtain ⟨i, _, rfl⟩ := List.mem_map.1 hp
  rfl
theorem wl_storeT {ops : Array Oper} {rest : List Oper} {o : Oper} {a : Act} {w : World} {Q : Exit → Act → World → Prop} (hgd : o.guard = none) (x y : Operand) (ho : o.op = .store 37 x y)
    (q g : Nat) (ov : Option Addr) (nv cv : Nat) (room : Int) (hx : a.eval x = .pointer (some ⟨q, 0, none⟩)) (hy : a.eval y = .agg (tabA g (.slice ov nv cv) room)) (old : Array Value) (hg : w.heap[q]? = some (.cells old 37 (0, 0))) (hold : old.size = 3)
    (w' : World) (hw' : w.setRow q (tabA g (.slice ov nv cv) room) = w') (h : wpList Try.prog ops Q rest (a.put o.dst undef) w') : wpList Try.prog ops Q (o :: rest) a w :=
  wpList_store_row hgd 37 x y ho q _ hx hy 37 old hg (by kernel_rfl) (by rw [hold]; rfl) (by simp [tabA, Value.oneCell']) (by rw [hw']; exact h)
/-- What all have stays within the room. -/
def okLd (th : Nat → Bool) (room : Int) (ld : Nat → Int) : Prop := ∀ k, 1 ≤ k → k ≤ 6 → th k = true → 0 ≤ ld k ∧ ld k ≤ max room 0
theorem okLd_up {th : Nat → Bool} {room : Int} {ld : Nat → Int} {wt : Nat → Nat} {s : Int} {but : Nat} (h : okLd th room ld) (hs : 0 ≤ s) : okLd th room (ldUp ld (giveN th ld wt room s but) s) := fun k h1 h2 h3 => by
  obtain ⟨a, b⟩ := h k h1 h2 h3
  unfold ldUp
  split
  · rename_i e
    obtain ⟨e1, e2⟩ := e
    have hg := giveN_in (n := giveN th ld wt room s but) rfl e2
    rw [← e1] at hg
    omega
  · exact ⟨a, b⟩
def dealR (w w' : World) (n : Nat) (r : Option ((Nat → Int) × (Nat → Nat × Nat))) (e : Ending) : Prop :=
  match r with
  | none => e = .returned (.tuple #[.slice none 0 0, .int .i64 15])
  | some st => ∃ v, e = .returned (.tuple #[v, .int .i64 0]) ∧ POwn w.heap.size w' v (pairsT st.2 n)
set_option maxHeartbeats 8000000 in
set_option maxRecDepth 100000 in
theorem deal_any (z live : List Int) (hn : z.length ≤ 1000) (l : List Nat) (hW : AllW l) (room : Int) (hr1 : -9223372036854775808 ≤ room) (hr2 : room ≤ 9223372036854775807) (hz2 : ∀ x ∈ z, x ≤ 9223372036854775807) (vz vl vw : Value) (w : World) (hz : ISl w vz z) (hl : ISl w vl live) (hw : FSl w vw l) :
    Calls Try.prog 5 #[vz, vl, vw, .int .i64 room] w fun e w' => (∃ o, IsOrd (keyZ z) z.length o ∧ dealR w w' z.length (dealF (thT live) (wtT l) room (cntT (thT live)) (fun i => max (z.getD i 0) 0) o (fun _ => 0) (fun _ => (0, 0))) e) ∧ Below w.heap.size w w' := by
  obtain ⟨ow, cw, rfl, _, _⟩ := hw.slice
  obtain ⟨th, hth⟩ : ∃ th, th = thT live := ⟨_, rfl⟩
  obtain ⟨lw, hlw⟩ : ∃ lw, lw = l.length := ⟨_, rfl⟩
  have BG : Hid (∀ W, Below w.heap.size w W → Calls Try.prog 7 #[vl] W fun e w' => ∃ g, e = .returned (.map (some g)) ∧ W.heap.size ≤ g ∧ MapL w' g th (fun _ => 0) ∧ Below W.heap.size W w') := fun W hb => by rw [hth]; exact begin_any live vl W (VSl.below hl hb)
  have FA : Hid (∀ W, Below w.heap.size w W → Calls Try.prog 8 #[vz] W fun e w' => ∃ v' o, e = .returned v' ∧ IsOrd (keyZ z) z.length o ∧ VOwn 3 W.heap.size w' v' (inV o) ∧ Below W.heap.size W w') := fun W hb => falling_any z hn vz W (VSl.below hz hb)
  rw [← hth]
  rw [← hlw] at hw ⊢
  obtain ⟨SS, hSS⟩ : ∃ SS : Nat → Int, SS = fun i => max (z.getD i 0) 0 := ⟨_, rfl⟩
  have HSX : Hid (∀ (i : Nat) (x : Int), z[i]? = some x → SS i = max x 0) := fun i x h => by rw [hSS]; show max (z.getD i 0) 0 = _; rw [List.getD, h]; rfl
  rw [← hSS]
  have GV : Hid (∀ (g : Nat) (ld : Nat → Int) (x : Int) (but : Nat) W, Below w.heap.size w W → MapL W g th ld → okLd th room ld → x ≤ 9223372036854775807 → Calls Try.prog 9 #[.agg (tabA g (.slice ow lw cw) room), .int .i64 x, .int .i64 (but : Int)] W fun e w' => e = .returned (.int .i64 (giveN th ld (wtT l) room (max x 0) but : Nat)) ∧ MapL w' g th (ldUp ld (giveN th ld (wtT l) room (max x 0) but) (max x 0)) ∧ Kept (fun k => k = g) W w') := fun g ld x but W hb hM hok hx => give_any g th ld l hW _ room x but W hM (VSl.below hw hb) hr1 hr2 hx hok
  obtain ⟨oz, cz, rfl, hz3, hz4⟩ := hz.slice
  obtain ⟨n, hn0⟩ : ∃ n, n = z.length := ⟨_, rfl⟩
  have HZX : Hid (∀ x ∈ z, x ≤ 9223372036854775807) := hz2
  rw [← hn0] at hz hz3 hn FA ⊢
  have HZ : Hid (ISl w (.slice oz n cz) z) := hz
  unfold maxLen at hz4
  clear hz hl hw hW hn0 hz2 hth hlw hSS
  go_enter Try.func5, Try.ntmps5
  go_wp2_with (first | (go_at_call 7; refine (BG.out _ (Below.refl _ _)).mono ?_; rintro e w1 ⟨g, rfl, hg, hM1, hb1⟩; refine of_stopT ?_))
  unfold StopT
  obtain ⟨w2, hw2⟩ : ∃ w2, w2 = w1.alloc (.cells (tabA g (.slice ow lw cw) room) 37) := ⟨_, rfl⟩
  obtain ⟨q, hq⟩ : ∃ q, q = w1.heap.size := ⟨_, rfl⟩
  have b12 : Below w1.heap.size w1 w2 := by rw [hw2]; exact (Below.refl _ _).alloc (Nat.le_refl _) _
  have M2 : Hid (MapL w2 g th (fun _ => 0)) := hM1.below b12
  have Q2 : Hid (w2.heap[q]? = some (.cells (tabA g (.slice ow lw cw) room) 37 (0, 0))) := by show _ = _; rw [hw2, hq]; exact heap_new _ _ _ rfl
  have B2 : Hid (Below w.heap.size w w2) := hb1.trans (b12.mono hb1.size)
  have HGW : Hid (w.heap.size ≤ g) := hg
  have hgq : g < q := by rw [hq]; exact hM1.lt
  clear hM1 hb1 b12
  go_wp2_with (first | (refine wl_storeT rfl _ _ rfl w1.heap.size g ow lw cw room rfl rfl _ (heap_new _ _ _ rfl) rfl _ (setRow_new _ _ _ _ _ rfl) ?_; refine of_stopT ?_))
  unfold StopT
  rw [← hw2, ← hq]
  clear hw2 hq
  go_wp2_with (first | (refine wl_makeP rfl _ _ rfl n rfl rfl (by omega) ?_; intro w3 ho3 hb3; refine of_stopT ?_))
  unfold StopT
  obtain ⟨go, hgo⟩ : ∃ go, go = w2.heap.size := ⟨_, rfl⟩
  have M3 : Hid (MapL w3 g th (fun _ => 0)) := M2.out.below hb3
  have Q3 : Hid (w3.heap[q]? = some (.cells (tabA g (.slice ow lw cw) room) 37 (0, 0))) := (hb3.block _ (Array.getElem?_eq_some_iff.1 Q2.out).1).trans Q2.out
  have B3 : Hid (Below w.heap.size w w3) := B2.out.trans (hb3.mono B2.out.size)
  have O3 : Hid (POwn w.heap.size w3 (.slice (some ⟨go, 0, none⟩) n n) (pairsT (fun _ => (0, 0)) n)) := by
    show POwn _ _ _ _
    rw [pairs_zero, hgo]
    unfold POwn at ho3 ⊢
    exact own_base13 ho3 B2.out.size
  have hqo : q < go := by rw [hgo]; exact (Array.getElem?_eq_some_iff.1 Q2.out).1
  have hgo3 : go < w3.heap.size := by have := World.ownsRow.lt O3.out go rfl; exact this.2
  rw [← hgo]
  clear ho3 hb3 M2 Q2 B2 hgo
  go_wp2_with (first | (go_at_call 8; refine (FA.out _ B3.out).mono ?_; rintro e w4 ⟨v4, o, rfl, ho, hv4, hb4⟩; refine of_stopT ?_))
  unfold StopT
  have M4 : Hid (MapL w4 g th (fun _ => 0)) := M3.out.below hb4
  have Q4 : Hid (w4.heap[q]? = some (.cells (tabA g (.slice ow lw cw) room) 37 (0, 0))) := (hb4.block _ (Array.getElem?_eq_some_iff.1 Q3.out).1).trans Q3.out
  have B4 : Hid (Below w.heap.size w w4) := B3.out.trans (hb4.mono B3.out.size)
  have O4 : Hid (POwn w.heap.size w4 (.slice (some ⟨go, 0, none⟩) n n) (pairsT (fun _ => (0, 0)) n)) := gown_below O3.out hb4
  have V4 : Hid (VOwn 3 w3.heap.size w4 v4 (inV o)) := hv4
  have HO : Hid (IsOrd (keyZ z) n o) := ho
  have hol : o.length = n := ord_len ho
  obtain ⟨o4, c4, hv, hc41, hc42⟩ := hv4.sl.slice
  rw [inV_len, hol] at hv hc41
  subst hv
  unfold maxLen at hc42
  have HOL : Hid (o.length = n) := hol
  have hne4 : ∀ j, (Value.slice o4 n c4).ownBlock = some j → w3.heap.size ≤ j := fun j hj => (V4.out.ge j hj).1
  have HN4 : Hid (∀ j, (Value.slice o4 n c4).ownBlock = some j → w3.heap.size ≤ j) := hne4
  obtain ⟨R, hR⟩ : ∃ R, R = dealF th (wtT l) room (cntT th) SS o (fun _ => 0) (fun _ => (0, 0)) := ⟨_, rfl⟩
  have HRR : Hid (R = dealF th (wtT l) room (cntT th) SS o (fun _ => 0) (fun _ => (0, 0))) := hR
  have R0 : Hid (R = dealF th (wtT l) room (cntT th) SS (o.drop 0) (fun _ => 0) (fun _ => (0, 0))) := by show _ = _; rw [List.drop_zero]; exact hR
  have OK0 : Hid (okLd th room (fun _ => 0)) := fun k _ _ _ => ⟨Int.le_refl _, by show (0 : Int) ≤ max room 0; omega⟩
  clear hne4 hol hb4 hv4 M3 Q3 B3 O3 ho hR
  go_wp2_with fail
  go_loopw [27] (fun i wr => ∃ (k : Nat) (ld : Nat → Int) (out : Nat → Nat × Nat), k ≤ n ∧ i = .int .i64 (k : Int) ∧ Hid (MapL wr g th ld) ∧ Hid (okLd th room ld) ∧ Hid (wr.heap[q]? = some (.cells (tabA g (.slice ow lw cw) room) 37 (0, 0))) ∧ Hid (POwn w.heap.size wr (.slice (some ⟨go, 0, none⟩) n n) (pairsT out n)) ∧ Hid (VOwn 3 w3.heap.size wr (.slice o4 n c4) (inV o)) ∧ Hid (R = dealF th (wtT l) room (cntT th) SS (o.drop k) ld out) ∧ Hid (Below w.heap.size w wr)) (fun i _ => n - (intOf i).toNat)
  case atStart => exact ⟨0, _, _, Nat.zero_le _, rfl, M4, OK0, Q4, O4, V4, R0, B4⟩
  case round =>
    clear M4 OK0 Q4 O4 V4 R0 B4
    obtain ⟨k, ld, out, hk, rfl, MX, OX, QX, PX, VX, RX, BX⟩ := hrel
    by_cases hlt : k < n
    · have hlt' : (k : Int) < (n : Int) := by omega
      obtain ⟨g4, off4, c, rfl, ⟨cur4, t4, fr4, hg4, hcc⟩, hoc⟩ := VX.out.sl.row k hlt
      unfold inV at hoc
      rw [List.getElem?_map] at hoc
      obtain ⟨i, hoi⟩ : ∃ i, o[k]? = some i := ⟨_, List.getElem?_eq_getElem (by rw [HOL.out]; exact hlt)⟩
      rw [hoi] at hoc
      obtain rfl : Value.int .i64 (i : Int) = c := Option.some.inj hoc
      have hin : i < n := (HO.out.1 i).1 (List.mem_of_getElem? hoi)
      have hin' : (i : Int) < (n : Int) := by omega
      have hci : wr.cell? ⟨g4, off4 + k, none⟩ = some (.int .i64 (i : Int)) := (cell_of_row _ _ _ _ _ _ hg4).trans hcc
      obtain ⟨gz, offz, x, curz, tz, frz, rfl, hgz, hxz, hzi⟩ := ISl.at HZ.out i hin
      have hgzl := (Array.getElem?_eq_some_iff.1 hgz).1
      have hgz2 := (BX.out.block gz hgzl).trans hgz
      have hx2 : x ≤ 9223372036854775807 := HZX.out x (List.mem_of_getElem? hzi)
      have hgw : w.heap.size ≤ g := HGW.out
      have hdr : o.drop k = i :: o.drop (k + 1) := by
        obtain ⟨h1, h2⟩ := List.getElem?_eq_some_iff.1 hoi
        rw [List.drop_eq_getElem_cons h1, h2]
      have hzx : SS i = max x 0 := HSX.out i x hzi
      obtain ⟨s, hs⟩ : ∃ s, s = max x 0 := ⟨_, rfl⟩
      have hs0 : 0 ≤ s := by omega
      have RS : Hid (R = if badG th (wtT l) room (cntT th) ld s then none else dealF th (wtT l) room (cntT th) SS (o.drop (k + 1)) (nextL th (wtT l) room ld s) (fun j => if j = i then (oneOf th (wtT l) room ld s, twoOf th (wtT l) room ld s) else out j)) := by
        show _ = _
        rw [RX.out, hdr, dealF, hzx, ← hs]
      have G1 := fun W (hb : Below wr.heap.size wr W) => GV.out g ld x 0 W (BX.out.trans (hb.mono BX.out.size)) (MX.out.below hb) OX.out hx2
      have OK1 : okLd th room (ldUp ld (giveN th ld (wtT l) room s 0) s) := okLd_up OX.out hs0
      have G2 := fun W (hb : Below w.heap.size w W) (hM : MapL W g th (ldUp ld (giveN th ld (wtT l) room s 0) s)) => GV.out g _ x (giveN th ld (wtT l) room s 0) W hb hM OK1 hx2
      have OK2 := okLd_up (wt := wtT l) (but := giveN th ld (wtT l) room s 0) OK1 hs0
      rw [← hs] at G1 G2
      unfold badG nextL twoOf oneOf at RS
      generalize giveN th ld (wtT l) room s 0 = one at G1 G2 OK1 OK2 RS
      generalize giveN th (ldUp ld one s) (wtT l) room s one = two at G2 OK2 RS
      have OKN : Hid (okLd th room (ldUp (ldUp ld one s) two s)) := OK2
      clear hg4 hcc hoc hoi hdr hzx hzi hgz hs RX OX
      go_wp2_with fail
      refine d6_region (by first | simp | exact Nat.le_of_ble_eq_true rfl) g q (.slice ow lw cw) room i gz offz n cz x 0 one th (ldUp ld one s) rfl rfl rfl rfl hin QX.out curz tz frz hgz2 hxz (by omega) (by omega) G1 ?_
      intro y6 w5 hy14 hM5 hk5
      have B5 : Hid (Below w.heap.size w w5) := BX.out.trans (hk5.below (fun j hj => by omega) BX.out.size)
      have Q5 : Hid (w5.heap[q]? = some (.cells (tabA g (.slice ow lw cw) room) 37 (0, 0))) := hk5.heap QX.out (by omega)
      have P5 : Hid (POwn w.heap.size w5 (.slice (some ⟨go, 0, none⟩) n n) (pairsT out n)) := hk5.own PX.out (fun j hj => by simp only [Value.ownBlock, Option.some.injEq] at hj; omega)
      have V5 : Hid (VOwn 3 w3.heap.size w5 (.slice (some ⟨g4, off4, none⟩) n c4) (inV o)) := hk5.own VX.out (fun j hj => by have := HN4.out j hj; omega)
      have hgz5 := hk5.heap hgz2 (by omega)
      simp only [putsD, d6_D, List.foldl_cons, List.foldl_nil, Act.put, List.setIfInBounds_toArray, List.set_cons_succ, List.set_cons_zero, hy14]
      clear hy14 MX QX PX VX BX hci hgz2 G1
      go_wp2_with fail
      refine d7_region (by first | simp | exact Nat.le_of_ble_eq_true rfl) g q (.slice ow lw cw) room i gz offz n cz x one two th (ldUp (ldUp ld one s) two s) rfl rfl rfl rfl hin Q5.out curz tz frz hgz5 hxz (by omega) (by omega) (fun W hb => G2 W (B5.out.trans (hb.mono B5.out.size)) (hM5.below hb)) ?_
      intro y7 w6 hy15 hM6 hk6
      have B6 : Hid (Below w.heap.size w w6) := B5.out.trans (hk6.below (fun j hj => by omega) B5.out.size)
      have Q6 : Hid (w6.heap[q]? = some (.cells (tabA g (.slice ow lw cw) room) 37 (0, 0))) := hk6.heap Q5.out (by omega)
      have P6 : Hid (POwn w.heap.size w6 (.slice (some ⟨go, 0, none⟩) n n) (pairsT out n)) := hk6.own P5.out (fun j hj => by simp only [Value.ownBlock, Option.some.injEq] at hj; omega)
      have V6 : Hid (VOwn 3 w3.heap.size w6 (.slice (some ⟨g4, off4, none⟩) n c4) (inV o)) := hk6.own V5.out (fun j hj => by have := HN4.out j hj; omega)
      have M6 : Hid (MapL w6 g th (ldUp (ldUp ld one s) two s)) := hM6
      simp only [putsD, d7_D, List.foldl_cons, List.foldl_nil, Act.put, List.setIfInBounds_toArray, List.set_cons_succ, List.set_cons_zero, hy15]
      clear hy15 Q5 P5 V5 B5 hgz5 hk5 hk6 hM5 hM6 G2
      have hlen := fun ty => M6.out.len ty
      have r0 : w6.cell? ⟨q, 0, none⟩ = some (.map (some g)) := by rw [cell_of_row _ _ _ _ _ _ Q6.out]; rfl
      by_cases h1 : one = 0
      · have h1' : ((one : Int) == 0) = true := by simp [h1]
        have RE : Hid (R = none) := by show _ = _; rw [RS.out, if_pos (by simp [h1])]
        clear h1 hlen
        go_wp2_with fail
        go_ret2
        refine ⟨⟨o, HO.out, ?_⟩, B6.out⟩
        rw [← HRR.out, RE.out]
        rfl
      · have h1' : ((one : Int) == 0) = false := by simp; omega
        by_cases h2 : two = 0
        · have h2' : ((two : Int) == 0) = true := by simp [h2]
          by_cases h3 : 1 < cntT th
          · have h3' : decide ((1 : Int) < (cntT th : Int)) = true := by simp; omega
            have h3'' : decide (1 < cntT th) = true := by simpa using h3
            have RE : Hid (R = none) := by show _ = _; rw [RS.out, if_pos (by simp [h2, h3])]
            clear h1 h2 h3
            go_wp2_with fail
            go_ret2
            refine ⟨⟨o, HO.out, ?_⟩, B6.out⟩
            rw [← HRR.out, RE.out]
            rfl
          · have h3' : decide ((1 : Int) < (cntT th : Int)) = false := by simp; omega
            have h3'' : decide (1 < cntT th) = false := by simpa using h3
            have RN : Hid (R = dealF th (wtT l) room (cntT th) SS (o.drop (k + 1)) (ldUp (ldUp ld one s) two s) (fun j => if j = i then (one, two) else out j)) := by show _ = _; rw [RS.out, if_neg (by simp [h1, h3])]
            clear h1 h2 h3 RS
            obtain ⟨p0, hp0, cA, cB, hfr⟩ := P6.out.cell i hin
            obtain ⟨hP7, hgr7⟩ := P6.out.set (by rw [pairs_len]) i hin (one : Int) (two : Int)
            rw [pairs_set] at hP7
            have fA := hfr (i * 2)
            have fB := hfr (i * 2 + 1)
            have P7 : Hid (POwn w.heap.size ((w6.setCell ⟨go, i * 2, none⟩ (.int .i64 (one : Int))).setCell ⟨go, i * 2 + 1, none⟩ (.int .i64 (two : Int))) (.slice (some ⟨go, 0, none⟩) n n) (pairsT (fun j => if j = i then (one, two) else out j) n)) := hP7
            have K7 : Kept (fun j => j = go) w6 ((w6.setCell ⟨go, i * 2, none⟩ (.int .i64 (one : Int))).setCell ⟨go, i * 2 + 1, none⟩ (.int .i64 (two : Int))) := Kept.of_grown hgr7 (fun j hj => by cases hj; rfl)
            have M7 : Hid (MapL ((w6.setCell ⟨go, i * 2, none⟩ (.int .i64 (one : Int))).setCell ⟨go, i * 2 + 1, none⟩ (.int .i64 (two : Int))) g th (ldUp (ldUp ld one s) two s)) := K7.map M6.out (by omega)
            have Q7 : Hid (((w6.setCell ⟨go, i * 2, none⟩ (.int .i64 (one : Int))).setCell ⟨go, i * 2 + 1, none⟩ (.int .i64 (two : Int))).heap[q]? = some (.cells (tabA g (.slice ow lw cw) room) 37 (0, 0))) := K7.heap Q6.out (by omega)
            have V7 : Hid (VOwn 3 w3.heap.size ((w6.setCell ⟨go, i * 2, none⟩ (.int .i64 (one : Int))).setCell ⟨go, i * 2 + 1, none⟩ (.int .i64 (two : Int))) (.slice (some ⟨g4, off4, none⟩) n c4) (inV o)) := K7.own V6.out (fun j hj => by have := HN4.out j hj; omega)
            have B7 : Hid (Below w.heap.size w ((w6.setCell ⟨go, i * 2, none⟩ (.int .i64 (one : Int))).setCell ⟨go, i * 2 + 1, none⟩ (.int .i64 (two : Int)))) := B6.out.trans (K7.below (fun j hj => by omega) B6.out.size)
            clear hP7 hgr7 K7 hfr hp0 M6 Q6 P6 V6 B6
            go_wp2_with fail
            go_roundw
            case rel => exact ⟨k + 1, _, _, by omega, by go_num, M7, OKN, Q7, P7, V7, RN, B7⟩
            case measure => simp [intOf]; omega
        · have h2' : ((two : Int) == 0) = false := by simp; omega
          have RN : Hid (R = dealF th (wtT l) room (cntT th) SS (o.drop (k + 1)) (ldUp (ldUp ld one s) two s) (fun j => if j = i then (one, two) else out j)) := by show _ = _; rw [RS.out, if_neg (by simp [h1, h2])]
          clear h1 h2 RS
          obtain ⟨p0, hp0, cA, cB, hfr⟩ := P6.out.cell i hin
          obtain ⟨hP7, hgr7⟩ := P6.out.set (by rw [pairs_len]) i hin (one : Int) (two : Int)
          rw [pairs_set] at hP7
          have fA := hfr (i * 2)
          have fB := hfr (i * 2 + 1)
          have P7 : Hid (POwn w.heap.size ((w6.setCell ⟨go, i * 2, none⟩ (.int .i64 (one : Int))).setCell ⟨go, i * 2 + 1, none⟩ (.int .i64 (two : Int))) (.slice (some ⟨go, 0, none⟩) n n) (pairsT (fun j => if j = i then (one, two) else out j) n)) := hP7
          have K7 : Kept (fun j => j = go) w6 ((w6.setCell ⟨go, i * 2, none⟩ (.int .i64 (one : Int))).setCell ⟨go, i * 2 + 1, none⟩ (.int .i64 (two : Int))) := Kept.of_grown hgr7 (fun j hj => by cases hj; rfl)
          have M7 : Hid (MapL ((w6.setCell ⟨go, i * 2, none⟩ (.int .i64 (one : Int))).setCell ⟨go, i * 2 + 1, none⟩ (.int .i64 (two : Int))) g th (ldUp (ldUp ld one s) two s)) := K7.map M6.out (by omega)
          have Q7 : Hid (((w6.setCell ⟨go, i * 2, none⟩ (.int .i64 (one : Int))).setCell ⟨go, i * 2 + 1, none⟩ (.int .i64 (two : Int))).heap[q]? = some (.cells (tabA g (.slice ow lw cw) room) 37 (0, 0))) := K7.heap Q6.out (by omega)
          have V7 : Hid (VOwn 3 w3.heap.size ((w6.setCell ⟨go, i * 2, none⟩ (.int .i64 (one : Int))).setCell ⟨go, i * 2 + 1, none⟩ (.int .i64 (two : Int))) (.slice (some ⟨g4, off4, none⟩) n c4) (inV o)) := K7.own V6.out (fun j hj => by have := HN4.out j hj; omega)
          have B7 : Hid (Below w.heap.size w ((w6.setCell ⟨go, i * 2, none⟩ (.int .i64 (one : Int))).setCell ⟨go, i * 2 + 1, none⟩ (.int .i64 (two : Int)))) := B6.out.trans (K7.below (fun j hj => by omega) B6.out.size)
          clear hP7 hgr7 K7 hfr hp0 M6 Q6 P6 V6 B6
          go_wp2_with fail
          go_roundw
          case rel => exact ⟨k + 1, _, _, by omega, by go_num, M7, OKN, Q7, P7, V7, RN, B7⟩
          case measure => simp [intOf]; omega
    · have hlt' : ¬ (k : Int) < (n : Int) := by omega
      have RE : Hid (R = some (ld, out)) := by
        show _ = _
        rw [RX.out, List.drop_of_length_le (by rw [HOL.out]; omega)]
        rfl
      go_wp2_with fail
      go_ret2
      refine ⟨⟨o, HO.out, ?_⟩, BX.out⟩
      rw [← HRR.out, RE.out]
      exact ⟨_, rfl, PX.out⟩
end Go.Proofs.Ytjmpakngbdemgaa
namespace Go.Proofs.Ytjmpakngbdemgaa
open Go Go.Lib Go.RowKit
set_option maxRecDepth 20000

/-! The reference's Size and Give. -/
def lV (ld : Nat → Int) : List Value := (List.range 7).map fun i => Value.int .i64 (ld i)
def tV (th : Nat → Bool) : List Value := (List.range 7).map fun i => Value.bool (if i = 0 then false else th i)
theorem lV_at (ld : Nat → Int) {n : Nat} (h : n < 7) : (lV ld)[n]? = some (.int .i64 (ld n)) := by unfold lV; rw [List.getElem?_map, List.getElem?_range h]; rfl
theorem tV_at (th : Nat → Bool) {n : Nat} (h1 : 1 ≤ n) (h : n < 7) : (tV th)[n]? = some (.bool (th n)) := by unfold tV; rw [List.getElem?_map, List.getElem?_range h, Option.map_some, if_neg (by omega)]
theorem lV_set (ld : Nat → Int) {m : Nat} (h : m < 7) (hm : m ≠ 0) (s : Int) : (lV ld).set m (.int .i64 (ld m + s)) = lV (ldUp ld m s) := by
  apply List.ext_getElem?
  intro j
  unfold lV ldUp
  rw [List.getElem?_set]
  by_cases e : m = j
  · subst e
    rw [if_pos rfl]
    simp [h, hm]
  · rw [if_neg e]
    by_cases hj : j < 7
    · simp [hj, show ¬ j = m from fun x => e x.symm]
    · simp [hj]
end Go.Proofs.Ytjmpakngbdemgaa
