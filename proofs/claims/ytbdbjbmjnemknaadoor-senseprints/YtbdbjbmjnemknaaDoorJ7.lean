import Derived.Test.YtbdbjbmjnemknaaDoorJ5
import Derived.Test.YtbdbjbmjnemknaaDoorJ6
import Derived.Deep.CutRange
import Derived.Test.YtbdbjbmjnemknaaDoorJ4
import Derived.Test.YtbdbjbmjnemknaaDoorJ2
import Derived.BigQuiet
import Derived.OwnWalk
import Derived.Test.YtbdbjbmjnemknaaDoorJ1
namespace Go.Proofs.YtbdbjbmjnemknaaDoor
open Go Go.RowKit
set_option maxRecDepth 20000

def rl5_ops : List Oper := [
  { dst := some 27, op := .fieldAddr 55 (.tmp 3) 3, type := 0, pos := "ref.go:241", after := #[], guard := none },
  { dst := some 28, op := .load 53 (.tmp 27), type := 53, pos := "ref.go:241", after := #[{ on := 0, ground := .data }], guard := none },
  { dst := some 29, op := .fieldAddr 45 (.tmp 1) 2, type := 0, pos := "ref.go:241", after := #[], guard := none },
  { dst := some 30, op := .load 43 (.tmp 29), type := 43, pos := "ref.go:241", after := #[{ on := 2, ground := .data }], guard := none },
  { dst := some 31, op := .fieldAddr 45 (.tmp 1) 3, type := 0, pos := "ref.go:241", after := #[], guard := none },
  { dst := some 32, op := .load 3 (.tmp 31), type := 3, pos := "ref.go:241", after := #[{ on := 4, ground := .data }], guard := none },
  { dst := some 33, op := .call { callee := .value (.func 33), args := #[.const (.string { data := #[115, 114, 99] }), .tmp 30, .tmp 32], argTypes := #[9, 43, 3] }, type := 76, pos := "ref.go:241", after := #[{ on := 3, ground := .data }, { on := 5, ground := .data }], guard := none },
  { dst := some 34, op := .buildSlice 53 1 #[(0, .tmp 33)], type := 53, pos := "ref.go:241", after := #[{ on := 6, ground := .data }], guard := none },
  { dst := some 35, op := .call { callee := .builtin .append, args := #[.tmp 28, .tmp 34], argTypes := #[53, 53] }, type := 53, pos := "ref.go:241", after := #[{ on := 1, ground := .data }, { on := 7, ground := .data }, { on := 6, ground := .chain }], guard := none },
  { dst := some 36, op := .fieldAddr 55 (.tmp 3) 3, type := 0, pos := "ref.go:241", after := #[{ on := 0, ground := .phase }, { on := 1, ground := .phase }, { on := 2, ground := .phase }, { on := 3, ground := .phase }, { on := 4, ground := .phase }, { on := 5, ground := .phase }, { on := 6, ground := .phase }, { on := 7, ground := .phase }, { on := 8, ground := .phase }], guard := none },
  { dst := none, op := .store 53 (.tmp 36) (.tmp 35), type := 0, pos := "ref.go:241", after := #[{ on := 9, ground := .data }, { on := 8, ground := .data }, { on := 8, ground := .chain }, { on := 0, ground := .phase }, { on := 1, ground := .phase }, { on := 2, ground := .phase }, { on := 3, ground := .phase }, { on := 4, ground := .phase }, { on := 5, ground := .phase }, { on := 6, ground := .phase }, { on := 7, ground := .phase }, { on := 8, ground := .phase }], guard := none }]
def rl5_D : List Nat := [27, 28, 29, 30, 31, 32, 33, 34, 35, 36]
def rl5_V (p1 p3 B H : Nat) (x : Ent) (vv : Value) (P : List (Cla × Value)) (i : Nat) (v : Value) (w : World) : Prop :=
  match i with
  | 0 => v = .pointer (some ⟨p3, 4, none⟩)
  | 1 => v = vv
  | 2 => v = .pointer (some ⟨p1, 2, none⟩)
  | 3 => v = .int .u32 x.src
  | 4 => v = .pointer (some ⟨p1, 3, none⟩)
  | 5 => v = .int .i64 x.srcBits
  | 6 => ∃ u, v = .agg (claV (addrC7 wSrc x.src x.srcBits) u) ∧ FigsOwn B w (addrC7 wSrc x.src x.srcBits).nums u ∧ ∃ o n m, u = .slice o n m
  | 7 => ∃ u g, v = .slice (some ⟨g, 0, none⟩) 1 1 ∧ H ≤ g ∧ w.heap[g]? = some (.cells (claV (addrC7 wSrc x.src x.srcBits) u) 76 (0, 0)) ∧ FigsOwn B w (addrC7 wSrc x.src x.srcBits).nums u ∧ ∃ o n m, u = .slice o n m
  | 8 => ∃ u, w.ownsRow B 76 5 v (P ++ [((addrC7 wSrc x.src x.srcBits), u)]).length (gcells claP2 (P ++ [((addrC7 wSrc x.src x.srcBits), u)])) ∧ FigsOwn B w (addrC7 wSrc x.src x.srcBits).nums u
  | 9 => v = .pointer (some ⟨p3, 4, none⟩)
  | _ => True
theorem rl5_mono (p1 p3 B H : Nat) (x : Ent) (vv : Value) (P : List (Cla × Value)) : ∀ j v w w', rl5_V p1 p3 B H x vv P j v w → Below w.heap.size w w' → rl5_V p1 p3 B H x vv P j v w' := by
  intro j v w w' h hb
  revert h
  unfold rl5_V
  split <;> intro h <;> first
    | exact h
    | (obtain ⟨u, h1, h2, h3⟩ := h
       exact ⟨u, h1, gown_below h2 hb, h3⟩)
    | (obtain ⟨u, g, h1, h2, h3, h4, h5⟩ := h
       exact ⟨u, g, h1, h2, (hb.block g (Array.getElem?_eq_some_iff.1 h3).1).trans h3, gown_below h4 hb, h5⟩)
    | (obtain ⟨u, h1, h2⟩ := h
       exact ⟨u, gown_below h1 hb, gown_below h2 hb⟩)

set_option maxHeartbeats 4000000 in
theorem rl5_region {id : Nat} {Q : Exit → Act → World → Prop} {a0 : Act} {w0 : World} (hs : 105 ≤ a0.tmps.size) (p1 p3 B : Nat) (x : Ent) (hx : ent32 x) (vv : Value) (cs : Array Value) (P : List (Cla × Value)) (h1 : a0.eval (.tmp 1) = .pointer (some ⟨p1, 0, none⟩)) (h3 : a0.eval (.tmp 3) = .pointer (some ⟨p3, 0, none⟩))
    (hp1 : w0.heap[p1]? = some (.cells (entV x) 45 (0, 0))) (hp3 : w0.heap[p3]? = some (.cells cs 55 (0, 0))) (hcs : cs[4]? = some vv) (hB : B ≤ w0.heap.size) (hrow : RowW B w0 vv P) (hlen : P.length ≤ 100000)
    (hK : ∀ y w' v' u, KeptW B p1 p3 x cs P w0 w' → w'.ownsRow B 76 5 v' (P ++ [((addrC7 wSrc x.src x.srcBits), u)]).length (gcells claP2 (P ++ [((addrC7 wSrc x.src x.srcBits), u)])) → FigsOwn B w' (addrC7 wSrc x.src x.srcBits).nums u → Q .normal (putsD rl5_D y a0) (w'.setCell ⟨p3, 4, none⟩ v')) : (Code.region id rl5_ops.toArray true).wp Tryd.prog Q a0 w0 := by
  have hDs : ∀ d ∈ rl5_D, d < a0.tmps.size := fun d hd => by
    have : d < 105 := by
      revert hd; unfold rl5_D; intro hd
      simp only [List.mem_cons, List.not_mem_nil, or_false] at hd
      omega
    omega
  have fr : ∀ W, (Instr.fieldAt 55 (.pointer (some ⟨p3, 0, none⟩)) 3).run Tryd.prog W = .ok (.pointer (some ⟨p3, 4, none⟩)) W := fun W => by simp [go_sem]
  have fe1 : ∀ W, (Instr.fieldAt 45 (.pointer (some ⟨p1, 0, none⟩)) 2).run Tryd.prog W = .ok (.pointer (some ⟨p1, 2, none⟩)) W := fun W => by simp [go_sem]
  have fe2 : ∀ W, (Instr.fieldAt 45 (.pointer (some ⟨p1, 0, none⟩)) 3).run Tryd.prog W = .ok (.pointer (some ⟨p1, 3, none⟩)) W := fun W => by simp [go_sem]
  have cf : ∀ vs W, (callFunc 33 vs).run Tryd.prog W = .ok (.enter 33 vs) W := fun vs W => by have hf := Tryd.func33; simp [go_sem]
  have K0 : KeptW B p1 p3 x cs P w0 w0 := ⟨Below.refl _ _, hp1, hp3, hrow.2⟩
  have frm : ∀ (b : Bool) (w : World), (if b then KeptW B p1 p3 x cs P w0 w else Below w0.heap.size w0 w) → KeptW B p1 p3 x cs P w0 w := fun b w h => by
    cases b with
    | true => exact h
    | false => exact K0.stays hB h
  refine region_mid 10 8 (rl5_V p1 p3 B w0.heap.size x vv P) (fun b w => if b then KeptW B p1 p3 x cs P w0 w else Below w0.heap.size w0 w) rl5_D (by kernel_rfl) (by decide) rfl (by kernel_rfl) (by decide) hDs (by kernel_rfl) (by kernel_rfl) (rl5_mono p1 p3 B w0.heap.size x vv P) ?_ ?_ ?_ ?_ ?_
  · intro b w w' h hb
    cases b with
    | true => exact KeptW.stays hB h hb
    | false => exact Below.trans h (hb.mono (Below.size h))
  · exact (Below.refl _ _).drew
  · intro i o ho hi him b a w h
    have kw := frm b w h.wld
    have e1 : a.eval (.tmp 1) = .pointer (some ⟨p1, 0, none⟩) := (h.other 1 (by decide)).trans h1
    have e3 : a.eval (.tmp 3) = .pointer (some ⟨p3, 0, none⟩) := (h.other 3 (by decide)).trans h3
    have c3 : w.cell? ⟨p3, 4, none⟩ = some vv := by rw [cell_of_row _ _ _ _ _ _ kw.raw]; exact hcs
    have cv1 : w.cell? ⟨p1, 2, none⟩ = some (.int .u32 x.src) := by rw [cell_of_row _ _ _ _ _ _ kw.ent]; rfl
    have cv2 : w.cell? ⟨p1, 3, none⟩ = some (.int .i64 x.srcBits) := by rw [cell_of_row _ _ _ _ _ _ kw.ent]; rfl
    have kwsize : w0.heap.size ≤ w.heap.size := kw.below.size
    rcases (show i = 0 ∨ i = 1 ∨ i = 2 ∨ i = 3 ∨ i = 4 ∨ i = 5 ∨ i = 6 ∨ i = 7 ∨ i = 9 by omega) with rfl | rfl | rfl | rfl | rfl | rfl | rfl | rfl | rfl
    · obtain rfl := Option.some.inj ho
      exact iv_val rfl rfl _ (run_fieldOp rfl _ _ _ ((congrArg (fun y => (Instr.fieldAt 55 y 3).run Tryd.prog w) e3).trans (fr w))) rfl
    · obtain rfl := Option.some.inj ho
      have f0 : a.eval (.tmp 27) = .pointer (some ⟨p3, 4, none⟩) := h.has ⟨0, .data⟩ (by simp) rfl _ 27 rfl rfl
      exact iv_val rfl rfl _ (run_loadOp rfl _ _ _ _ f0 (load_cell (e := 76) Tryd.underlying53 _ _ _ c3)) rfl
    · obtain rfl := Option.some.inj ho
      exact iv_val rfl rfl _ (run_fieldOp rfl _ _ _ ((congrArg (fun y => (Instr.fieldAt 45 y 2).run Tryd.prog w) e1).trans (fe1 w))) rfl
    · obtain rfl := Option.some.inj ho
      have f0 : a.eval (.tmp 29) = .pointer (some ⟨p1, 2, none⟩) := h.has ⟨2, .data⟩ (by simp) rfl _ 29 rfl rfl
      exact iv_val rfl rfl _ (run_loadOp rfl _ _ _ _ f0 (load_u32 _ _ _ cv1)) rfl
    · obtain rfl := Option.some.inj ho
      exact iv_val rfl rfl _ (run_fieldOp rfl _ _ _ ((congrArg (fun y => (Instr.fieldAt 45 y 3).run Tryd.prog w) e1).trans (fe2 w))) rfl
    · obtain rfl := Option.some.inj ho
      have f0 : a.eval (.tmp 31) = .pointer (some ⟨p1, 3, none⟩) := h.has ⟨4, .data⟩ (by simp) rfl _ 31 rfl rfl
      exact iv_val rfl rfl _ (run_loadOp rfl _ _ _ _ f0 (load_int _ _ _ cv2)) rfl
    · obtain rfl := Option.some.inj ho
      have g1 : a.eval (.tmp 30) = .int .u32 x.src := h.has ⟨3, .data⟩ (by simp) rfl _ 30 rfl rfl
      have g2 : a.eval (.tmp 32) = .int .i64 x.srcBits := h.has ⟨5, .data⟩ (by simp) rfl _ 32 rfl rfl
      refine iv_call rfl rfl 33 #[.string ⟨(wSrc).toArray⟩, .int .u32 x.src, .int .i64 x.srcBits] (run_callOps rfl cf _ _ _ (by simp only [List.map_toArray, List.map_cons, List.map_nil, g1, g2]; rfl)) ((raddr_any wSrc x.src x.srcBits hx.1.1 hx.1.2 w).mono fun e w' h => ?_)
      obtain ⟨⟨u, r1, r2, r3⟩, r4⟩ := h
      exact ⟨_, r1, r4, u, rfl, gown_base r2 (Nat.le_trans hB kwsize), r3⟩
    · obtain rfl := Option.some.inj ho
      obtain ⟨u, g1, g2, g3⟩ : ∃ u, a.eval (.tmp 33) = .agg (claV (addrC7 wSrc x.src x.srcBits) u) ∧ FigsOwn B w (addrC7 wSrc x.src x.srcBits).nums u ∧ ∃ o n m, u = .slice o n m := h.has ⟨6, .data⟩ (by simp) rfl _ 33 rfl rfl
      refine iv_list rfl ?_
      refine wl_buildE (E := ClaE) ClaOk rfl _ rfl (claV (addrC7 wSrc x.src x.srcBits) u) rfl g1 ?_
      exact ⟨_, rfl, (Below.refl _ _).alloc (Nat.le_refl _) _, fun _ _ => ⟨u, _, rfl, kwsize, heap_new _ _ _ rfl, gown_below g2 ((Below.refl _ _).alloc (Nat.le_refl _) _), g3⟩⟩
    · obtain rfl := Option.some.inj ho
      exact iv_val rfl rfl _ (run_fieldOp rfl _ _ _ ((congrArg (fun y => (Instr.fieldAt 55 y 3).run Tryd.prog w) e3).trans (fr w))) rfl
  · intro o ho a w h
    obtain rfl := Option.some.inj ho
    have hb : Below w0.heap.size w0 w := h.wld
    have kw := frm false w hb
    have g1 : a.eval (.tmp 28) = vv := h.has ⟨1, .data⟩ (by simp) rfl _ 28 rfl rfl
    obtain ⟨u, g, g2, g3, g4, g5, g6⟩ : ∃ u g, a.eval (.tmp 34) = .slice (some ⟨g, 0, none⟩) 1 1 ∧ w0.heap.size ≤ g ∧ w.heap[g]? = some (.cells (claV (addrC7 wSrc x.src x.srcBits) u) 76 (0, 0)) ∧ FigsOwn B w (addrC7 wSrc x.src x.srcBits).nums u ∧ ∃ o n m, u = .slice o n m := h.has ⟨7, .data⟩ (by simp) rfl _ 34 rfl rfl
    have hown : w.ownsRow B 76 5 vv P.length (gcells claP2 P) := gown_below hrow.1 hb
    refine wpOp_of_list rfl ?_
    refine wl_appendE (E := ClaE) ClaOk claP2 rfl _ _ rfl B vv P ((addrC7 wSrc x.src x.srcBits), u) (cla_fits _ _ g6) g1 hown g 1 g2 g4 (by omega) (Nat.le_trans hB hb.size) ?_
    intro v' w3 hown3 hgr3 _
    have ap : ∀ (F : List Fig) (z : Value), FigsOwn B w F z → FigsOwn B w3 F z := fun F z hz => own_grown hgr3 hz (fun k hk => own_apart hown hz (by decide) k hk)
    have k3 : KeptW B p1 p3 x cs P w0 w3 := ⟨kw.below.trans ((Below.refl _ _).grown hgr3 (Nat.le_trans hB hb.size) fun k hk => (hown.lt k hk).1), (hgr3.block p1 (Array.getElem?_eq_some_iff.1 kw.ent).1 (fun hq => row_apart hown kw.ent (by decide) hq.symm)).trans kw.ent, (hgr3.block p3 (Array.getElem?_eq_some_iff.1 kw.raw).1 (fun hq => row_apart hown kw.raw (by decide) hq.symm)).trans kw.raw, fun q hq => ap _ _ (kw.figs q hq)⟩
    refine ⟨v', rfl, k3, ?_, fun _ _ => ⟨u, hown3, ap _ _ g5⟩⟩
    intro j z hj
    unfold rl5_V
    split <;> intro hz <;> first
      | exact hz
      | exact absurd rfl hj
      | (obtain ⟨u, q1, q2, q3⟩ := hz
         exact ⟨u, q1, ap _ _ q2, q3⟩)
      | (obtain ⟨u, k, q1, q2, q3, q4, q5⟩ := hz
         exact ⟨u, k, q1, q2, (hgr3.block k (Array.getElem?_eq_some_iff.1 q3).1 (fun hq => by have := (hrow.1.lt k hq.symm).2; omega)).trans q3, ap _ _ q4, q5⟩)
  · intro a w hI hsz hdf hot hh
    have kw : KeptW B p1 p3 x cs P w0 w := hI
    have hv8 : rl5_V p1 p3 B w0.heap.size x vv P 8 (a.eval (.tmp 35)) w := hh 8 _ 35 (by decide) rfl rfl
    obtain ⟨u, q1, q2⟩ := hv8
    have q3 : a.eval (.tmp 36) = .pointer (some ⟨p3, 4, none⟩) := hh 9 _ 36 (by decide) rfl rfl
    obtain ⟨v', hv'⟩ : ∃ v', a.eval (.tmp 35) = v' := ⟨_, rfl⟩
    rw [hv'] at q1
    obtain ⟨o3, cap3, hv3⟩ := gown_slice q1
    have c3 : w.cell? ⟨p3, 4, none⟩ = some vv := by rw [cell_of_row _ _ _ _ _ _ kw.raw]; exact hcs
    have hst : (Instr.storeAt 53 (.pointer (some ⟨p3, 4, none⟩)) v').run Tryd.prog w = .ok () (w.setCell ⟨p3, 4, none⟩ v') := store_cell (ty := 53) (fun W => Tryd.sizeOf53 W) w ⟨p3, 4, none⟩ v' vv ⟨o3, _, cap3, hv3⟩ c3 (tc_frozen kw.raw rfl)
    refine wpOp_skip0 (w' := w.setCell ⟨p3, 4, none⟩ v') rfl rfl (run_storeOp rfl _ _ _ _ _ q3 hv' hst) rfl ?_
    show Q .normal a (w.setCell ⟨p3, 4, none⟩ v')
    rw [puts_form hsz hdf hot hDs]
    exact hK _ w v' u kw q1 q2

def rl7_ops : List Oper := [
  { dst := some 45, op := .fieldAddr 55 (.tmp 3) 3, type := 0, pos := "ref.go:244", after := #[], guard := none },
  { dst := some 46, op := .load 53 (.tmp 45), type := 53, pos := "ref.go:244", after := #[{ on := 0, ground := .data }], guard := none },
  { dst := some 47, op := .fieldAddr 45 (.tmp 1) 4, type := 0, pos := "ref.go:244", after := #[], guard := none },
  { dst := some 48, op := .load 43 (.tmp 47), type := 43, pos := "ref.go:244", after := #[{ on := 2, ground := .data }], guard := none },
  { dst := some 49, op := .fieldAddr 45 (.tmp 1) 5, type := 0, pos := "ref.go:244", after := #[], guard := none },
  { dst := some 50, op := .load 3 (.tmp 49), type := 3, pos := "ref.go:244", after := #[{ on := 4, ground := .data }], guard := none },
  { dst := some 51, op := .call { callee := .value (.func 33), args := #[.const (.string { data := #[100, 115, 116] }), .tmp 48, .tmp 50], argTypes := #[9, 43, 3] }, type := 76, pos := "ref.go:244", after := #[{ on := 3, ground := .data }, { on := 5, ground := .data }], guard := none },
  { dst := some 52, op := .buildSlice 53 1 #[(0, .tmp 51)], type := 53, pos := "ref.go:244", after := #[{ on := 6, ground := .data }], guard := none },
  { dst := some 53, op := .call { callee := .builtin .append, args := #[.tmp 46, .tmp 52], argTypes := #[53, 53] }, type := 53, pos := "ref.go:244", after := #[{ on := 1, ground := .data }, { on := 7, ground := .data }, { on := 6, ground := .chain }], guard := none },
  { dst := some 54, op := .fieldAddr 55 (.tmp 3) 3, type := 0, pos := "ref.go:244", after := #[{ on := 0, ground := .phase }, { on := 1, ground := .phase }, { on := 2, ground := .phase }, { on := 3, ground := .phase }, { on := 4, ground := .phase }, { on := 5, ground := .phase }, { on := 6, ground := .phase }, { on := 7, ground := .phase }, { on := 8, ground := .phase }], guard := none },
  { dst := none, op := .store 53 (.tmp 54) (.tmp 53), type := 0, pos := "ref.go:244", after := #[{ on := 9, ground := .data }, { on := 8, ground := .data }, { on := 8, ground := .chain }, { on := 0, ground := .phase }, { on := 1, ground := .phase }, { on := 2, ground := .phase }, { on := 3, ground := .phase }, { on := 4, ground := .phase }, { on := 5, ground := .phase }, { on := 6, ground := .phase }, { on := 7, ground := .phase }, { on := 8, ground := .phase }], guard := none }]
def rl7_D : List Nat := [45, 46, 47, 48, 49, 50, 51, 52, 53, 54]
def rl7_V (p1 p3 B H : Nat) (x : Ent) (vv : Value) (P : List (Cla × Value)) (i : Nat) (v : Value) (w : World) : Prop :=
  match i with
  | 0 => v = .pointer (some ⟨p3, 4, none⟩)
  | 1 => v = vv
  | 2 => v = .pointer (some ⟨p1, 4, none⟩)
  | 3 => v = .int .u32 x.dst
  | 4 => v = .pointer (some ⟨p1, 5, none⟩)
  | 5 => v = .int .i64 x.dstBits
  | 6 => ∃ u, v = .agg (claV (addrC7 wDst x.dst x.dstBits) u) ∧ FigsOwn B w (addrC7 wDst x.dst x.dstBits).nums u ∧ ∃ o n m, u = .slice o n m
  | 7 => ∃ u g, v = .slice (some ⟨g, 0, none⟩) 1 1 ∧ H ≤ g ∧ w.heap[g]? = some (.cells (claV (addrC7 wDst x.dst x.dstBits) u) 76 (0, 0)) ∧ FigsOwn B w (addrC7 wDst x.dst x.dstBits).nums u ∧ ∃ o n m, u = .slice o n m
  | 8 => ∃ u, w.ownsRow B 76 5 v (P ++ [((addrC7 wDst x.dst x.dstBits), u)]).length (gcells claP2 (P ++ [((addrC7 wDst x.dst x.dstBits), u)])) ∧ FigsOwn B w (addrC7 wDst x.dst x.dstBits).nums u
  | 9 => v = .pointer (some ⟨p3, 4, none⟩)
  | _ => True
theorem rl7_mono (p1 p3 B H : Nat) (x : Ent) (vv : Value) (P : List (Cla × Value)) : ∀ j v w w', rl7_V p1 p3 B H x vv P j v w → Below w.heap.size w w' → rl7_V p1 p3 B H x vv P j v w' := by
  intro j v w w' h hb
  revert h
  unfold rl7_V
  split <;> intro h <;> first
    | exact h
    | (obtain ⟨u, h1, h2, h3⟩ := h
       exact ⟨u, h1, gown_below h2 hb, h3⟩)
    | (obtain ⟨u, g, h1, h2, h3, h4, h5⟩ := h
       exact ⟨u, g, h1, h2, (hb.block g (Array.getElem?_eq_some_iff.1 h3).1).trans h3, gown_below h4 hb, h5⟩)
    | (obtain ⟨u, h1, h2⟩ := h
       exact ⟨u, gown_below h1 hb, gown_below h2 hb⟩)

set_option maxHeartbeats 4000000 in
theorem rl7_region {id : Nat} {Q : Exit → Act → World → Prop} {a0 : Act} {w0 : World} (hs : 105 ≤ a0.tmps.size) (p1 p3 B : Nat) (x : Ent) (hx : ent32 x) (vv : Value) (cs : Array Value) (P : List (Cla × Value)) (h1 : a0.eval (.tmp 1) = .pointer (some ⟨p1, 0, none⟩)) (h3 : a0.eval (.tmp 3) = .pointer (some ⟨p3, 0, none⟩))
    (hp1 : w0.heap[p1]? = some (.cells (entV x) 45 (0, 0))) (hp3 : w0.heap[p3]? = some (.cells cs 55 (0, 0))) (hcs : cs[4]? = some vv) (hB : B ≤ w0.heap.size) (hrow : RowW B w0 vv P) (hlen : P.length ≤ 100000)
    (hK : ∀ y w' v' u, KeptW B p1 p3 x cs P w0 w' → w'.ownsRow B 76 5 v' (P ++ [((addrC7 wDst x.dst x.dstBits), u)]).length (gcells claP2 (P ++ [((addrC7 wDst x.dst x.dstBits), u)])) → FigsOwn B w' (addrC7 wDst x.dst x.dstBits).nums u → Q .normal (putsD rl7_D y a0) (w'.setCell ⟨p3, 4, none⟩ v')) : (Code.region id rl7_ops.toArray true).wp Tryd.prog Q a0 w0 := by
  have hDs : ∀ d ∈ rl7_D, d < a0.tmps.size := fun d hd => by
    have : d < 105 := by
      revert hd; unfold rl7_D; intro hd
      simp only [List.mem_cons, List.not_mem_nil, or_false] at hd
      omega
    omega
  have fr : ∀ W, (Instr.fieldAt 55 (.pointer (some ⟨p3, 0, none⟩)) 3).run Tryd.prog W = .ok (.pointer (some ⟨p3, 4, none⟩)) W := fun W => by simp [go_sem]
  have fe1 : ∀ W, (Instr.fieldAt 45 (.pointer (some ⟨p1, 0, none⟩)) 4).run Tryd.prog W = .ok (.pointer (some ⟨p1, 4, none⟩)) W := fun W => by simp [go_sem]
  have fe2 : ∀ W, (Instr.fieldAt 45 (.pointer (some ⟨p1, 0, none⟩)) 5).run Tryd.prog W = .ok (.pointer (some ⟨p1, 5, none⟩)) W := fun W => by simp [go_sem]
  have cf : ∀ vs W, (callFunc 33 vs).run Tryd.prog W = .ok (.enter 33 vs) W := fun vs W => by have hf := Tryd.func33; simp [go_sem]
  have K0 : KeptW B p1 p3 x cs P w0 w0 := ⟨Below.refl _ _, hp1, hp3, hrow.2⟩
  have frm : ∀ (b : Bool) (w : World), (if b then KeptW B p1 p3 x cs P w0 w else Below w0.heap.size w0 w) → KeptW B p1 p3 x cs P w0 w := fun b w h => by
    cases b with
    | true => exact h
    | false => exact K0.stays hB h
  refine region_mid 10 8 (rl7_V p1 p3 B w0.heap.size x vv P) (fun b w => if b then KeptW B p1 p3 x cs P w0 w else Below w0.heap.size w0 w) rl7_D (by kernel_rfl) (by decide) rfl (by kernel_rfl) (by decide) hDs (by kernel_rfl) (by kernel_rfl) (rl7_mono p1 p3 B w0.heap.size x vv P) ?_ ?_ ?_ ?_ ?_
  · intro b w w' h hb
    cases b with
    | true => exact KeptW.stays hB h hb
    | false => exact Below.trans h (hb.mono (Below.size h))
  · exact (Below.refl _ _).drew
  · intro i o ho hi him b a w h
    have kw := frm b w h.wld
    have e1 : a.eval (.tmp 1) = .pointer (some ⟨p1, 0, none⟩) := (h.other 1 (by decide)).trans h1
    have e3 : a.eval (.tmp 3) = .pointer (some ⟨p3, 0, none⟩) := (h.other 3 (by decide)).trans h3
    have c3 : w.cell? ⟨p3, 4, none⟩ = some vv := by rw [cell_of_row _ _ _ _ _ _ kw.raw]; exact hcs
    have cv1 : w.cell? ⟨p1, 4, none⟩ = some (.int .u32 x.dst) := by rw [cell_of_row _ _ _ _ _ _ kw.ent]; rfl
    have cv2 : w.cell? ⟨p1, 5, none⟩ = some (.int .i64 x.dstBits) := by rw [cell_of_row _ _ _ _ _ _ kw.ent]; rfl
    have kwsize : w0.heap.size ≤ w.heap.size := kw.below.size
    rcases (show i = 0 ∨ i = 1 ∨ i = 2 ∨ i = 3 ∨ i = 4 ∨ i = 5 ∨ i = 6 ∨ i = 7 ∨ i = 9 by omega) with rfl | rfl | rfl | rfl | rfl | rfl | rfl | rfl | rfl
    · obtain rfl := Option.some.inj ho
      exact iv_val rfl rfl _ (run_fieldOp rfl _ _ _ ((congrArg (fun y => (Instr.fieldAt 55 y 3).run Tryd.prog w) e3).trans (fr w))) rfl
    · obtain rfl := Option.some.inj ho
      have f0 : a.eval (.tmp 45) = .pointer (some ⟨p3, 4, none⟩) := h.has ⟨0, .data⟩ (by simp) rfl _ 45 rfl rfl
      exact iv_val rfl rfl _ (run_loadOp rfl _ _ _ _ f0 (load_cell (e := 76) Tryd.underlying53 _ _ _ c3)) rfl
    · obtain rfl := Option.some.inj ho
      exact iv_val rfl rfl _ (run_fieldOp rfl _ _ _ ((congrArg (fun y => (Instr.fieldAt 45 y 4).run Tryd.prog w) e1).trans (fe1 w))) rfl
    · obtain rfl := Option.some.inj ho
      have f0 : a.eval (.tmp 47) = .pointer (some ⟨p1, 4, none⟩) := h.has ⟨2, .data⟩ (by simp) rfl _ 47 rfl rfl
      exact iv_val rfl rfl _ (run_loadOp rfl _ _ _ _ f0 (load_u32 _ _ _ cv1)) rfl
    · obtain rfl := Option.some.inj ho
      exact iv_val rfl rfl _ (run_fieldOp rfl _ _ _ ((congrArg (fun y => (Instr.fieldAt 45 y 5).run Tryd.prog w) e1).trans (fe2 w))) rfl
    · obtain rfl := Option.some.inj ho
      have f0 : a.eval (.tmp 49) = .pointer (some ⟨p1, 5, none⟩) := h.has ⟨4, .data⟩ (by simp) rfl _ 49 rfl rfl
      exact iv_val rfl rfl _ (run_loadOp rfl _ _ _ _ f0 (load_int _ _ _ cv2)) rfl
    · obtain rfl := Option.some.inj ho
      have g1 : a.eval (.tmp 48) = .int .u32 x.dst := h.has ⟨3, .data⟩ (by simp) rfl _ 48 rfl rfl
      have g2 : a.eval (.tmp 50) = .int .i64 x.dstBits := h.has ⟨5, .data⟩ (by simp) rfl _ 50 rfl rfl
      refine iv_call rfl rfl 33 #[.string ⟨(wDst).toArray⟩, .int .u32 x.dst, .int .i64 x.dstBits] (run_callOps rfl cf _ _ _ (by simp only [List.map_toArray, List.map_cons, List.map_nil, g1, g2]; rfl)) ((raddr_any wDst x.dst x.dstBits hx.2.1 hx.2.2 w).mono fun e w' h => ?_)
      obtain ⟨⟨u, r1, r2, r3⟩, r4⟩ := h
      exact ⟨_, r1, r4, u, rfl, gown_base r2 (Nat.le_trans hB kwsize), r3⟩
    · obtain rfl := Option.some.inj ho
      obtain ⟨u, g1, g2, g3⟩ : ∃ u, a.eval (.tmp 51) = .agg (claV (addrC7 wDst x.dst x.dstBits) u) ∧ FigsOwn B w (addrC7 wDst x.dst x.dstBits).nums u ∧ ∃ o n m, u = .slice o n m := h.has ⟨6, .data⟩ (by simp) rfl _ 51 rfl rfl
      refine iv_list rfl ?_
      refine wl_buildE (E := ClaE) ClaOk rfl _ rfl (claV (addrC7 wDst x.dst x.dstBits) u) rfl g1 ?_
      exact ⟨_, rfl, (Below.refl _ _).alloc (Nat.le_refl _) _, fun _ _ => ⟨u, _, rfl, kwsize, heap_new _ _ _ rfl, gown_below g2 ((Below.refl _ _).alloc (Nat.le_refl _) _), g3⟩⟩
    · obtain rfl := Option.some.inj ho
      exact iv_val rfl rfl _ (run_fieldOp rfl _ _ _ ((congrArg (fun y => (Instr.fieldAt 55 y 3).run Tryd.prog w) e3).trans (fr w))) rfl
  · intro o ho a w h
    obtain rfl := Option.some.inj ho
    have hb : Below w0.heap.size w0 w := h.wld
    have kw := frm false w hb
    have g1 : a.eval (.tmp 46) = vv := h.has ⟨1, .data⟩ (by simp) rfl _ 46 rfl rfl
    obtain ⟨u, g, g2, g3, g4, g5, g6⟩ : ∃ u g, a.eval (.tmp 52) = .slice (some ⟨g, 0, none⟩) 1 1 ∧ w0.heap.size ≤ g ∧ w.heap[g]? = some (.cells (claV (addrC7 wDst x.dst x.dstBits) u) 76 (0, 0)) ∧ FigsOwn B w (addrC7 wDst x.dst x.dstBits).nums u ∧ ∃ o n m, u = .slice o n m := h.has ⟨7, .data⟩ (by simp) rfl _ 52 rfl rfl
    have hown : w.ownsRow B 76 5 vv P.length (gcells claP2 P) := gown_below hrow.1 hb
    refine wpOp_of_list rfl ?_
    refine wl_appendE (E := ClaE) ClaOk claP2 rfl _ _ rfl B vv P ((addrC7 wDst x.dst x.dstBits), u) (cla_fits _ _ g6) g1 hown g 1 g2 g4 (by omega) (Nat.le_trans hB hb.size) ?_
    intro v' w3 hown3 hgr3 _
    have ap : ∀ (F : List Fig) (z : Value), FigsOwn B w F z → FigsOwn B w3 F z := fun F z hz => own_grown hgr3 hz (fun k hk => own_apart hown hz (by decide) k hk)
    have k3 : KeptW B p1 p3 x cs P w0 w3 := ⟨kw.below.trans ((Below.refl _ _).grown hgr3 (Nat.le_trans hB hb.size) fun k hk => (hown.lt k hk).1), (hgr3.block p1 (Array.getElem?_eq_some_iff.1 kw.ent).1 (fun hq => row_apart hown kw.ent (by decide) hq.symm)).trans kw.ent, (hgr3.block p3 (Array.getElem?_eq_some_iff.1 kw.raw).1 (fun hq => row_apart hown kw.raw (by decide) hq.symm)).trans kw.raw, fun q hq => ap _ _ (kw.figs q hq)⟩
    refine ⟨v', rfl, k3, ?_, fun _ _ => ⟨u, hown3, ap _ _ g5⟩⟩
    intro j z hj
    unfold rl7_V
    split <;> intro hz <;> first
      | exact hz
      | exact absurd rfl hj
      | (obtain ⟨u, q1, q2, q3⟩ := hz
         exact ⟨u, q1, ap _ _ q2, q3⟩)
      | (obtain ⟨u, k, q1, q2, q3, q4, q5⟩ := hz
         exact ⟨u, k, q1, q2, (hgr3.block k (Array.getElem?_eq_some_iff.1 q3).1 (fun hq => by have := (hrow.1.lt k hq.symm).2; omega)).trans q3, ap _ _ q4, q5⟩)
  · intro a w hI hsz hdf hot hh
    have kw : KeptW B p1 p3 x cs P w0 w := hI
    have hv8 : rl7_V p1 p3 B w0.heap.size x vv P 8 (a.eval (.tmp 53)) w := hh 8 _ 53 (by decide) rfl rfl
    obtain ⟨u, q1, q2⟩ := hv8
    have q3 : a.eval (.tmp 54) = .pointer (some ⟨p3, 4, none⟩) := hh 9 _ 54 (by decide) rfl rfl
    obtain ⟨v', hv'⟩ : ∃ v', a.eval (.tmp 53) = v' := ⟨_, rfl⟩
    rw [hv'] at q1
    obtain ⟨o3, cap3, hv3⟩ := gown_slice q1
    have c3 : w.cell? ⟨p3, 4, none⟩ = some vv := by rw [cell_of_row _ _ _ _ _ _ kw.raw]; exact hcs
    have hst : (Instr.storeAt 53 (.pointer (some ⟨p3, 4, none⟩)) v').run Tryd.prog w = .ok () (w.setCell ⟨p3, 4, none⟩ v') := store_cell (ty := 53) (fun W => Tryd.sizeOf53 W) w ⟨p3, 4, none⟩ v' vv ⟨o3, _, cap3, hv3⟩ c3 (tc_frozen kw.raw rfl)
    refine wpOp_skip0 (w' := w.setCell ⟨p3, 4, none⟩ v') rfl rfl (run_storeOp rfl _ _ _ _ _ q3 hv' hst) rfl ?_
    show Q .normal a (w.setCell ⟨p3, 4, none⟩ v')
    rw [puts_form hsz hdf hot hDs]
    exact hK _ w v' u kw q1 q2

def rl9_ops : List Oper := [
  { dst := some 63, op := .fieldAddr 55 (.tmp 3) 3, type := 0, pos := "ref.go:247", after := #[], guard := none },
  { dst := some 64, op := .load 53 (.tmp 63), type := 53, pos := "ref.go:247", after := #[{ on := 0, ground := .data }], guard := none },
  { dst := some 65, op := .fieldAddr 45 (.tmp 1) 6, type := 0, pos := "ref.go:247", after := #[], guard := none },
  { dst := some 66, op := .load 3 (.tmp 65), type := 3, pos := "ref.go:247", after := #[{ on := 2, ground := .data }], guard := none },
  { dst := some 67, op := .fieldAddr 45 (.tmp 1) 7, type := 0, pos := "ref.go:247", after := #[], guard := none },
  { dst := some 68, op := .load 3 (.tmp 67), type := 3, pos := "ref.go:247", after := #[{ on := 4, ground := .data }], guard := none },
  { dst := some 69, op := .call { callee := .value (.func 34), args := #[.const (.string { data := #[115, 112, 111, 114, 116] }), .tmp 66, .tmp 68], argTypes := #[9, 3, 3] }, type := 76, pos := "ref.go:247", after := #[{ on := 3, ground := .data }, { on := 5, ground := .data }], guard := none },
  { dst := some 70, op := .buildSlice 53 1 #[(0, .tmp 69)], type := 53, pos := "ref.go:247", after := #[{ on := 6, ground := .data }], guard := none },
  { dst := some 71, op := .call { callee := .builtin .append, args := #[.tmp 64, .tmp 70], argTypes := #[53, 53] }, type := 53, pos := "ref.go:247", after := #[{ on := 1, ground := .data }, { on := 7, ground := .data }, { on := 6, ground := .chain }], guard := none },
  { dst := some 72, op := .fieldAddr 55 (.tmp 3) 3, type := 0, pos := "ref.go:247", after := #[{ on := 0, ground := .phase }, { on := 1, ground := .phase }, { on := 2, ground := .phase }, { on := 3, ground := .phase }, { on := 4, ground := .phase }, { on := 5, ground := .phase }, { on := 6, ground := .phase }, { on := 7, ground := .phase }, { on := 8, ground := .phase }], guard := none },
  { dst := none, op := .store 53 (.tmp 72) (.tmp 71), type := 0, pos := "ref.go:247", after := #[{ on := 9, ground := .data }, { on := 8, ground := .data }, { on := 8, ground := .chain }, { on := 0, ground := .phase }, { on := 1, ground := .phase }, { on := 2, ground := .phase }, { on := 3, ground := .phase }, { on := 4, ground := .phase }, { on := 5, ground := .phase }, { on := 6, ground := .phase }, { on := 7, ground := .phase }, { on := 8, ground := .phase }], guard := none }]
def rl9_D : List Nat := [63, 64, 65, 66, 67, 68, 69, 70, 71, 72]
def rl9_V (p1 p3 B H : Nat) (x : Ent) (vv : Value) (P : List (Cla × Value)) (i : Nat) (v : Value) (w : World) : Prop :=
  match i with
  | 0 => v = .pointer (some ⟨p3, 4, none⟩)
  | 1 => v = vv
  | 2 => v = .pointer (some ⟨p1, 6, none⟩)
  | 3 => v = .int .i64 x.slow
  | 4 => v = .pointer (some ⟨p1, 7, none⟩)
  | 5 => v = .int .i64 x.shigh
  | 6 => ∃ u, v = .agg (claV (portC7 wSport x.slow x.shigh) u) ∧ FigsOwn B w (portC7 wSport x.slow x.shigh).nums u ∧ ∃ o n m, u = .slice o n m
  | 7 => ∃ u g, v = .slice (some ⟨g, 0, none⟩) 1 1 ∧ H ≤ g ∧ w.heap[g]? = some (.cells (claV (portC7 wSport x.slow x.shigh) u) 76 (0, 0)) ∧ FigsOwn B w (portC7 wSport x.slow x.shigh).nums u ∧ ∃ o n m, u = .slice o n m
  | 8 => ∃ u, w.ownsRow B 76 5 v (P ++ [((portC7 wSport x.slow x.shigh), u)]).length (gcells claP2 (P ++ [((portC7 wSport x.slow x.shigh), u)])) ∧ FigsOwn B w (portC7 wSport x.slow x.shigh).nums u
  | 9 => v = .pointer (some ⟨p3, 4, none⟩)
  | _ => True
theorem rl9_mono (p1 p3 B H : Nat) (x : Ent) (vv : Value) (P : List (Cla × Value)) : ∀ j v w w', rl9_V p1 p3 B H x vv P j v w → Below w.heap.size w w' → rl9_V p1 p3 B H x vv P j v w' := by
  intro j v w w' h hb
  revert h
  unfold rl9_V
  split <;> intro h <;> first
    | exact h
    | (obtain ⟨u, h1, h2, h3⟩ := h
       exact ⟨u, h1, gown_below h2 hb, h3⟩)
    | (obtain ⟨u, g, h1, h2, h3, h4, h5⟩ := h
       exact ⟨u, g, h1, h2, (hb.block g (Array.getElem?_eq_some_iff.1 h3).1).trans h3, gown_below h4 hb, h5⟩)
    | (obtain ⟨u, h1, h2⟩ := h
       exact ⟨u, gown_below h1 hb, gown_below h2 hb⟩)

set_option maxHeartbeats 4000000 in
theorem rl9_region {id : Nat} {Q : Exit → Act → World → Prop} {a0 : Act} {w0 : World} (hs : 105 ≤ a0.tmps.size) (p1 p3 B : Nat) (x : Ent) (_hx : ent32 x) (vv : Value) (cs : Array Value) (P : List (Cla × Value)) (h1 : a0.eval (.tmp 1) = .pointer (some ⟨p1, 0, none⟩)) (h3 : a0.eval (.tmp 3) = .pointer (some ⟨p3, 0, none⟩))
    (hp1 : w0.heap[p1]? = some (.cells (entV x) 45 (0, 0))) (hp3 : w0.heap[p3]? = some (.cells cs 55 (0, 0))) (hcs : cs[4]? = some vv) (hB : B ≤ w0.heap.size) (hrow : RowW B w0 vv P) (hlen : P.length ≤ 100000)
    (hK : ∀ y w' v' u, KeptW B p1 p3 x cs P w0 w' → w'.ownsRow B 76 5 v' (P ++ [((portC7 wSport x.slow x.shigh), u)]).length (gcells claP2 (P ++ [((portC7 wSport x.slow x.shigh), u)])) → FigsOwn B w' (portC7 wSport x.slow x.shigh).nums u → Q .normal (putsD rl9_D y a0) (w'.setCell ⟨p3, 4, none⟩ v')) : (Code.region id rl9_ops.toArray true).wp Tryd.prog Q a0 w0 := by
  have hDs : ∀ d ∈ rl9_D, d < a0.tmps.size := fun d hd => by
    have : d < 105 := by
      revert hd; unfold rl9_D; intro hd
      simp only [List.mem_cons, List.not_mem_nil, or_false] at hd
      omega
    omega
  have fr : ∀ W, (Instr.fieldAt 55 (.pointer (some ⟨p3, 0, none⟩)) 3).run Tryd.prog W = .ok (.pointer (some ⟨p3, 4, none⟩)) W := fun W => by simp [go_sem]
  have fe1 : ∀ W, (Instr.fieldAt 45 (.pointer (some ⟨p1, 0, none⟩)) 6).run Tryd.prog W = .ok (.pointer (some ⟨p1, 6, none⟩)) W := fun W => by simp [go_sem]
  have fe2 : ∀ W, (Instr.fieldAt 45 (.pointer (some ⟨p1, 0, none⟩)) 7).run Tryd.prog W = .ok (.pointer (some ⟨p1, 7, none⟩)) W := fun W => by simp [go_sem]
  have cf : ∀ vs W, (callFunc 34 vs).run Tryd.prog W = .ok (.enter 34 vs) W := fun vs W => by have hf := Tryd.func34; simp [go_sem]
  have K0 : KeptW B p1 p3 x cs P w0 w0 := ⟨Below.refl _ _, hp1, hp3, hrow.2⟩
  have frm : ∀ (b : Bool) (w : World), (if b then KeptW B p1 p3 x cs P w0 w else Below w0.heap.size w0 w) → KeptW B p1 p3 x cs P w0 w := fun b w h => by
    cases b with
    | true => exact h
    | false => exact K0.stays hB h
  refine region_mid 10 8 (rl9_V p1 p3 B w0.heap.size x vv P) (fun b w => if b then KeptW B p1 p3 x cs P w0 w else Below w0.heap.size w0 w) rl9_D (by kernel_rfl) (by decide) rfl (by kernel_rfl) (by decide) hDs (by kernel_rfl) (by kernel_rfl) (rl9_mono p1 p3 B w0.heap.size x vv P) ?_ ?_ ?_ ?_ ?_
  · intro b w w' h hb
    cases b with
    | true => exact KeptW.stays hB h hb
    | false => exact Below.trans h (hb.mono (Below.size h))
  · exact (Below.refl _ _).drew
  · intro i o ho hi him b a w h
    have kw := frm b w h.wld
    have e1 : a.eval (.tmp 1) = .pointer (some ⟨p1, 0, none⟩) := (h.other 1 (by decide)).trans h1
    have e3 : a.eval (.tmp 3) = .pointer (some ⟨p3, 0, none⟩) := (h.other 3 (by decide)).trans h3
    have c3 : w.cell? ⟨p3, 4, none⟩ = some vv := by rw [cell_of_row _ _ _ _ _ _ kw.raw]; exact hcs
    have cv1 : w.cell? ⟨p1, 6, none⟩ = some (.int .i64 x.slow) := by rw [cell_of_row _ _ _ _ _ _ kw.ent]; rfl
    have cv2 : w.cell? ⟨p1, 7, none⟩ = some (.int .i64 x.shigh) := by rw [cell_of_row _ _ _ _ _ _ kw.ent]; rfl
    have kwsize : w0.heap.size ≤ w.heap.size := kw.below.size
    rcases (show i = 0 ∨ i = 1 ∨ i = 2 ∨ i = 3 ∨ i = 4 ∨ i = 5 ∨ i = 6 ∨ i = 7 ∨ i = 9 by omega) with rfl | rfl | rfl | rfl | rfl | rfl | rfl | rfl | rfl
    · obtain rfl := Option.some.inj ho
      exact iv_val rfl rfl _ (run_fieldOp rfl _ _ _ ((congrArg (fun y => (Instr.fieldAt 55 y 3).run Tryd.prog w) e3).trans (fr w))) rfl
    · obtain rfl := Option.some.inj ho
      have f0 : a.eval (.tmp 63) = .pointer (some ⟨p3, 4, none⟩) := h.has ⟨0, .data⟩ (by simp) rfl _ 63 rfl rfl
      exact iv_val rfl rfl _ (run_loadOp rfl _ _ _ _ f0 (load_cell (e := 76) Tryd.underlying53 _ _ _ c3)) rfl
    · obtain rfl := Option.some.inj ho
      exact iv_val rfl rfl _ (run_fieldOp rfl _ _ _ ((congrArg (fun y => (Instr.fieldAt 45 y 6).run Tryd.prog w) e1).trans (fe1 w))) rfl
    · obtain rfl := Option.some.inj ho
      have f0 : a.eval (.tmp 65) = .pointer (some ⟨p1, 6, none⟩) := h.has ⟨2, .data⟩ (by simp) rfl _ 65 rfl rfl
      exact iv_val rfl rfl _ (run_loadOp rfl _ _ _ _ f0 (load_int _ _ _ cv1)) rfl
    · obtain rfl := Option.some.inj ho
      exact iv_val rfl rfl _ (run_fieldOp rfl _ _ _ ((congrArg (fun y => (Instr.fieldAt 45 y 7).run Tryd.prog w) e1).trans (fe2 w))) rfl
    · obtain rfl := Option.some.inj ho
      have f0 : a.eval (.tmp 67) = .pointer (some ⟨p1, 7, none⟩) := h.has ⟨4, .data⟩ (by simp) rfl _ 67 rfl rfl
      exact iv_val rfl rfl _ (run_loadOp rfl _ _ _ _ f0 (load_int _ _ _ cv2)) rfl
    · obtain rfl := Option.some.inj ho
      have g1 : a.eval (.tmp 66) = .int .i64 x.slow := h.has ⟨3, .data⟩ (by simp) rfl _ 66 rfl rfl
      have g2 : a.eval (.tmp 68) = .int .i64 x.shigh := h.has ⟨5, .data⟩ (by simp) rfl _ 68 rfl rfl
      refine iv_call rfl rfl 34 #[.string ⟨(wSport).toArray⟩, .int .i64 x.slow, .int .i64 x.shigh] (run_callOps rfl cf _ _ _ (by simp only [List.map_toArray, List.map_cons, List.map_nil, g1, g2]; rfl)) ((rports7_any wSport x.slow x.shigh w).mono fun e w' h => ?_)
      obtain ⟨⟨u, r1, r2, r3⟩, r4⟩ := h
      exact ⟨_, r1, r4, u, rfl, gown_base r2 (Nat.le_trans hB kwsize), r3⟩
    · obtain rfl := Option.some.inj ho
      obtain ⟨u, g1, g2, g3⟩ : ∃ u, a.eval (.tmp 69) = .agg (claV (portC7 wSport x.slow x.shigh) u) ∧ FigsOwn B w (portC7 wSport x.slow x.shigh).nums u ∧ ∃ o n m, u = .slice o n m := h.has ⟨6, .data⟩ (by simp) rfl _ 69 rfl rfl
      refine iv_list rfl ?_
      refine wl_buildE (E := ClaE) ClaOk rfl _ rfl (claV (portC7 wSport x.slow x.shigh) u) rfl g1 ?_
      exact ⟨_, rfl, (Below.refl _ _).alloc (Nat.le_refl _) _, fun _ _ => ⟨u, _, rfl, kwsize, heap_new _ _ _ rfl, gown_below g2 ((Below.refl _ _).alloc (Nat.le_refl _) _), g3⟩⟩
    · obtain rfl := Option.some.inj ho
      exact iv_val rfl rfl _ (run_fieldOp rfl _ _ _ ((congrArg (fun y => (Instr.fieldAt 55 y 3).run Tryd.prog w) e3).trans (fr w))) rfl
  · intro o ho a w h
    obtain rfl := Option.some.inj ho
    have hb : Below w0.heap.size w0 w := h.wld
    have kw := frm false w hb
    have g1 : a.eval (.tmp 64) = vv := h.has ⟨1, .data⟩ (by simp) rfl _ 64 rfl rfl
    obtain ⟨u, g, g2, g3, g4, g5, g6⟩ : ∃ u g, a.eval (.tmp 70) = .slice (some ⟨g, 0, none⟩) 1 1 ∧ w0.heap.size ≤ g ∧ w.heap[g]? = some (.cells (claV (portC7 wSport x.slow x.shigh) u) 76 (0, 0)) ∧ FigsOwn B w (portC7 wSport x.slow x.shigh).nums u ∧ ∃ o n m, u = .slice o n m := h.has ⟨7, .data⟩ (by simp) rfl _ 70 rfl rfl
    have hown : w.ownsRow B 76 5 vv P.length (gcells claP2 P) := gown_below hrow.1 hb
    refine wpOp_of_list rfl ?_
    refine wl_appendE (E := ClaE) ClaOk claP2 rfl _ _ rfl B vv P ((portC7 wSport x.slow x.shigh), u) (cla_fits _ _ g6) g1 hown g 1 g2 g4 (by omega) (Nat.le_trans hB hb.size) ?_
    intro v' w3 hown3 hgr3 _
    have ap : ∀ (F : List Fig) (z : Value), FigsOwn B w F z → FigsOwn B w3 F z := fun F z hz => own_grown hgr3 hz (fun k hk => own_apart hown hz (by decide) k hk)
    have k3 : KeptW B p1 p3 x cs P w0 w3 := ⟨kw.below.trans ((Below.refl _ _).grown hgr3 (Nat.le_trans hB hb.size) fun k hk => (hown.lt k hk).1), (hgr3.block p1 (Array.getElem?_eq_some_iff.1 kw.ent).1 (fun hq => row_apart hown kw.ent (by decide) hq.symm)).trans kw.ent, (hgr3.block p3 (Array.getElem?_eq_some_iff.1 kw.raw).1 (fun hq => row_apart hown kw.raw (by decide) hq.symm)).trans kw.raw, fun q hq => ap _ _ (kw.figs q hq)⟩
    refine ⟨v', rfl, k3, ?_, fun _ _ => ⟨u, hown3, ap _ _ g5⟩⟩
    intro j z hj
    unfold rl9_V
    split <;> intro hz <;> first
      | exact hz
      | exact absurd rfl hj
      | (obtain ⟨u, q1, q2, q3⟩ := hz
         exact ⟨u, q1, ap _ _ q2, q3⟩)
      | (obtain ⟨u, k, q1, q2, q3, q4, q5⟩ := hz
         exact ⟨u, k, q1, q2, (hgr3.block k (Array.getElem?_eq_some_iff.1 q3).1 (fun hq => by have := (hrow.1.lt k hq.symm).2; omega)).trans q3, ap _ _ q4, q5⟩)
  · intro a w hI hsz hdf hot hh
    have kw : KeptW B p1 p3 x cs P w0 w := hI
    have hv8 : rl9_V p1 p3 B w0.heap.size x vv P 8 (a.eval (.tmp 71)) w := hh 8 _ 71 (by decide) rfl rfl
    obtain ⟨u, q1, q2⟩ := hv8
    have q3 : a.eval (.tmp 72) = .pointer (some ⟨p3, 4, none⟩) := hh 9 _ 72 (by decide) rfl rfl
    obtain ⟨v', hv'⟩ : ∃ v', a.eval (.tmp 71) = v' := ⟨_, rfl⟩
    rw [hv'] at q1
    obtain ⟨o3, cap3, hv3⟩ := gown_slice q1
    have c3 : w.cell? ⟨p3, 4, none⟩ = some vv := by rw [cell_of_row _ _ _ _ _ _ kw.raw]; exact hcs
    have hst : (Instr.storeAt 53 (.pointer (some ⟨p3, 4, none⟩)) v').run Tryd.prog w = .ok () (w.setCell ⟨p3, 4, none⟩ v') := store_cell (ty := 53) (fun W => Tryd.sizeOf53 W) w ⟨p3, 4, none⟩ v' vv ⟨o3, _, cap3, hv3⟩ c3 (tc_frozen kw.raw rfl)
    refine wpOp_skip0 (w' := w.setCell ⟨p3, 4, none⟩ v') rfl rfl (run_storeOp rfl _ _ _ _ _ q3 hv' hst) rfl ?_
    show Q .normal a (w.setCell ⟨p3, 4, none⟩ v')
    rw [puts_form hsz hdf hot hDs]
    exact hK _ w v' u kw q1 q2

def rl11_ops : List Oper := [
  { dst := some 81, op := .fieldAddr 55 (.tmp 3) 3, type := 0, pos := "ref.go:250", after := #[], guard := none },
  { dst := some 82, op := .load 53 (.tmp 81), type := 53, pos := "ref.go:250", after := #[{ on := 0, ground := .data }], guard := none },
  { dst := some 83, op := .fieldAddr 45 (.tmp 1) 8, type := 0, pos := "ref.go:250", after := #[], guard := none },
  { dst := some 84, op := .load 3 (.tmp 83), type := 3, pos := "ref.go:250", after := #[{ on := 2, ground := .data }], guard := none },
  { dst := some 85, op := .fieldAddr 45 (.tmp 1) 9, type := 0, pos := "ref.go:250", after := #[], guard := none },
  { dst := some 86, op := .load 3 (.tmp 85), type := 3, pos := "ref.go:250", after := #[{ on := 4, ground := .data }], guard := none },
  { dst := some 87, op := .call { callee := .value (.func 34), args := #[.const (.string { data := #[100, 112, 111, 114, 116] }), .tmp 84, .tmp 86], argTypes := #[9, 3, 3] }, type := 76, pos := "ref.go:250", after := #[{ on := 3, ground := .data }, { on := 5, ground := .data }], guard := none },
  { dst := some 88, op := .buildSlice 53 1 #[(0, .tmp 87)], type := 53, pos := "ref.go:250", after := #[{ on := 6, ground := .data }], guard := none },
  { dst := some 89, op := .call { callee := .builtin .append, args := #[.tmp 82, .tmp 88], argTypes := #[53, 53] }, type := 53, pos := "ref.go:250", after := #[{ on := 1, ground := .data }, { on := 7, ground := .data }, { on := 6, ground := .chain }], guard := none },
  { dst := some 90, op := .fieldAddr 55 (.tmp 3) 3, type := 0, pos := "ref.go:250", after := #[{ on := 0, ground := .phase }, { on := 1, ground := .phase }, { on := 2, ground := .phase }, { on := 3, ground := .phase }, { on := 4, ground := .phase }, { on := 5, ground := .phase }, { on := 6, ground := .phase }, { on := 7, ground := .phase }, { on := 8, ground := .phase }], guard := none },
  { dst := none, op := .store 53 (.tmp 90) (.tmp 89), type := 0, pos := "ref.go:250", after := #[{ on := 9, ground := .data }, { on := 8, ground := .data }, { on := 8, ground := .chain }, { on := 0, ground := .phase }, { on := 1, ground := .phase }, { on := 2, ground := .phase }, { on := 3, ground := .phase }, { on := 4, ground := .phase }, { on := 5, ground := .phase }, { on := 6, ground := .phase }, { on := 7, ground := .phase }, { on := 8, ground := .phase }], guard := none }]
def rl11_D : List Nat := [81, 82, 83, 84, 85, 86, 87, 88, 89, 90]
def rl11_V (p1 p3 B H : Nat) (x : Ent) (vv : Value) (P : List (Cla × Value)) (i : Nat) (v : Value) (w : World) : Prop :=
  match i with
  | 0 => v = .pointer (some ⟨p3, 4, none⟩)
  | 1 => v = vv
  | 2 => v = .pointer (some ⟨p1, 8, none⟩)
  | 3 => v = .int .i64 x.dlow
  | 4 => v = .pointer (some ⟨p1, 9, none⟩)
  | 5 => v = .int .i64 x.dhigh
  | 6 => ∃ u, v = .agg (claV (portC7 wDport x.dlow x.dhigh) u) ∧ FigsOwn B w (portC7 wDport x.dlow x.dhigh).nums u ∧ ∃ o n m, u = .slice o n m
  | 7 => ∃ u g, v = .slice (some ⟨g, 0, none⟩) 1 1 ∧ H ≤ g ∧ w.heap[g]? = some (.cells (claV (portC7 wDport x.dlow x.dhigh) u) 76 (0, 0)) ∧ FigsOwn B w (portC7 wDport x.dlow x.dhigh).nums u ∧ ∃ o n m, u = .slice o n m
  | 8 => ∃ u, w.ownsRow B 76 5 v (P ++ [((portC7 wDport x.dlow x.dhigh), u)]).length (gcells claP2 (P ++ [((portC7 wDport x.dlow x.dhigh), u)])) ∧ FigsOwn B w (portC7 wDport x.dlow x.dhigh).nums u
  | 9 => v = .pointer (some ⟨p3, 4, none⟩)
  | _ => True
theorem rl11_mono (p1 p3 B H : Nat) (x : Ent) (vv : Value) (P : List (Cla × Value)) : ∀ j v w w', rl11_V p1 p3 B H x vv P j v w → Below w.heap.size w w' → rl11_V p1 p3 B H x vv P j v w' := by
  intro j v w w' h hb
  revert h
  unfold rl11_V
  split <;> intro h <;> first
    | exact h
    | (obtain ⟨u, h1, h2, h3⟩ := h
       exact ⟨u, h1, gown_below h2 hb, h3⟩)
    | (obtain ⟨u, g, h1, h2, h3, h4, h5⟩ := h
       exact ⟨u, g, h1, h2, (hb.block g (Array.getElem?_eq_some_iff.1 h3).1).trans h3, gown_below h4 hb, h5⟩)
    | (obtain ⟨u, h1, h2⟩ := h
       exact ⟨u, gown_below h1 hb, gown_below h2 hb⟩)

set_option maxHeartbeats 4000000 in
theorem rl11_region {id : Nat} {Q : Exit → Act → World → Prop} {a0 : Act} {w0 : World} (hs : 105 ≤ a0.tmps.size) (p1 p3 B : Nat) (x : Ent) (_hx : ent32 x) (vv : Value) (cs : Array Value) (P : List (Cla × Value)) (h1 : a0.eval (.tmp 1) = .pointer (some ⟨p1, 0, none⟩)) (h3 : a0.eval (.tmp 3) = .pointer (some ⟨p3, 0, none⟩))
    (hp1 : w0.heap[p1]? = some (.cells (entV x) 45 (0, 0))) (hp3 : w0.heap[p3]? = some (.cells cs 55 (0, 0))) (hcs : cs[4]? = some vv) (hB : B ≤ w0.heap.size) (hrow : RowW B w0 vv P) (hlen : P.length ≤ 100000)
    (hK : ∀ y w' v' u, KeptW B p1 p3 x cs P w0 w' → w'.ownsRow B 76 5 v' (P ++ [((portC7 wDport x.dlow x.dhigh), u)]).length (gcells claP2 (P ++ [((portC7 wDport x.dlow x.dhigh), u)])) → FigsOwn B w' (portC7 wDport x.dlow x.dhigh).nums u → Q .normal (putsD rl11_D y a0) (w'.setCell ⟨p3, 4, none⟩ v')) : (Code.region id rl11_ops.toArray true).wp Tryd.prog Q a0 w0 := by
  have hDs : ∀ d ∈ rl11_D, d < a0.tmps.size := fun d hd => by
    have : d < 105 := by
      revert hd; unfold rl11_D; intro hd
      simp only [List.mem_cons, List.not_mem_nil, or_false] at hd
      omega
    omega
  have fr : ∀ W, (Instr.fieldAt 55 (.pointer (some ⟨p3, 0, none⟩)) 3).run Tryd.prog W = .ok (.pointer (some ⟨p3, 4, none⟩)) W := fun W => by simp [go_sem]
  have fe1 : ∀ W, (Instr.fieldAt 45 (.pointer (some ⟨p1, 0, none⟩)) 8).run Tryd.prog W = .ok (.pointer (some ⟨p1, 8, none⟩)) W := fun W => by simp [go_sem]
  have fe2 : ∀ W, (Instr.fieldAt 45 (.pointer (some ⟨p1, 0, none⟩)) 9).run Tryd.prog W = .ok (.pointer (some ⟨p1, 9, none⟩)) W := fun W => by simp [go_sem]
  have cf : ∀ vs W, (callFunc 34 vs).run Tryd.prog W = .ok (.enter 34 vs) W := fun vs W => by have hf := Tryd.func34; simp [go_sem]
  have K0 : KeptW B p1 p3 x cs P w0 w0 := ⟨Below.refl _ _, hp1, hp3, hrow.2⟩
  have frm : ∀ (b : Bool) (w : World), (if b then KeptW B p1 p3 x cs P w0 w else Below w0.heap.size w0 w) → KeptW B p1 p3 x cs P w0 w := fun b w h => by
    cases b with
    | true => exact h
    | false => exact K0.stays hB h
  refine region_mid 10 8 (rl11_V p1 p3 B w0.heap.size x vv P) (fun b w => if b then KeptW B p1 p3 x cs P w0 w else Below w0.heap.size w0 w) rl11_D (by kernel_rfl) (by decide) rfl (by kernel_rfl) (by decide) hDs (by kernel_rfl) (by kernel_rfl) (rl11_mono p1 p3 B w0.heap.size x vv P) ?_ ?_ ?_ ?_ ?_
  · intro b w w' h hb
    cases b with
    | true => exact KeptW.stays hB h hb
    | false => exact Below.trans h (hb.mono (Below.size h))
  · exact (Below.refl _ _).drew
  · intro i o ho hi him b a w h
    have kw := frm b w h.wld
    have e1 : a.eval (.tmp 1) = .pointer (some ⟨p1, 0, none⟩) := (h.other 1 (by decide)).trans h1
    have e3 : a.eval (.tmp 3) = .pointer (some ⟨p3, 0, none⟩) := (h.other 3 (by decide)).trans h3
    have c3 : w.cell? ⟨p3, 4, none⟩ = some vv := by rw [cell_of_row _ _ _ _ _ _ kw.raw]; exact hcs
    have cv1 : w.cell? ⟨p1, 8, none⟩ = some (.int .i64 x.dlow) := by rw [cell_of_row _ _ _ _ _ _ kw.ent]; rfl
    have cv2 : w.cell? ⟨p1, 9, none⟩ = some (.int .i64 x.dhigh) := by rw [cell_of_row _ _ _ _ _ _ kw.ent]; rfl
    have kwsize : w0.heap.size ≤ w.heap.size := kw.below.size
    rcases (show i = 0 ∨ i = 1 ∨ i = 2 ∨ i = 3 ∨ i = 4 ∨ i = 5 ∨ i = 6 ∨ i = 7 ∨ i = 9 by omega) with rfl | rfl | rfl | rfl | rfl | rfl | rfl | rfl | rfl
    · obtain rfl := Option.some.inj ho
      exact iv_val rfl rfl _ (run_fieldOp rfl _ _ _ ((congrArg (fun y => (Instr.fieldAt 55 y 3).run Tryd.prog w) e3).trans (fr w))) rfl
    · obtain rfl := Option.some.inj ho
      have f0 : a.eval (.tmp 81) = .pointer (some ⟨p3, 4, none⟩) := h.has ⟨0, .data⟩ (by simp) rfl _ 81 rfl rfl
      exact iv_val rfl rfl _ (run_loadOp rfl _ _ _ _ f0 (load_cell (e := 76) Tryd.underlying53 _ _ _ c3)) rfl
    · obtain rfl := Option.some.inj ho
      exact iv_val rfl rfl _ (run_fieldOp rfl _ _ _ ((congrArg (fun y => (Instr.fieldAt 45 y 8).run Tryd.prog w) e1).trans (fe1 w))) rfl
    · obtain rfl := Option.some.inj ho
      have f0 : a.eval (.tmp 83) = .pointer (some ⟨p1, 8, none⟩) := h.has ⟨2, .data⟩ (by simp) rfl _ 83 rfl rfl
      exact iv_val rfl rfl _ (run_loadOp rfl _ _ _ _ f0 (load_int _ _ _ cv1)) rfl
    · obtain rfl := Option.some.inj ho
      exact iv_val rfl rfl _ (run_fieldOp rfl _ _ _ ((congrArg (fun y => (Instr.fieldAt 45 y 9).run Tryd.prog w) e1).trans (fe2 w))) rfl
    · obtain rfl := Option.some.inj ho
      have f0 : a.eval (.tmp 85) = .pointer (some ⟨p1, 9, none⟩) := h.has ⟨4, .data⟩ (by simp) rfl _ 85 rfl rfl
      exact iv_val rfl rfl _ (run_loadOp rfl _ _ _ _ f0 (load_int _ _ _ cv2)) rfl
    · obtain rfl := Option.some.inj ho
      have g1 : a.eval (.tmp 84) = .int .i64 x.dlow := h.has ⟨3, .data⟩ (by simp) rfl _ 84 rfl rfl
      have g2 : a.eval (.tmp 86) = .int .i64 x.dhigh := h.has ⟨5, .data⟩ (by simp) rfl _ 86 rfl rfl
      refine iv_call rfl rfl 34 #[.string ⟨(wDport).toArray⟩, .int .i64 x.dlow, .int .i64 x.dhigh] (run_callOps rfl cf _ _ _ (by simp only [List.map_toArray, List.map_cons, List.map_nil, g1, g2]; rfl)) ((rports7_any wDport x.dlow x.dhigh w).mono fun e w' h => ?_)
      obtain ⟨⟨u, r1, r2, r3⟩, r4⟩ := h
      exact ⟨_, r1, r4, u, rfl, gown_base r2 (Nat.le_trans hB kwsize), r3⟩
    · obtain rfl := Option.some.inj ho
      obtain ⟨u, g1, g2, g3⟩ : ∃ u, a.eval (.tmp 87) = .agg (claV (portC7 wDport x.dlow x.dhigh) u) ∧ FigsOwn B w (portC7 wDport x.dlow x.dhigh).nums u ∧ ∃ o n m, u = .slice o n m := h.has ⟨6, .data⟩ (by simp) rfl _ 87 rfl rfl
      refine iv_list rfl ?_
      refine wl_buildE (E := ClaE) ClaOk rfl _ rfl (claV (portC7 wDport x.dlow x.dhigh) u) rfl g1 ?_
      exact ⟨_, rfl, (Below.refl _ _).alloc (Nat.le_refl _) _, fun _ _ => ⟨u, _, rfl, kwsize, heap_new _ _ _ rfl, gown_below g2 ((Below.refl _ _).alloc (Nat.le_refl _) _), g3⟩⟩
    · obtain rfl := Option.some.inj ho
      exact iv_val rfl rfl _ (run_fieldOp rfl _ _ _ ((congrArg (fun y => (Instr.fieldAt 55 y 3).run Tryd.prog w) e3).trans (fr w))) rfl
  · intro o ho a w h
    obtain rfl := Option.some.inj ho
    have hb : Below w0.heap.size w0 w := h.wld
    have kw := frm false w hb
    have g1 : a.eval (.tmp 82) = vv := h.has ⟨1, .data⟩ (by simp) rfl _ 82 rfl rfl
    obtain ⟨u, g, g2, g3, g4, g5, g6⟩ : ∃ u g, a.eval (.tmp 88) = .slice (some ⟨g, 0, none⟩) 1 1 ∧ w0.heap.size ≤ g ∧ w.heap[g]? = some (.cells (claV (portC7 wDport x.dlow x.dhigh) u) 76 (0, 0)) ∧ FigsOwn B w (portC7 wDport x.dlow x.dhigh).nums u ∧ ∃ o n m, u = .slice o n m := h.has ⟨7, .data⟩ (by simp) rfl _ 88 rfl rfl
    have hown : w.ownsRow B 76 5 vv P.length (gcells claP2 P) := gown_below hrow.1 hb
    refine wpOp_of_list rfl ?_
    refine wl_appendE (E := ClaE) ClaOk claP2 rfl _ _ rfl B vv P ((portC7 wDport x.dlow x.dhigh), u) (cla_fits _ _ g6) g1 hown g 1 g2 g4 (by omega) (Nat.le_trans hB hb.size) ?_
    intro v' w3 hown3 hgr3 _
    have ap : ∀ (F : List Fig) (z : Value), FigsOwn B w F z → FigsOwn B w3 F z := fun F z hz => own_grown hgr3 hz (fun k hk => own_apart hown hz (by decide) k hk)
    have k3 : KeptW B p1 p3 x cs P w0 w3 := ⟨kw.below.trans ((Below.refl _ _).grown hgr3 (Nat.le_trans hB hb.size) fun k hk => (hown.lt k hk).1), (hgr3.block p1 (Array.getElem?_eq_some_iff.1 kw.ent).1 (fun hq => row_apart hown kw.ent (by decide) hq.symm)).trans kw.ent, (hgr3.block p3 (Array.getElem?_eq_some_iff.1 kw.raw).1 (fun hq => row_apart hown kw.raw (by decide) hq.symm)).trans kw.raw, fun q hq => ap _ _ (kw.figs q hq)⟩
    refine ⟨v', rfl, k3, ?_, fun _ _ => ⟨u, hown3, ap _ _ g5⟩⟩
    intro j z hj
    unfold rl11_V
    split <;> intro hz <;> first
      | exact hz
      | exact absurd rfl hj
      | (obtain ⟨u, q1, q2, q3⟩ := hz
         exact ⟨u, q1, ap _ _ q2, q3⟩)
      | (obtain ⟨u, k, q1, q2, q3, q4, q5⟩ := hz
         exact ⟨u, k, q1, q2, (hgr3.block k (Array.getElem?_eq_some_iff.1 q3).1 (fun hq => by have := (hrow.1.lt k hq.symm).2; omega)).trans q3, ap _ _ q4, q5⟩)
  · intro a w hI hsz hdf hot hh
    have kw : KeptW B p1 p3 x cs P w0 w := hI
    have hv8 : rl11_V p1 p3 B w0.heap.size x vv P 8 (a.eval (.tmp 89)) w := hh 8 _ 89 (by decide) rfl rfl
    obtain ⟨u, q1, q2⟩ := hv8
    have q3 : a.eval (.tmp 90) = .pointer (some ⟨p3, 4, none⟩) := hh 9 _ 90 (by decide) rfl rfl
    obtain ⟨v', hv'⟩ : ∃ v', a.eval (.tmp 89) = v' := ⟨_, rfl⟩
    rw [hv'] at q1
    obtain ⟨o3, cap3, hv3⟩ := gown_slice q1
    have c3 : w.cell? ⟨p3, 4, none⟩ = some vv := by rw [cell_of_row _ _ _ _ _ _ kw.raw]; exact hcs
    have hst : (Instr.storeAt 53 (.pointer (some ⟨p3, 4, none⟩)) v').run Tryd.prog w = .ok () (w.setCell ⟨p3, 4, none⟩ v') := store_cell (ty := 53) (fun W => Tryd.sizeOf53 W) w ⟨p3, 4, none⟩ v' vv ⟨o3, _, cap3, hv3⟩ c3 (tc_frozen kw.raw rfl)
    refine wpOp_skip0 (w' := w.setCell ⟨p3, 4, none⟩ v') rfl rfl (run_storeOp rfl _ _ _ _ _ q3 hv' hst) rfl ?_
    show Q .normal a (w.setCell ⟨p3, 4, none⟩ v')
    rw [puts_form hsz hdf hot hDs]
    exact hK _ w v' u kw q1 q2

def rl13_ops : List Oper := [
  { dst := some 94, op := .fieldAddr 55 (.tmp 3) 3, type := 0, pos := "ref.go:253", after := #[], guard := none },
  { dst := some 95, op := .load 53 (.tmp 94), type := 53, pos := "ref.go:253", after := #[{ on := 0, ground := .data }], guard := none },
  { dst := some 96, op := .fieldAddr 45 (.tmp 1) 10, type := 0, pos := "ref.go:253", after := #[], guard := none },
  { dst := some 97, op := .load 3 (.tmp 96), type := 3, pos := "ref.go:253", after := #[{ on := 2, ground := .data }], guard := none },
  { dst := some 98, op := .buildSlice 82 1 #[(0, .tmp 97)], type := 82, pos := "ref.go:253", after := #[{ on := 3, ground := .data }], guard := none },
  { dst := some 99, op := .call { callee := .value (.func 35), args := #[.tmp 98], argTypes := #[82] }, type := 74, pos := "ref.go:253", after := #[{ on := 4, ground := .data }], guard := none },
  { dst := some 100, op := .build 76 #[(0, .const (.string { data := #[112, 114, 111, 116, 111] })), (2, .tmp 99)], type := 76, pos := "ref.go:253", after := #[{ on := 5, ground := .data }], guard := none },
  { dst := some 101, op := .buildSlice 53 1 #[(0, .tmp 100)], type := 53, pos := "ref.go:253", after := #[{ on := 6, ground := .data }], guard := none },
  { dst := some 102, op := .call { callee := .builtin .append, args := #[.tmp 95, .tmp 101], argTypes := #[53, 53] }, type := 53, pos := "ref.go:253", after := #[{ on := 1, ground := .data }, { on := 7, ground := .data }, { on := 5, ground := .chain }], guard := none },
  { dst := some 103, op := .fieldAddr 55 (.tmp 3) 3, type := 0, pos := "ref.go:253", after := #[{ on := 0, ground := .phase }, { on := 1, ground := .phase }, { on := 2, ground := .phase }, { on := 3, ground := .phase }, { on := 4, ground := .phase }, { on := 5, ground := .phase }, { on := 6, ground := .phase }, { on := 7, ground := .phase }, { on := 8, ground := .phase }], guard := none },
  { dst := none, op := .store 53 (.tmp 103) (.tmp 102), type := 0, pos := "ref.go:253", after := #[{ on := 9, ground := .data }, { on := 8, ground := .data }, { on := 8, ground := .chain }, { on := 0, ground := .phase }, { on := 1, ground := .phase }, { on := 2, ground := .phase }, { on := 3, ground := .phase }, { on := 4, ground := .phase }, { on := 5, ground := .phase }, { on := 6, ground := .phase }, { on := 7, ground := .phase }, { on := 8, ground := .phase }], guard := none }]
def rl13_D : List Nat := [94, 95, 96, 97, 98, 99, 100, 101, 102, 103]
def rl13_V (p1 p3 B H : Nat) (x : Ent) (vv : Value) (P : List (Cla × Value)) (i : Nat) (v : Value) (w : World) : Prop :=
  match i with
  | 0 => v = .pointer (some ⟨p3, 4, none⟩)
  | 1 => v = vv
  | 2 => v = .pointer (some ⟨p1, 10, none⟩)
  | 3 => v = .int .i64 x.proto
  | 4 => ∃ g, v = .slice (some ⟨g, 0, none⟩) 1 1 ∧ w.heap[g]? = some (.cells (intsV [x.proto]) 3 (0, 0))
  | 5 => FigsOwn B w [fig0 x.proto] v ∧ ∃ o n m, v = .slice o n m
  | 6 => ∃ u, v = .agg (claV (protC7 x.proto) u) ∧ FigsOwn B w (protC7 x.proto).nums u ∧ ∃ o n m, u = .slice o n m
  | 7 => ∃ u g, v = .slice (some ⟨g, 0, none⟩) 1 1 ∧ H ≤ g ∧ w.heap[g]? = some (.cells (claV (protC7 x.proto) u) 76 (0, 0)) ∧ FigsOwn B w (protC7 x.proto).nums u ∧ ∃ o n m, u = .slice o n m
  | 8 => ∃ u, w.ownsRow B 76 5 v (P ++ [((protC7 x.proto), u)]).length (gcells claP2 (P ++ [((protC7 x.proto), u)])) ∧ FigsOwn B w (protC7 x.proto).nums u
  | 9 => v = .pointer (some ⟨p3, 4, none⟩)
  | _ => True
theorem rl13_mono (p1 p3 B H : Nat) (x : Ent) (vv : Value) (P : List (Cla × Value)) : ∀ j v w w', rl13_V p1 p3 B H x vv P j v w → Below w.heap.size w w' → rl13_V p1 p3 B H x vv P j v w' := by
  intro j v w w' h hb
  revert h
  unfold rl13_V
  split <;> intro h <;> first
    | exact h
    | (obtain ⟨g, h1, h2⟩ := h
       exact ⟨g, h1, (hb.block g (Array.getElem?_eq_some_iff.1 h2).1).trans h2⟩)
    | exact ⟨gown_below h.1 hb, h.2⟩
    | (obtain ⟨u, h1, h2, h3⟩ := h
       exact ⟨u, h1, gown_below h2 hb, h3⟩)
    | (obtain ⟨u, g, h1, h2, h3, h4, h5⟩ := h
       exact ⟨u, g, h1, h2, (hb.block g (Array.getElem?_eq_some_iff.1 h3).1).trans h3, gown_below h4 hb, h5⟩)
    | (obtain ⟨u, h1, h2⟩ := h
       exact ⟨u, gown_below h1 hb, gown_below h2 hb⟩)

set_option maxHeartbeats 4000000 in
theorem rl13_region {id : Nat} {Q : Exit → Act → World → Prop} {a0 : Act} {w0 : World} (hs : 105 ≤ a0.tmps.size) (p1 p3 B : Nat) (x : Ent) (_hx : ent32 x) (vv : Value) (cs : Array Value) (P : List (Cla × Value)) (h1 : a0.eval (.tmp 1) = .pointer (some ⟨p1, 0, none⟩)) (h3 : a0.eval (.tmp 3) = .pointer (some ⟨p3, 0, none⟩))
    (hp1 : w0.heap[p1]? = some (.cells (entV x) 45 (0, 0))) (hp3 : w0.heap[p3]? = some (.cells cs 55 (0, 0))) (hcs : cs[4]? = some vv) (hB : B ≤ w0.heap.size) (hrow : RowW B w0 vv P) (hlen : P.length ≤ 100000)
    (hK : ∀ y w' v' u, KeptW B p1 p3 x cs P w0 w' → w'.ownsRow B 76 5 v' (P ++ [((protC7 x.proto), u)]).length (gcells claP2 (P ++ [((protC7 x.proto), u)])) → FigsOwn B w' (protC7 x.proto).nums u → Q .normal (putsD rl13_D y a0) (w'.setCell ⟨p3, 4, none⟩ v')) : (Code.region id rl13_ops.toArray true).wp Tryd.prog Q a0 w0 := by
  have hDs : ∀ d ∈ rl13_D, d < a0.tmps.size := fun d hd => by
    have : d < 105 := by
      revert hd; unfold rl13_D; intro hd
      simp only [List.mem_cons, List.not_mem_nil, or_false] at hd
      omega
    omega
  have fr : ∀ W, (Instr.fieldAt 55 (.pointer (some ⟨p3, 0, none⟩)) 3).run Tryd.prog W = .ok (.pointer (some ⟨p3, 4, none⟩)) W := fun W => by simp [go_sem]
  have fe1 : ∀ W, (Instr.fieldAt 45 (.pointer (some ⟨p1, 0, none⟩)) 10).run Tryd.prog W = .ok (.pointer (some ⟨p1, 10, none⟩)) W := fun W => by simp [go_sem]
  have fe2 : ∀ W, (Instr.fieldAt 45 (.pointer (some ⟨p1, 0, none⟩)) 10).run Tryd.prog W = .ok (.pointer (some ⟨p1, 10, none⟩)) W := fun W => by simp [go_sem]
  have cf : ∀ vs W, (callFunc 35 vs).run Tryd.prog W = .ok (.enter 35 vs) W := fun vs W => by have hf := Tryd.func35; simp [go_sem]
  have K0 : KeptW B p1 p3 x cs P w0 w0 := ⟨Below.refl _ _, hp1, hp3, hrow.2⟩
  have frm : ∀ (b : Bool) (w : World), (if b then KeptW B p1 p3 x cs P w0 w else Below w0.heap.size w0 w) → KeptW B p1 p3 x cs P w0 w := fun b w h => by
    cases b with
    | true => exact h
    | false => exact K0.stays hB h
  refine region_mid 10 8 (rl13_V p1 p3 B w0.heap.size x vv P) (fun b w => if b then KeptW B p1 p3 x cs P w0 w else Below w0.heap.size w0 w) rl13_D (by kernel_rfl) (by decide) rfl (by kernel_rfl) (by decide) hDs (by kernel_rfl) (by kernel_rfl) (rl13_mono p1 p3 B w0.heap.size x vv P) ?_ ?_ ?_ ?_ ?_
  · intro b w w' h hb
    cases b with
    | true => exact KeptW.stays hB h hb
    | false => exact Below.trans h (hb.mono (Below.size h))
  · exact (Below.refl _ _).drew
  · intro i o ho hi him b a w h
    have kw := frm b w h.wld
    have e1 : a.eval (.tmp 1) = .pointer (some ⟨p1, 0, none⟩) := (h.other 1 (by decide)).trans h1
    have e3 : a.eval (.tmp 3) = .pointer (some ⟨p3, 0, none⟩) := (h.other 3 (by decide)).trans h3
    have c3 : w.cell? ⟨p3, 4, none⟩ = some vv := by rw [cell_of_row _ _ _ _ _ _ kw.raw]; exact hcs
    have cv1 : w.cell? ⟨p1, 10, none⟩ = some (.int .i64 x.proto) := by rw [cell_of_row _ _ _ _ _ _ kw.ent]; rfl
    have cv2 : w.cell? ⟨p1, 10, none⟩ = some (.int .i64 x.proto) := by rw [cell_of_row _ _ _ _ _ _ kw.ent]; rfl
    have kwsize : w0.heap.size ≤ w.heap.size := kw.below.size
    rcases (show i = 0 ∨ i = 1 ∨ i = 2 ∨ i = 3 ∨ i = 4 ∨ i = 5 ∨ i = 6 ∨ i = 7 ∨ i = 9 by omega) with rfl | rfl | rfl | rfl | rfl | rfl | rfl | rfl | rfl
    · obtain rfl := Option.some.inj ho
      exact iv_val rfl rfl _ (run_fieldOp rfl _ _ _ ((congrArg (fun y => (Instr.fieldAt 55 y 3).run Tryd.prog w) e3).trans (fr w))) rfl
    · obtain rfl := Option.some.inj ho
      have f0 : a.eval (.tmp 94) = .pointer (some ⟨p3, 4, none⟩) := h.has ⟨0, .data⟩ (by simp) rfl _ 94 rfl rfl
      exact iv_val rfl rfl _ (run_loadOp rfl _ _ _ _ f0 (load_cell (e := 76) Tryd.underlying53 _ _ _ c3)) rfl
    · obtain rfl := Option.some.inj ho
      exact iv_val rfl rfl _ (run_fieldOp rfl _ _ _ ((congrArg (fun y => (Instr.fieldAt 45 y 10).run Tryd.prog w) e1).trans (fe1 w))) rfl
    · obtain rfl := Option.some.inj ho
      have f0 : a.eval (.tmp 96) = .pointer (some ⟨p1, 10, none⟩) := h.has ⟨2, .data⟩ (by simp) rfl _ 96 rfl rfl
      exact iv_val rfl rfl _ (run_loadOp rfl _ _ _ _ f0 (load_int _ _ _ cv1)) rfl
    · obtain rfl := Option.some.inj ho
      have g1 : a.eval (.tmp 97) = .int .i64 x.proto := h.has ⟨3, .data⟩ (by simp) rfl _ 97 rfl rfl
      refine iv_list rfl ?_
      obtain ⟨ie, hie, hz, hsi⟩ := info3_8
      refine wpList_buildSlice rfl _ 3 1 _ rfl (intsV [x.proto]) ie (.int .i64 0) Tryd.underlying82 hie hz (by rw [hsi]; decide) (by rw [hsi]; decide) (by simp only [List.map_toArray, List.map_cons, List.map_nil, g1, hsi]; kernel_rfl) ?_
      exact ⟨_, rfl, (Below.refl _ _).alloc (Nat.le_refl _) _, fun _ _ => ⟨_, rfl, heap_new _ _ _ rfl⟩⟩
    · obtain rfl := Option.some.inj ho
      obtain ⟨g, g1, g2⟩ : ∃ g, a.eval (.tmp 98) = .slice (some ⟨g, 0, none⟩) 1 1 ∧ w.heap[g]? = some (.cells (intsV [x.proto]) 3 (0, 0)) := h.has ⟨4, .data⟩ (by simp) rfl _ 98 rfl rfl
      refine iv_call rfl rfl 35 #[.slice (some ⟨g, 0, none⟩) 1 1] (run_callOps rfl cf _ _ _ (by simp only [List.map_toArray, List.map_cons, List.map_nil, g1])) ((rfigures_any [x.proto] (by simp) g w g2).mono fun e w' h => ?_)
      obtain ⟨z, r1, r2, r3⟩ := h
      exact ⟨z, r1, r3, gown_base r2 (Nat.le_trans hB kwsize), figs_sl8 r2⟩
    · obtain rfl := Option.some.inj ho
      have g0 : FigsOwn B w [fig0 x.proto] (a.eval (.tmp 99)) ∧ ∃ o n m, a.eval (.tmp 99) = .slice o n m := h.has ⟨5, .data⟩ (by simp) rfl _ 99 rfl rfl
      obtain ⟨g1, o1, n1, m1, g2⟩ := g0
      rw [g2] at g1
      exact iv_val rfl rfl (.agg (claV (protC7 x.proto) (.slice o1 n1 m1))) (run_buildOp rfl _ _ #[(0, .string ⟨#[112, 114, 111, 116, 111]⟩), (2, .slice o1 n1 m1)] (by simp only [List.map_toArray, List.map_cons, List.map_nil, g2]; rfl) _ (by kernel_rfl)) ⟨_, rfl, g1, _, _, _, rfl⟩
    · obtain rfl := Option.some.inj ho
      obtain ⟨u, g1, g2, g3⟩ : ∃ u, a.eval (.tmp 100) = .agg (claV (protC7 x.proto) u) ∧ FigsOwn B w (protC7 x.proto).nums u ∧ ∃ o n m, u = .slice o n m := h.has ⟨6, .data⟩ (by simp) rfl _ 100 rfl rfl
      refine iv_list rfl ?_
      refine wl_buildE (E := ClaE) ClaOk rfl _ rfl (claV (protC7 x.proto) u) rfl g1 ?_
      exact ⟨_, rfl, (Below.refl _ _).alloc (Nat.le_refl _) _, fun _ _ => ⟨u, _, rfl, kwsize, heap_new _ _ _ rfl, gown_below g2 ((Below.refl _ _).alloc (Nat.le_refl _) _), g3⟩⟩
    · obtain rfl := Option.some.inj ho
      exact iv_val rfl rfl _ (run_fieldOp rfl _ _ _ ((congrArg (fun y => (Instr.fieldAt 55 y 3).run Tryd.prog w) e3).trans (fr w))) rfl
  · intro o ho a w h
    obtain rfl := Option.some.inj ho
    have hb : Below w0.heap.size w0 w := h.wld
    have kw := frm false w hb
    have g1 : a.eval (.tmp 95) = vv := h.has ⟨1, .data⟩ (by simp) rfl _ 95 rfl rfl
    obtain ⟨u, g, g2, g3, g4, g5, g6⟩ : ∃ u g, a.eval (.tmp 101) = .slice (some ⟨g, 0, none⟩) 1 1 ∧ w0.heap.size ≤ g ∧ w.heap[g]? = some (.cells (claV (protC7 x.proto) u) 76 (0, 0)) ∧ FigsOwn B w (protC7 x.proto).nums u ∧ ∃ o n m, u = .slice o n m := h.has ⟨7, .data⟩ (by simp) rfl _ 101 rfl rfl
    have hown : w.ownsRow B 76 5 vv P.length (gcells claP2 P) := gown_below hrow.1 hb
    refine wpOp_of_list rfl ?_
    refine wl_appendE (E := ClaE) ClaOk claP2 rfl _ _ rfl B vv P ((protC7 x.proto), u) (cla_fits _ _ g6) g1 hown g 1 g2 g4 (by omega) (Nat.le_trans hB hb.size) ?_
    intro v' w3 hown3 hgr3 _
    have ap : ∀ (F : List Fig) (z : Value), FigsOwn B w F z → FigsOwn B w3 F z := fun F z hz => own_grown hgr3 hz (fun k hk => own_apart hown hz (by decide) k hk)
    have k3 : KeptW B p1 p3 x cs P w0 w3 := ⟨kw.below.trans ((Below.refl _ _).grown hgr3 (Nat.le_trans hB hb.size) fun k hk => (hown.lt k hk).1), (hgr3.block p1 (Array.getElem?_eq_some_iff.1 kw.ent).1 (fun hq => row_apart hown kw.ent (by decide) hq.symm)).trans kw.ent, (hgr3.block p3 (Array.getElem?_eq_some_iff.1 kw.raw).1 (fun hq => row_apart hown kw.raw (by decide) hq.symm)).trans kw.raw, fun q hq => ap _ _ (kw.figs q hq)⟩
    refine ⟨v', rfl, k3, ?_, fun _ _ => ⟨u, hown3, ap _ _ g5⟩⟩
    intro j z hj
    unfold rl13_V
    split <;> intro hz <;> first
      | exact hz
      | exact absurd rfl hj
      | (obtain ⟨k, q1, q2⟩ := hz
         exact ⟨k, q1, (hgr3.block k (Array.getElem?_eq_some_iff.1 q2).1 (fun hq => row_apart hown q2 (by decide) hq.symm)).trans q2⟩)
      | exact ⟨ap _ _ hz.1, hz.2⟩
      | (obtain ⟨u, q1, q2, q3⟩ := hz
         exact ⟨u, q1, ap _ _ q2, q3⟩)
      | (obtain ⟨u, k, q1, q2, q3, q4, q5⟩ := hz
         exact ⟨u, k, q1, q2, (hgr3.block k (Array.getElem?_eq_some_iff.1 q3).1 (fun hq => by have := (hrow.1.lt k hq.symm).2; omega)).trans q3, ap _ _ q4, q5⟩)
  · intro a w hI hsz hdf hot hh
    have kw : KeptW B p1 p3 x cs P w0 w := hI
    have hv8 : rl13_V p1 p3 B w0.heap.size x vv P 8 (a.eval (.tmp 102)) w := hh 8 _ 102 (by decide) rfl rfl
    obtain ⟨u, q1, q2⟩ := hv8
    have q3 : a.eval (.tmp 103) = .pointer (some ⟨p3, 4, none⟩) := hh 9 _ 103 (by decide) rfl rfl
    obtain ⟨v', hv'⟩ : ∃ v', a.eval (.tmp 102) = v' := ⟨_, rfl⟩
    rw [hv'] at q1
    obtain ⟨o3, cap3, hv3⟩ := gown_slice q1
    have c3 : w.cell? ⟨p3, 4, none⟩ = some vv := by rw [cell_of_row _ _ _ _ _ _ kw.raw]; exact hcs
    have hst : (Instr.storeAt 53 (.pointer (some ⟨p3, 4, none⟩)) v').run Tryd.prog w = .ok () (w.setCell ⟨p3, 4, none⟩ v') := store_cell (ty := 53) (fun W => Tryd.sizeOf53 W) w ⟨p3, 4, none⟩ v' vv ⟨o3, _, cap3, hv3⟩ c3 (tc_frozen kw.raw rfl)
    refine wpOp_skip0 (w' := w.setCell ⟨p3, 4, none⟩ v') rfl rfl (run_storeOp rfl _ _ _ _ _ q3 hv' hst) rfl ?_
    show Q .normal a (w.setCell ⟨p3, 4, none⟩ v')
    rw [puts_form hsz hdf hot hDs]
    exact hK _ w v' u kw q1 q2

end Go.Proofs.YtbdbjbmjnemknaaDoor
namespace Go.Proofs.YtbdbjbmjnemknaaDoor
open Go Go.RowKit
set_option maxRecDepth 20000

/-- A line made new, as the reference has it. -/
def RawRf (B : Nat) (w : World) (x : Ent) (e : Ending) : Prop := ∃ v P, e = .returned (.agg (rawV (lineOf x) v)) ∧ RowW B w v P ∧ P.map (·.1) = (lineOf x).clauses

set_option maxHeartbeats 16000000 in
set_option maxRecDepth 100000 in
theorem rline_any (x : Ent) (hx : ent32 x) (w : World) :
    Calls Tryd.prog 17 #[.agg (entV x)] w fun e w' => RawRf w.heap.size w' x e ∧ Below w.heap.size w w' := by
  have b1 : Hid (((w.alloc (.cells (entV x) 45)).alloc (.cells RawE.zero 55)).heap[w.heap.size]? = some (.cells (entV x) 45 (0, 0))) := heap_past _ _ _ _ (heap_new _ _ _ rfl)
  have b2 : Hid (((w.alloc (.cells (entV x) 45)).alloc (.cells RawE.zero 55)).heap[w.heap.size + 1]? = some (.cells RawE.zero 55 (0, 0))) := heap_new _ _ _ (by simp)
  have B2 : Hid (Below w.heap.size w ((w.alloc (.cells (entV x) 45)).alloc (.cells RawE.zero 55))) := below2 _ _ _
  have e0 : ((w.alloc (.cells (entV x) 45)).alloc (.cells RawE.zero 55)).cell? ⟨w.heap.size, 0, none⟩ = some (.bool x.dflt) := by rw [cell_of_row _ _ _ _ _ _ b1.out]; rfl
  have e1 : ((w.alloc (.cells (entV x) 45)).alloc (.cells RawE.zero 55)).cell? ⟨w.heap.size, 1, none⟩ = some (.int .i64 x.prio) := by rw [cell_of_row _ _ _ _ _ _ b1.out]; rfl
  have e11 : ((w.alloc (.cells (entV x) 45)).alloc (.cells RawE.zero 55)).cell? ⟨w.heap.size, 11, none⟩ = some (.int .i64 x.action) := by rw [cell_of_row _ _ _ _ _ _ b1.out]; rfl
  have g0 : ∀ z, (((w.alloc (.cells (entV x) 45)).alloc (.cells RawE.zero 55)).alloc z).cell? ⟨w.heap.size, 0, none⟩ = some (.bool x.dflt) := fun z => by rw [cell_of_row _ _ _ _ _ _ (heap_past _ _ _ _ b1.out)]; rfl
  have g1 : ∀ z, (((w.alloc (.cells (entV x) 45)).alloc (.cells RawE.zero 55)).alloc z).cell? ⟨w.heap.size, 1, none⟩ = some (.int .i64 x.prio) := fun z => by rw [cell_of_row _ _ _ _ _ _ (heap_past _ _ _ _ b1.out)]; rfl
  unfold RawE at e0 e1 e11 g0 g1
  simp only at e0 e1 e11 g0 g1
  cases hd : x.dflt with
  | true =>
    rw [hd] at e0 g0
    have HD : Hid (x.dflt = true) := hd
    have hw3 : (((w.alloc (.cells (entV x) 45)).alloc (.cells RawE.zero 55)).alloc (.cells (rawV (rawW x x.prio) (.slice none 0 0)) 55)) = (((w.alloc (.cells (entV x) 45)).alloc (.cells #[.int .i64 0, .bool false, .int .i64 0, .int .i64 0, .slice none 0 0, .bool false, .int .i64 0, .int .i64 0] 55)).alloc (.cells #[.int .i64 0, .bool true, .int .i64 x.prio, .int .i64 0, .slice none 0 0, .bool (x.action == 0), .int .i64 x.action, .int .i64 0] 55)) := by
      unfold rawW rawV
      rw [hd]
      rfl
    have K3 : Hid ((((w.alloc (.cells (entV x) 45)).alloc (.cells #[.int .i64 0, .bool false, .int .i64 0, .int .i64 0, .slice none 0 0, .bool false, .int .i64 0, .int .i64 0] 55)).alloc (.cells #[.int .i64 0, .bool true, .int .i64 x.prio, .int .i64 0, .slice none 0 0, .bool (x.action == 0), .int .i64 x.action, .int .i64 0] 55)).heap[w.heap.size + 2]? = some (.cells (rawV (rawW x x.prio) (.slice none 0 0)) 55 (0, 0))) := by rw [← hw3]; exact heap_new _ _ _ (by simp)
    have K2 : Hid ((((w.alloc (.cells (entV x) 45)).alloc (.cells #[.int .i64 0, .bool false, .int .i64 0, .int .i64 0, .slice none 0 0, .bool false, .int .i64 0, .int .i64 0] 55)).alloc (.cells #[.int .i64 0, .bool true, .int .i64 x.prio, .int .i64 0, .slice none 0 0, .bool (x.action == 0), .int .i64 x.action, .int .i64 0] 55)).heap[w.heap.size + 1]? = some (.cells RawE.zero 55 (0, 0))) := by rw [← hw3]; exact heap_past _ _ _ _ b2.out
    have BW : Hid (Below w.heap.size w (((w.alloc (.cells (entV x) 45)).alloc (.cells #[.int .i64 0, .bool false, .int .i64 0, .int .i64 0, .slice none 0 0, .bool false, .int .i64 0, .int .i64 0] 55)).alloc (.cells #[.int .i64 0, .bool true, .int .i64 x.prio, .int .i64 0, .slice none 0 0, .bool (x.action == 0), .int .i64 x.action, .int .i64 0] 55))) := B2.out.alloc B2.out.size _
    clear hw3 hd
    go_enter Tryd.func17, Tryd.ntmps17
    go_wp2_with (first
      | ((with_reducible refine wl_atL _ rfl rfl ?_); refine wl_loadE (E := RawE) RawOk rfl _ rfl (w.heap.size + 2) 0 rfl _ _ _ (rawV (rawW x x.prio) (.slice none 0 0)) rfl K3.out (own_cells _ _) ?_)
      | (refine wl_storeE (E := RawE) RawOk rfl _ _ rfl (w.heap.size + 1) (rawV (rawW x x.prio) (.slice none 0 0)) ⟨rfl, by simp [rawV, Value.oneCell']⟩ rfl rfl _ K2.out rfl _ rfl ?_))
    refine retE (E := RawE) RawOk rfl rfl (w.heap.size + 1) rfl (rawV (rawW x x.prio) (.slice none 0 0)) rfl (setRow_heap _ _ _ _ _ _ K2.out) ?_
    refine ⟨⟨_, [], rfl, ⟨World.ownsRow_nil _ _ _ _, fun q hq => by simp at hq⟩, ?_⟩, below_setRow BW.out (by omega) _⟩
    unfold lineOf
    rw [HD.out]
    rfl
  | false =>
    rw [hd] at e0 g0
    go_enter Tryd.func17, Tryd.ntmps17
    have hw3 : Hid ((((w.alloc (.cells (entV x) 45)).alloc (.cells RawE.zero 55)).alloc (.cells (rawV (rawW x x.prio) (.slice none 0 0)) 55)) = (((w.alloc (.cells (entV x) 45)).alloc (.cells #[.int .i64 0, .bool false, .int .i64 0, .int .i64 0, .slice none 0 0, .bool false, .int .i64 0, .int .i64 0] 55)).alloc (.cells #[.int .i64 0, .bool false, .int .i64 x.prio, .int .i64 0, .slice none 0 0, .bool (x.action == 0), .int .i64 x.action, .int .i64 0] 55))) := by
      show _ = _
      unfold rawW rawV
      rw [hd]
      rfl
    have S0 : WrS w.heap.size x w (((w.alloc (.cells (entV x) 45)).alloc (.cells RawE.zero 55)).alloc (.cells (rawV (rawW x x.prio) (.slice none 0 0)) 55)) [] :=
      ⟨B2.out.alloc B2.out.size _, by simp, heap_past _ _ _ _ b1.out, heap_past _ _ _ _ b2.out, _, [], heap_new _ _ _ (by simp), ⟨World.ownsRow_nil _ _ _ _, fun q hq => by simp at hq⟩, rfl, by simp⟩
    rw [hw3.out] at S0
    obtain ⟨C0, hC0⟩ : ∃ C : List Cla, C = [] := ⟨_, rfl⟩
    rw [← hC0] at S0
    have S : Hid (WrS w.heap.size x w _ C0) := S0
    have HL0 : Hid (C0.length ≤ 0) := by rw [hC0]; exact Nat.le_refl _
    have HC0 : Hid (C0 = []) := hC0
    clear hC0
    clear S0
    go_upto_region 4 with fail
    clear e0 e1 e11 g0 g1
    go_cut [26] from 19 to 26 (fun c wx => c = .bool (!decide (x.src = 0 ∧ x.srcBits = 0)) ∧ WrS w.heap.size x w wx C0)
    case first =>
      have c1 := S.out.cells 2 (.int .u32 x.src) rfl
      have c2 := S.out.cells 3 (.int .i64 x.srcBits) rfl
      by_cases h1 : x.src = 0
      · have h1' : (x.src != 0) = false := by simp [h1]
        by_cases h2 : x.srcBits = 0
        · have h2' : (x.srcBits != 0) = false := by simp [h2]
          have HV : Hid ((!decide (x.src = 0 ∧ x.srcBits = 0)) = false) := by show _ = _; simp [h1, h2]
          clear h1 h2
          go_wp2_with fail
          go_meet
          case rel => exact ⟨by rw [HV.out], S.out⟩
        · have h2' : (x.srcBits != 0) = true := by simp [h2]
          have HV : Hid ((!decide (x.src = 0 ∧ x.srcBits = 0)) = true) := by show _ = _; simp [h2]
          clear h1 h2
          go_wp2_with fail
          go_meet
          case rel => exact ⟨by rw [HV.out], S.out⟩
      · have h1' : (x.src != 0) = true := by simp [h1]
        have HV : Hid ((!decide (x.src = 0 ∧ x.srcBits = 0)) = true) := by show _ = _; simp [h1]
        clear h1
        go_wp2_with fail
        go_meet
        case rel => exact ⟨by rw [HV.out], S.out⟩
    case rest =>
      clear S
      obtain ⟨rfl, hS⟩ := hcut
      have S : Hid (WrS w.heap.size x w wc C0) := hS
      clear hS
      obtain ⟨b, hb⟩ : ∃ b, b = !decide (x.src = 0 ∧ x.srcBits = 0) := ⟨_, rfl⟩
      rw [← hb]
      have HB : Hid (b = !decide (x.src = 0 ∧ x.srcBits = 0)) := hb
      clear hb
      go_upto_if 26 with fail
      go_cut [] from 27 to 36 (fun wx => WrS w.heap.size x w wx (C0 ++ partA wSrc x.src x.srcBits))
      case first =>
        cases b with
        | true =>
          have HP : Hid (partA wSrc x.src x.srcBits = [addrC7 wSrc x.src x.srcBits]) := by
            have := HB.out
            show _ = _
            unfold partA
            rw [if_neg (fun h => by simp [h] at this)]
          go_wp2_with fail
          obtain ⟨v, P, hraw, hrow, hC, hP⟩ := S.out.raw
          refine rl5_region (by exact Nat.le_of_eq rfl) w.heap.size (w.heap.size + 2) (w.heap.size + 3) x hx v (rawV (rawW x x.prio) v) P rfl rfl S.out.ent hraw rfl S.out.size hrow (by omega) ?_
          intro y w' v' u hk hr hf
          have N : Hid (WrS w.heap.size x w (w'.setCell ⟨w.heap.size + 2, 4, none⟩ v') (C0 ++ partA wSrc x.src x.srcBits)) := by rw [HP.out]; exact S.out.next hC (by have h5 := congrArg List.length hC; rw [List.length_map] at h5; have h6 := HL0.out; omega) hk hr hf
          clear hk hr hf hraw hrow
          simp only [putsD, rl5_D, List.foldl_cons, List.foldl_nil, Act.put, List.setIfInBounds_toArray, List.set_cons_succ, List.set_cons_zero]
          go_wp2_with fail
          go_meet
          case rel => exact N.out
        | false =>
          have HP : Hid (partA wSrc x.src x.srcBits = []) := by
            have := HB.out
            show _ = _
            unfold partA
            rw [if_pos (by simpa using this)]
          go_wp2_with fail
          go_meet
          case rel => rw [HP.out, List.append_nil]; exact S.out
      case rest =>
        clear S
        obtain ⟨C1, hC1⟩ : ∃ C, C = C0 ++ partA wSrc x.src x.srcBits := ⟨_, rfl⟩
        rw [← hC1] at hcut
        have S : Hid (WrS w.heap.size x w wc C1) := hcut
        have HL1 : Hid (C1.length ≤ 1) := by have h6 := HL0.out; have h7 : (partA wSrc x.src x.srcBits).length ≤ 1 := (by unfold partA; split <;> simp); show _ ≤ _; rw [hC1, List.length_append]; omega
        have HC1 : Hid (C1 = C0 ++ partA wSrc x.src x.srcBits) := hC1
        clear hcut HB hC1
        go_upto_region 6 with fail
        go_cut [44] from 37 to 44 (fun c wx => c = .bool (!decide (x.dst = 0 ∧ x.dstBits = 0)) ∧ WrS w.heap.size x w wx C1)
        case first =>
          have c1 := S.out.cells 4 (.int .u32 x.dst) rfl
          have c2 := S.out.cells 5 (.int .i64 x.dstBits) rfl
          by_cases h1 : x.dst = 0
          · have h1' : (x.dst != 0) = false := by simp [h1]
            by_cases h2 : x.dstBits = 0
            · have h2' : (x.dstBits != 0) = false := by simp [h2]
              have HV : Hid ((!decide (x.dst = 0 ∧ x.dstBits = 0)) = false) := by show _ = _; simp [h1, h2]
              clear h1 h2
              go_wp2_with fail
              go_meet
              case rel => exact ⟨by rw [HV.out], S.out⟩
            · have h2' : (x.dstBits != 0) = true := by simp [h2]
              have HV : Hid ((!decide (x.dst = 0 ∧ x.dstBits = 0)) = true) := by show _ = _; simp [h2]
              clear h1 h2
              go_wp2_with fail
              go_meet
              case rel => exact ⟨by rw [HV.out], S.out⟩
          · have h1' : (x.dst != 0) = true := by simp [h1]
            have HV : Hid ((!decide (x.dst = 0 ∧ x.dstBits = 0)) = true) := by show _ = _; simp [h1]
            clear h1
            go_wp2_with fail
            go_meet
            case rel => exact ⟨by rw [HV.out], S.out⟩
        case rest =>
          clear S
          obtain ⟨rfl, hS⟩ := hcut
          have S : Hid (WrS w.heap.size x w wc C1) := hS
          clear hS
          obtain ⟨b, hb⟩ : ∃ b, b = !decide (x.dst = 0 ∧ x.dstBits = 0) := ⟨_, rfl⟩
          rw [← hb]
          have HB : Hid (b = !decide (x.dst = 0 ∧ x.dstBits = 0)) := hb
          clear hb
          go_upto_if 44 with fail
          go_cut [] from 45 to 54 (fun wx => WrS w.heap.size x w wx (C1 ++ partA wDst x.dst x.dstBits))
          case first =>
            cases b with
            | true =>
              have HP : Hid (partA wDst x.dst x.dstBits = [addrC7 wDst x.dst x.dstBits]) := by
                have := HB.out
                show _ = _
                unfold partA
                rw [if_neg (fun h => by simp [h] at this)]
              go_wp2_with fail
              obtain ⟨v, P, hraw, hrow, hC, hP⟩ := S.out.raw
              refine rl7_region (by exact Nat.le_of_eq rfl) w.heap.size (w.heap.size + 2) (w.heap.size + 3) x hx v (rawV (rawW x x.prio) v) P rfl rfl S.out.ent hraw rfl S.out.size hrow (by omega) ?_
              intro y w' v' u hk hr hf
              have N : Hid (WrS w.heap.size x w (w'.setCell ⟨w.heap.size + 2, 4, none⟩ v') (C1 ++ partA wDst x.dst x.dstBits)) := by rw [HP.out]; exact S.out.next hC (by have h5 := congrArg List.length hC; rw [List.length_map] at h5; have h6 := HL1.out; omega) hk hr hf
              clear hk hr hf hraw hrow
              simp only [putsD, rl7_D, List.foldl_cons, List.foldl_nil, Act.put, List.setIfInBounds_toArray, List.set_cons_succ, List.set_cons_zero]
              go_wp2_with fail
              go_meet
              case rel => exact N.out
            | false =>
              have HP : Hid (partA wDst x.dst x.dstBits = []) := by
                have := HB.out
                show _ = _
                unfold partA
                rw [if_pos (by simpa using this)]
              go_wp2_with fail
              go_meet
              case rel => rw [HP.out, List.append_nil]; exact S.out
          case rest =>
            clear S
            obtain ⟨C2, hC2⟩ : ∃ C, C = C1 ++ partA wDst x.dst x.dstBits := ⟨_, rfl⟩
            rw [← hC2] at hcut
            have S : Hid (WrS w.heap.size x w wc C2) := hcut
            have HL2 : Hid (C2.length ≤ 2) := by have h6 := HL1.out; have h7 : (partA wDst x.dst x.dstBits).length ≤ 1 := (by unfold partA; split <;> simp); show _ ≤ _; rw [hC2, List.length_append]; omega
            have HC2 : Hid (C2 = C1 ++ partA wDst x.dst x.dstBits) := hC2
            clear hcut HB hC2
            go_upto_region 8 with fail
            go_cut [62] from 55 to 62 (fun c wx => c = .bool (!decide (x.slow = 0 ∧ x.shigh = 65535)) ∧ WrS w.heap.size x w wx C2)
            case first =>
              have c1 := S.out.cells 6 (.int .i64 x.slow) rfl
              have c2 := S.out.cells 7 (.int .i64 x.shigh) rfl
              by_cases h1 : x.slow = 0
              · have h1' : (x.slow != 0) = false := by simp [h1]
                by_cases h2 : x.shigh = 65535
                · have h2' : (x.shigh != 65535) = false := by simp [h2]
                  have HV : Hid ((!decide (x.slow = 0 ∧ x.shigh = 65535)) = false) := by show _ = _; simp [h1, h2]
                  clear h1 h2
                  go_wp2_with fail
                  go_meet
                  case rel => exact ⟨by rw [HV.out], S.out⟩
                · have h2' : (x.shigh != 65535) = true := by simp [h2]
                  have HV : Hid ((!decide (x.slow = 0 ∧ x.shigh = 65535)) = true) := by show _ = _; simp [h2]
                  clear h1 h2
                  go_wp2_with fail
                  go_meet
                  case rel => exact ⟨by rw [HV.out], S.out⟩
              · have h1' : (x.slow != 0) = true := by simp [h1]
                have HV : Hid ((!decide (x.slow = 0 ∧ x.shigh = 65535)) = true) := by show _ = _; simp [h1]
                clear h1
                go_wp2_with fail
                go_meet
                case rel => exact ⟨by rw [HV.out], S.out⟩
            case rest =>
              clear S
              obtain ⟨rfl, hS⟩ := hcut
              have S : Hid (WrS w.heap.size x w wc C2) := hS
              clear hS
              obtain ⟨b, hb⟩ : ∃ b, b = !decide (x.slow = 0 ∧ x.shigh = 65535) := ⟨_, rfl⟩
              rw [← hb]
              have HB : Hid (b = !decide (x.slow = 0 ∧ x.shigh = 65535)) := hb
              clear hb
              go_upto_if 62 with fail
              go_cut [] from 63 to 72 (fun wx => WrS w.heap.size x w wx (C2 ++ partP wSport x.slow x.shigh))
              case first =>
                cases b with
                | true =>
                  have HP : Hid (partP wSport x.slow x.shigh = [portC7 wSport x.slow x.shigh]) := by
                    have := HB.out
                    show _ = _
                    unfold partP
                    rw [if_neg (fun h => by simp [h] at this)]
                  go_wp2_with fail
                  obtain ⟨v, P, hraw, hrow, hC, hP⟩ := S.out.raw
                  refine rl9_region (by exact Nat.le_of_eq rfl) w.heap.size (w.heap.size + 2) (w.heap.size + 3) x hx v (rawV (rawW x x.prio) v) P rfl rfl S.out.ent hraw rfl S.out.size hrow (by omega) ?_
                  intro y w' v' u hk hr hf
                  have N : Hid (WrS w.heap.size x w (w'.setCell ⟨w.heap.size + 2, 4, none⟩ v') (C2 ++ partP wSport x.slow x.shigh)) := by rw [HP.out]; exact S.out.next hC (by have h5 := congrArg List.length hC; rw [List.length_map] at h5; have h6 := HL2.out; omega) hk hr hf
                  clear hk hr hf hraw hrow
                  simp only [putsD, rl9_D, List.foldl_cons, List.foldl_nil, Act.put, List.setIfInBounds_toArray, List.set_cons_succ, List.set_cons_zero]
                  go_wp2_with fail
                  go_meet
                  case rel => exact N.out
                | false =>
                  have HP : Hid (partP wSport x.slow x.shigh = []) := by
                    have := HB.out
                    show _ = _
                    unfold partP
                    rw [if_pos (by simpa using this)]
                  go_wp2_with fail
                  go_meet
                  case rel => rw [HP.out, List.append_nil]; exact S.out
              case rest =>
                clear S
                obtain ⟨C3, hC3⟩ : ∃ C, C = C2 ++ partP wSport x.slow x.shigh := ⟨_, rfl⟩
                rw [← hC3] at hcut
                have S : Hid (WrS w.heap.size x w wc C3) := hcut
                have HL3 : Hid (C3.length ≤ 3) := by have h6 := HL2.out; have h7 : (partP wSport x.slow x.shigh).length ≤ 1 := (by unfold partP; split <;> simp); show _ ≤ _; rw [hC3, List.length_append]; omega
                have HC3 : Hid (C3 = C2 ++ partP wSport x.slow x.shigh) := hC3
                clear hcut HB hC3
                go_upto_region 10 with fail
                go_cut [80] from 73 to 80 (fun c wx => c = .bool (!decide (x.dlow = 0 ∧ x.dhigh = 65535)) ∧ WrS w.heap.size x w wx C3)
                case first =>
                  have c1 := S.out.cells 8 (.int .i64 x.dlow) rfl
                  have c2 := S.out.cells 9 (.int .i64 x.dhigh) rfl
                  by_cases h1 : x.dlow = 0
                  · have h1' : (x.dlow != 0) = false := by simp [h1]
                    by_cases h2 : x.dhigh = 65535
                    · have h2' : (x.dhigh != 65535) = false := by simp [h2]
                      have HV : Hid ((!decide (x.dlow = 0 ∧ x.dhigh = 65535)) = false) := by show _ = _; simp [h1, h2]
                      clear h1 h2
                      go_wp2_with fail
                      go_meet
                      case rel => exact ⟨by rw [HV.out], S.out⟩
                    · have h2' : (x.dhigh != 65535) = true := by simp [h2]
                      have HV : Hid ((!decide (x.dlow = 0 ∧ x.dhigh = 65535)) = true) := by show _ = _; simp [h2]
                      clear h1 h2
                      go_wp2_with fail
                      go_meet
                      case rel => exact ⟨by rw [HV.out], S.out⟩
                  · have h1' : (x.dlow != 0) = true := by simp [h1]
                    have HV : Hid ((!decide (x.dlow = 0 ∧ x.dhigh = 65535)) = true) := by show _ = _; simp [h1]
                    clear h1
                    go_wp2_with fail
                    go_meet
                    case rel => exact ⟨by rw [HV.out], S.out⟩
                case rest =>
                  clear S
                  obtain ⟨rfl, hS⟩ := hcut
                  have S : Hid (WrS w.heap.size x w wc C3) := hS
                  clear hS
                  obtain ⟨b, hb⟩ : ∃ b, b = !decide (x.dlow = 0 ∧ x.dhigh = 65535) := ⟨_, rfl⟩
                  rw [← hb]
                  have HB : Hid (b = !decide (x.dlow = 0 ∧ x.dhigh = 65535)) := hb
                  clear hb
                  go_upto_if 80 with fail
                  go_cut [] from 81 to 90 (fun wx => WrS w.heap.size x w wx (C3 ++ partP wDport x.dlow x.dhigh))
                  case first =>
                    cases b with
                    | true =>
                      have HP : Hid (partP wDport x.dlow x.dhigh = [portC7 wDport x.dlow x.dhigh]) := by
                        have := HB.out
                        show _ = _
                        unfold partP
                        rw [if_neg (fun h => by simp [h] at this)]
                      go_wp2_with fail
                      obtain ⟨v, P, hraw, hrow, hC, hP⟩ := S.out.raw
                      refine rl11_region (by exact Nat.le_of_eq rfl) w.heap.size (w.heap.size + 2) (w.heap.size + 3) x hx v (rawV (rawW x x.prio) v) P rfl rfl S.out.ent hraw rfl S.out.size hrow (by omega) ?_
                      intro y w' v' u hk hr hf
                      have N : Hid (WrS w.heap.size x w (w'.setCell ⟨w.heap.size + 2, 4, none⟩ v') (C3 ++ partP wDport x.dlow x.dhigh)) := by rw [HP.out]; exact S.out.next hC (by have h5 := congrArg List.length hC; rw [List.length_map] at h5; have h6 := HL3.out; omega) hk hr hf
                      clear hk hr hf hraw hrow
                      simp only [putsD, rl11_D, List.foldl_cons, List.foldl_nil, Act.put, List.setIfInBounds_toArray, List.set_cons_succ, List.set_cons_zero]
                      go_wp2_with fail
                      go_meet
                      case rel => exact N.out
                    | false =>
                      have HP : Hid (partP wDport x.dlow x.dhigh = []) := by
                        have := HB.out
                        show _ = _
                        unfold partP
                        rw [if_pos (by simpa using this)]
                      go_wp2_with fail
                      go_meet
                      case rel => rw [HP.out, List.append_nil]; exact S.out
                  case rest =>
                    clear S
                    obtain ⟨C4, hC4⟩ : ∃ C, C = C3 ++ partP wDport x.dlow x.dhigh := ⟨_, rfl⟩
                    rw [← hC4] at hcut
                    have S : Hid (WrS w.heap.size x w wc C4) := hcut
                    have HL4 : Hid (C4.length ≤ 4) := by have h6 := HL3.out; have h7 : (partP wDport x.dlow x.dhigh).length ≤ 1 := (by unfold partP; split <;> simp); show _ ≤ _; rw [hC4, List.length_append]; omega
                    have HC4 : Hid (C4 = C3 ++ partP wDport x.dlow x.dhigh) := hC4
                    clear hcut HB hC4
                    go_upto_region 12 with fail
                    go_cut [93] from 91 to 93 (fun c wx => c = .bool (!decide (x.proto = -1)) ∧ WrS w.heap.size x w wx C4)
                    case first =>
                      have c1 := S.out.cells 10 (.int .i64 x.proto) rfl
                      by_cases h1 : x.proto = -1
                      · have h1' : (x.proto != -1) = false := by simp [h1]
                        have HV : Hid ((!decide (x.proto = -1)) = false) := by show _ = _; simp [h1]
                        clear h1
                        go_wp2_with fail
                        go_meet
                        case rel => exact ⟨by rw [HV.out], S.out⟩
                      · have h1' : (x.proto != -1) = true := by simp [h1]
                        have HV : Hid ((!decide (x.proto = -1)) = true) := by show _ = _; simp [h1]
                        clear h1
                        go_wp2_with fail
                        go_meet
                        case rel => exact ⟨by rw [HV.out], S.out⟩
                    case rest =>
                      clear S
                      obtain ⟨rfl, hS⟩ := hcut
                      have S : Hid (WrS w.heap.size x w wc C4) := hS
                      clear hS
                      obtain ⟨b, hb⟩ : ∃ b, b = !decide (x.proto = -1) := ⟨_, rfl⟩
                      rw [← hb]
                      have HB : Hid (b = !decide (x.proto = -1)) := hb
                      clear hb
                      go_upto_if 93 with fail
                      go_cut [] from 94 to 103 (fun wx => WrS w.heap.size x w wx (C4 ++ partO x.proto))
                      case first =>
                        cases b with
                        | true =>
                          have HP : Hid (partO x.proto = [protC7 x.proto]) := by
                            have := HB.out
                            show _ = _
                            unfold partO
                            rw [if_neg (fun h => by simp [h] at this)]
                            rfl
                          go_wp2_with fail
                          obtain ⟨v, P, hraw, hrow, hC, hP⟩ := S.out.raw
                          refine rl13_region (by exact Nat.le_of_eq rfl) w.heap.size (w.heap.size + 2) (w.heap.size + 3) x hx v (rawV (rawW x x.prio) v) P rfl rfl S.out.ent hraw rfl S.out.size hrow (by omega) ?_
                          intro y w' v' u hk hr hf
                          have N : Hid (WrS w.heap.size x w (w'.setCell ⟨w.heap.size + 2, 4, none⟩ v') (C4 ++ partO x.proto)) := by rw [HP.out]; exact S.out.next hC (by have h5 := congrArg List.length hC; rw [List.length_map] at h5; have h6 := HL4.out; omega) hk hr hf
                          clear hk hr hf hraw hrow
                          simp only [putsD, rl13_D, List.foldl_cons, List.foldl_nil, Act.put, List.setIfInBounds_toArray, List.set_cons_succ, List.set_cons_zero]
                          go_wp2_with fail
                          go_meet
                          case rel => exact N.out
                        | false =>
                          have HP : Hid (partO x.proto = []) := by
                            have := HB.out
                            show _ = _
                            unfold partO
                            rw [if_pos (by simpa using this)]
                          go_wp2_with fail
                          go_meet
                          case rel => rw [HP.out, List.append_nil]; exact S.out
                      case rest =>
                        clear S
                        have hS : WrS w.heap.size x w wc (C4 ++ partO x.proto) := hcut
                        obtain ⟨v, P, hraw, hrow, hC, hP⟩ := hS.raw
                        have HRW : Hid (RowW (w.heap.size + 3) wc v P ∧ P.map (·.1) = (lineOf x).clauses) := by
                          refine ⟨hrow, ?_⟩
                          rw [hC, HC4.out, HC3.out, HC2.out, HC1.out, HC0.out]
                          unfold lineOf
                          rw [hd]
                          simp
                        have K3 : Hid (wc.heap[w.heap.size + 2]? = some (.cells (rawV (rawW x x.prio) v) 55 (0, 0))) := hraw
                        have K2 : Hid (wc.heap[w.heap.size + 1]? = some (.cells RawE.zero 55 (0, 0))) := hS.res
                        have BW : Hid (Below w.heap.size w wc) := hS.below
                        have HD : Hid (x.dflt = false) := hd
                        obtain ⟨o9, c9, rfl⟩ := gown_slice hrow.1
                        clear hS hcut HB hraw hrow hC hP hd
                        go_wp2_with (first
                          | ((with_reducible refine wl_atL _ rfl rfl ?_); refine wl_loadE (E := RawE) RawOk rfl _ rfl (w.heap.size + 2) 0 rfl _ _ _ (rawV (rawW x x.prio) (.slice o9 P.length c9)) rfl K3.out (own_cells _ _) ?_)
                          | (refine wl_storeE (E := RawE) RawOk rfl _ _ rfl (w.heap.size + 1) (rawV (rawW x x.prio) (.slice o9 P.length c9)) ⟨rfl, by simp [rawV, Value.oneCell']⟩ rfl rfl _ K2.out rfl _ rfl ?_))
                        refine retE (E := RawE) RawOk rfl rfl (w.heap.size + 1) rfl (rawV (rawW x x.prio) (.slice o9 P.length c9)) rfl (setRow_heap _ _ _ _ _ _ K2.out) ?_
                        refine ⟨⟨_, P, rfl, ⟨gown_base (own_setRow8 HRW.out.1.1 (by omega)) (by omega), fun q hq => gown_base (own_setRow8 (HRW.out.1.2 q hq) (by omega)) (by omega)⟩, HRW.out.2⟩, below_setRow BW.out (by omega) _⟩
end Go.Proofs.YtbdbjbmjnemknaaDoor
namespace Go.Proofs.YtbdbjbmjnemknaaDoor
open Go Go.RowKit
set_option maxRecDepth 20000

/-- The reference's walk at block g, in a state; its tokens lie in memory that was there ahead of it. -/
def wkV (Lv : Value) (E : Nat) (s : Ws) : Array Value := #[Lv, .int .i64 (s.i : Int), .int .i64 (E : Int), .int .i64 (s.bad : Int), .int .i64 (s.pos : Int)]
theorem later_cell6 {W : World} {g k : Nat} {cs : Array Value} {t : TypeId} {fr : Nat × Nat} {v : Value} (hg : W.heap[g]? = some (.cells cs t fr)) (hk : cs[k]? = some v) : ∀ u : Later W, u.world.cell? ⟨g, k, none⟩ = some v := fun u => by
  rw [cell_of_row _ _ _ _ _ _ (later_block hg _ ⟨u, rfl⟩), hk]

theorem q_val {C : World → Prop} {ops : Array Oper} {Q : Act → Prop} {rest : List Oper} {o : Oper} {a : Act} (hw : Region.wanted o (yielded ops a.tmps) = true) (v : Value) (hx : ∀ w, C w → (execOp a.eval o).run Tryd.prog w = .ok (.value v) w) (h : wpQuiet Tryd.prog ops C Q rest (a.put o.dst v)) : wpQuiet Tryd.prog ops C Q (o :: rest) a := by
  refine BigFrame.wpQuiet_want hw fun K hK => ⟨v, fun w hC => ?_, hK _ h⟩
  unfold Oper.quietAt
  rw [hx w hC]
  exact ⟨rfl, rfl⟩
theorem q_nil {C : World → Prop} {ops : Array Oper} {Q : Act → Prop} {rest : List Oper} {o : Oper} {a : Act} (hw : Region.wanted o (yielded ops a.tmps) = true) (x : Operand) (ho : o.op = .nilCheck x) (ad : Addr) (hx : a.eval x = .pointer (some ad)) (h : wpQuiet Tryd.prog ops C Q rest (a.put o.dst (.pointer (some ad)))) : wpQuiet Tryd.prog ops C Q (o :: rest) a := by
  refine q_val hw _ (fun w _ => ?_) h
  unfold execOp
  simp only [ho, hx]
  simp [go_sem]

theorem q_field {C : World → Prop} {ops : Array Oper} {Q : Act → Prop} {rest : List Oper} {o : Oper} {a : Act} (hw : Region.wanted o (yielded ops a.tmps) = true) (t : TypeId) (x : Operand) (i : Nat) (ho : o.op = .fieldAddr t x i) (u v : Value) (hx : a.eval x = u) (hf : ∀ w, (Instr.fieldAt t u i).run Tryd.prog w = .ok v w) (h : wpQuiet Tryd.prog ops C Q rest (a.put o.dst v)) : wpQuiet Tryd.prog ops C Q (o :: rest) a :=
  q_val hw _ (fun w _ => run_fieldOp ho a w v (by rw [hx]; exact hf w)) h
theorem q_load {C : World → Prop} {ops : Array Oper} {Q : Act → Prop} {rest : List Oper} {o : Oper} {a : Act} (hw : Region.wanted o (yielded ops a.tmps) = true) (t : TypeId) (x : Operand) (ho : o.op = .load t x) (u v : Value) (hx : a.eval x = u) (hl : ∀ w, C w → (Instr.loadAt t u).run Tryd.prog w = .ok v w) (h : wpQuiet Tryd.prog ops C Q rest (a.put o.dst v)) : wpQuiet Tryd.prog ops C Q (o :: rest) a :=
  q_val hw _ (fun w hC => run_loadOp ho a w u v hx (hl w hC)) h
theorem q_move {C : World → Prop} {ops : Array Oper} {Q : Act → Prop} {rest : List Oper} {o : Oper} {a : Act} (hw : Region.wanted o (yielded ops a.tmps) = true) (x : Operand) (ho : o.op = .move x) (v : Value) (hx : a.eval x = v) (h : wpQuiet Tryd.prog ops C Q rest (a.put o.dst v)) : wpQuiet Tryd.prog ops C Q (o :: rest) a :=
  q_val hw _ (fun w _ => run_moveOp ho a w v hx) h
theorem agg3 (W : World) : (isAgg 3).run Tryd.prog W = .ok false W := by kernel_rfl
theorem agg24 (W : World) : (isAgg 24).run Tryd.prog W = .ok false W := by kernel_rfl
theorem agg29 (W : World) : (isAgg 59).run Tryd.prog W = .ok false W := by kernel_rfl
end Go.Proofs.YtbdbjbmjnemknaaDoor
namespace Go.Proofs.YtbdbjbmjnemknaaDoor
open Go Go.RowKit
set_option maxRecDepth 20000

theorem one_byte (w : World) (b : UInt8) : (convert 40 9 (.slice (some ⟨w.heap.size, 0, none⟩) 1 1)).run Tryd.prog (w.alloc (.cells #[.int .u8 (b.toNat : Int)] 5)) = .ok (.string ⟨#[b]⟩) (w.alloc (.cells #[.int .u8 (b.toNat : Int)] 5)) := by
  have := run_convert_bytes_back (w.alloc (.cells #[.int .u8 (b.toNat : Int)] 5)) 40 9 5 ⟨w.heap.size, 0, none⟩ 1 [b] Tryd.underlying40 Tryd.underlying5 Tryd.underlying9 (fun j hj => by
    obtain rfl : j = 0 := by simp at hj; omega
    show (w.alloc _).cell? ((⟨w.heap.size, 0, none⟩ : Addr).add 0) = _
    rw [show ((⟨w.heap.size, 0, none⟩ : Addr).add 0) = ⟨w.heap.size, 0, none⟩ from rfl, cell_of_row _ _ _ _ _ _ (heap_new _ _ _ rfl)]
    rfl)
  exact this
theorem str_add (a b : List UInt8) : (⟨a.toArray⟩ ++ ⟨b.toArray⟩ : ByteArray) = ⟨(a ++ b).toArray⟩ := by
  apply ByteArray.ext
  simp

set_option maxHeartbeats 8000000 in
set_option maxRecDepth 100000 in
theorem digit_any (n : Int) (h0 : 0 ≤ n) (h9 : n < 10) (w : World) :
    Calls Tryd.prog 36 #[.int .i64 n] w fun e w' => e = .returned (.string ⟨(decI n).toArray⟩) ∧ Below w.heap.size w w' := by
  rw [decI_digit h0 h9]
  rcases (show n = 0 ∨ n = 1 ∨ n = 2 ∨ n = 3 ∨ n = 4 ∨ n = 5 ∨ n = 6 ∨ n = 7 ∨ n = 8 ∨ n = 9 by omega) with h | h | h | h | h | h | h | h | h | h
  all_goals
    subst h
    clear h0 h9
  · have hcv := one_byte w 48
    rw [show (((48 : UInt8).toNat : Nat) : Int) = 48 from rfl] at hcv
    have hb : Below w.heap.size w (w.alloc (.cells #[.int .u8 48] 5)) := (Below.refl _ _).alloc (Nat.le_refl _) _
    go_enter Tryd.func36, Tryd.ntmps36
    go_wp2_with fail
    go_ret
    exact ⟨rfl, hb⟩
  · have hcv := one_byte w 49
    rw [show (((49 : UInt8).toNat : Nat) : Int) = 49 from rfl] at hcv
    have hb : Below w.heap.size w (w.alloc (.cells #[.int .u8 49] 5)) := (Below.refl _ _).alloc (Nat.le_refl _) _
    go_enter Tryd.func36, Tryd.ntmps36
    go_wp2_with fail
    go_ret
    exact ⟨rfl, hb⟩
  · have hcv := one_byte w 50
    rw [show (((50 : UInt8).toNat : Nat) : Int) = 50 from rfl] at hcv
    have hb : Below w.heap.size w (w.alloc (.cells #[.int .u8 50] 5)) := (Below.refl _ _).alloc (Nat.le_refl _) _
    go_enter Tryd.func36, Tryd.ntmps36
    go_wp2_with fail
    go_ret
    exact ⟨rfl, hb⟩
  · have hcv := one_byte w 51
    rw [show (((51 : UInt8).toNat : Nat) : Int) = 51 from rfl] at hcv
    have hb : Below w.heap.size w (w.alloc (.cells #[.int .u8 51] 5)) := (Below.refl _ _).alloc (Nat.le_refl _) _
    go_enter Tryd.func36, Tryd.ntmps36
    go_wp2_with fail
    go_ret
    exact ⟨rfl, hb⟩
  · have hcv := one_byte w 52
    rw [show (((52 : UInt8).toNat : Nat) : Int) = 52 from rfl] at hcv
    have hb : Below w.heap.size w (w.alloc (.cells #[.int .u8 52] 5)) := (Below.refl _ _).alloc (Nat.le_refl _) _
    go_enter Tryd.func36, Tryd.ntmps36
    go_wp2_with fail
    go_ret
    exact ⟨rfl, hb⟩
  · have hcv := one_byte w 53
    rw [show (((53 : UInt8).toNat : Nat) : Int) = 53 from rfl] at hcv
    have hb : Below w.heap.size w (w.alloc (.cells #[.int .u8 53] 5)) := (Below.refl _ _).alloc (Nat.le_refl _) _
    go_enter Tryd.func36, Tryd.ntmps36
    go_wp2_with fail
    go_ret
    exact ⟨rfl, hb⟩
  · have hcv := one_byte w 54
    rw [show (((54 : UInt8).toNat : Nat) : Int) = 54 from rfl] at hcv
    have hb : Below w.heap.size w (w.alloc (.cells #[.int .u8 54] 5)) := (Below.refl _ _).alloc (Nat.le_refl _) _
    go_enter Tryd.func36, Tryd.ntmps36
    go_wp2_with fail
    go_ret
    exact ⟨rfl, hb⟩
  · have hcv := one_byte w 55
    rw [show (((55 : UInt8).toNat : Nat) : Int) = 55 from rfl] at hcv
    have hb : Below w.heap.size w (w.alloc (.cells #[.int .u8 55] 5)) := (Below.refl _ _).alloc (Nat.le_refl _) _
    go_enter Tryd.func36, Tryd.ntmps36
    go_wp2_with fail
    go_ret
    exact ⟨rfl, hb⟩
  · have hcv := one_byte w 56
    rw [show (((56 : UInt8).toNat : Nat) : Int) = 56 from rfl] at hcv
    have hb : Below w.heap.size w (w.alloc (.cells #[.int .u8 56] 5)) := (Below.refl _ _).alloc (Nat.le_refl _) _
    go_enter Tryd.func36, Tryd.ntmps36
    go_wp2_with fail
    go_ret
    exact ⟨rfl, hb⟩
  · have hcv := one_byte w 57
    rw [show (((57 : UInt8).toNat : Nat) : Int) = 57 from rfl] at hcv
    have hb : Below w.heap.size w (w.alloc (.cells #[.int .u8 57] 5)) := (Below.refl _ _).alloc (Nat.le_refl _) _
    go_enter Tryd.func36, Tryd.ntmps36
    go_wp2_with fail
    go_ret
    exact ⟨rfl, hb⟩

set_option maxHeartbeats 8000000 in
set_option maxRecDepth 100000 in
theorem decimal_ind : ∀ (m : Nat) (n : Int), n.natAbs < m → okN n → ∀ w : World,
    Calls Tryd.prog 36 #[.int .i64 n] w fun e w' => e = .returned (.string ⟨(decI n).toArray⟩) ∧ Below w.heap.size w w'
  | 0, n, h, _, _ => by omega
  | m + 1, n, hm, hk, w => by
    by_cases h0 : 0 ≤ n
    · by_cases h9 : n < 10
      · exact digit_any n h0 h9 w
      · have hd : n.tdiv 10 = n / 10 := Int.tdiv_eq_ediv_of_nonneg h0
        have hr : n.tmod 10 = n % 10 := Int.tmod_eq_emod_of_nonneg h0
        have D1 : Hid (∀ W, Calls Tryd.prog 36 #[.int .i64 (n.tdiv 10)] W fun e w' => e = .returned (.string ⟨(decI (n.tdiv 10)).toArray⟩) ∧ Below W.heap.size W w') := decimal_ind m (n.tdiv 10) (by omega) (by unfold okN at hk ⊢; omega)
        have D2 : Hid (∀ W, Calls Tryd.prog 36 #[.int .i64 (n.tmod 10)] W fun e w' => e = .returned (.string ⟨(decI (n.tmod 10)).toArray⟩) ∧ Below W.heap.size W w') := decimal_ind m (n.tmod 10) (by omega) (by unfold okN at hk ⊢; omega)
        rw [decI_ten (by omega)]
        have hk1 := hk.1
        have hk2 := hk.2
        have h10 : 10 ≤ n := by omega
        obtain ⟨A, hA⟩ : ∃ A, A = decI (n.tdiv 10) := ⟨_, rfl⟩
        obtain ⟨B, hB⟩ : ∃ B, B = decI (n.tmod 10) := ⟨_, rfl⟩
        rw [← hA] at D1 ⊢
        rw [← hB] at D2 ⊢
        rw [hd] at D1
        rw [hr] at D2
        have hla : ¬ 9223372036854775807 < A.length + B.length := by
          have e1 := decI_len (n.tdiv 10) (by omega) (by omega)
          have e2 := decI_len (n.tmod 10) (by omega) (by omega)
          rw [← hA] at e1
          rw [← hB] at e2
          omega
        clear hA hB hk hm hd hr
        go_enter Tryd.func36, Tryd.ntmps36
        go_wp2_with fail
        refine (D1.out _).mono ?_
        rintro e w1 ⟨rfl, hb1⟩
        have B1 : Hid (Below w.heap.size w w1) := hb1
        clear hb1
        go_wp2_with fail
        refine (D2.out _).mono ?_
        rintro e w2 ⟨rfl, hb2⟩
        have B2 : Hid (Below w.heap.size w w2) := B1.out.trans (hb2.mono B1.out.size)
        clear hb2
        go_wp2_with fail
        go_ret
        refine ⟨?_, B2.out⟩
        rw [str_add]
        rfl
    · by_cases h10 : -10 < n
      · have D1 : Hid (∀ W, Calls Tryd.prog 36 #[.int .i64 (-n)] W fun e w' => e = .returned (.string ⟨(decI (-n)).toArray⟩) ∧ Below W.heap.size W w') := digit_any (-n) (by omega) (by omega)
        rw [decI_minus (by omega)]
        obtain ⟨A, hA⟩ : ∃ A, A = decI (-n) := ⟨_, rfl⟩
        rw [← hA] at D1 ⊢
        have hla : ¬ 9223372036854775807 < 1 + A.length := by
          have e1 := decI_len (-n) (by omega) (by omega)
          rw [← hA] at e1
          omega
        clear hA hk hm
        have h0' : n < 0 := by omega
        have h0'' : ¬ 10 ≤ n := by omega
        go_enter Tryd.func36, Tryd.ntmps36
        go_wp2_with fail
        refine (D1.out _).mono ?_
        rintro e w1 ⟨rfl, hb1⟩
        have B1 : Hid (Below w.heap.size w w1) := hb1
        clear hb1
        go_wp2_with fail
        go_ret
        refine ⟨?_, B1.out⟩
        exact congrArg (fun x => Ending.returned (.string x)) (str_add [45] A)
      · have hdd : n.tdiv 10 = -((-n) / 10) := by
          rw [show n.tdiv 10 = -((-n).tdiv 10) by rw [Int.neg_tdiv]; omega, Int.tdiv_eq_ediv_of_nonneg (by omega)]
        have hrr : n.tmod 10 = -((-n) % 10) := by
          rw [show n.tmod 10 = -((-n).tmod 10) by rw [Int.neg_tmod]; omega, Int.tmod_eq_emod_of_nonneg (by omega)]
        have D1 : Hid (∀ W, Calls Tryd.prog 36 #[.int .i64 (n.tdiv 10)] W fun e w' => e = .returned (.string ⟨(decI (n.tdiv 10)).toArray⟩) ∧ Below W.heap.size W w') := decimal_ind m (n.tdiv 10) (by omega) (by unfold okN at hk ⊢; omega)
        have D2 : Hid (∀ W, Calls Tryd.prog 36 #[.int .i64 (-(n.tmod 10))] W fun e w' => e = .returned (.string ⟨(decI (-(n.tmod 10))).toArray⟩) ∧ Below W.heap.size W w') := digit_any _ (by omega) (by omega)
        rw [decI_minusten (by omega)]
        have hk1 := hk.1
        have hk2 := hk.2
        have h0' : n < 0 := by omega
        have h0'' : ¬ 10 ≤ n := by omega
        have h0''' : ¬ -10 < n := h10
        have t1 : -922337203685477580 ≤ n.tdiv 10 := by omega
        have t2 : n.tdiv 10 ≤ 0 := by omega
        have t3 : -9 ≤ n.tmod 10 := by omega
        have t4 : n.tmod 10 ≤ 0 := by omega
        obtain ⟨A, hA⟩ : ∃ A, A = decI (n.tdiv 10) := ⟨_, rfl⟩
        obtain ⟨B, hB⟩ : ∃ B, B = decI (-(n.tmod 10)) := ⟨_, rfl⟩
        rw [← hA] at D1 ⊢
        rw [← hB] at D2 ⊢
        have hla : ¬ 9223372036854775807 < A.length + B.length := by
          have e1 := decI_len (n.tdiv 10) (by omega) (by omega)
          have e2 := decI_len (-(n.tmod 10)) (by omega) (by omega)
          rw [← hA] at e1
          rw [← hB] at e2
          omega
        clear hA hB hk hm hdd hrr
        go_enter Tryd.func36, Tryd.ntmps36
        go_wp2_with fail
        refine (D1.out _).mono ?_
        rintro e w1 ⟨rfl, hb1⟩
        have B1 : Hid (Below w.heap.size w w1) := hb1
        clear hb1
        go_wp2_with fail
        refine (D2.out _).mono ?_
        rintro e w2 ⟨rfl, hb2⟩
        have B2 : Hid (Below w.heap.size w w2) := B1.out.trans (hb2.mono B1.out.size)
        clear hb2
        go_wp2_with fail
        go_ret
        refine ⟨?_, B2.out⟩
        rw [str_add]
        rfl
theorem decimal_any (n : Int) (hn : okN n) (w : World) : Calls Tryd.prog 36 #[.int .i64 n] w fun e w' => e = .returned (.string ⟨(decI n).toArray⟩) ∧ Below w.heap.size w w' := decimal_ind (n.natAbs + 1) n (by omega) hn w
end Go.Proofs.YtbdbjbmjnemknaaDoor
namespace Go.Proofs.YtbdbjbmjnemknaaDoor
open Go Go.RowKit
set_option maxRecDepth 20000

/-- A line's print as far as it has come. -/
def frP (x : Raw) : List UInt8 := if x.dflt then wDefault else decI x.prio.n
def basP (x : Raw) (q : Nat) : List UInt8 := frP x ++ (x.clauses.take q).flatMap claP
def innP (x : Raw) (q : Nat) (c : Cla) (j : Nat) : List UInt8 := basP x q ++ (32 :: c.word ++ (32 :: numsTo c j))
theorem basP_next {x : Raw} {q : Nat} {c : Cla} (h : x.clauses[q]? = some c) : basP x (q + 1) = innP x q c c.nums.length := by
  unfold basP innP basP
  rw [clas_take _ _ _ h, numsTo_all, ← List.append_assoc]
  rfl
theorem innP_zero (x : Raw) (q : Nat) (c : Cla) : innP x q c 0 = ((basP x q ++ [32]) ++ c.word) ++ [32] := by
  unfold innP numsTo
  simp
theorem innP_first (x : Raw) (q : Nat) (c : Cla) {f : Fig} (h : c.nums[0]? = some f) : innP x q c 1 = innP x q c 0 ++ decI f.n := by
  unfold innP
  rw [numsTo]
  simp [numsTo, numJ, h]
theorem innP_next (x : Raw) (q : Nat) (c : Cla) {j : Nat} {f : Fig} (hj : j ≠ 0) (h : c.nums[j]? = some f) : innP x q c (j + 1) = (innP x q c j ++ [signJ c j]) ++ decI f.n := by
  unfold innP
  rw [numsTo, if_neg hj]
  simp [numJ, h]
theorem raw_g6 {w : World} {b : Nat} {x : Raw} {u : Value} {ty : TypeId} {fr : Nat × Nat} (h : w.heap[b]? = some (.cells (rawV x u) ty fr)) :
    w.cell? ⟨b, 0, none⟩ = some (.int .i64 x.pos) ∧ w.cell? ⟨b, 1, none⟩ = some (.bool x.dflt) ∧ w.cell? ⟨b, 2, none⟩ = some (.int .i64 x.prio.n) ∧ w.cell? ⟨b, 4, none⟩ = some u ∧ w.cell? ⟨b, 5, none⟩ = some (.bool x.drop) ∧ w.cell? ⟨b, 6, none⟩ = some (.int .i64 x.port.n) := by
  refine ⟨?_, ?_, ?_, ?_, ?_, ?_⟩ <;> (rw [cell_of_row _ _ _ _ _ _ h]; rfl)
theorem cla_g6 {w : World} {b : Nat} {c : Cla} {u : Value} {ty : TypeId} {fr : Nat × Nat} (h : w.heap[b]? = some (.cells (claV c u) ty fr)) :
    w.cell? ⟨b, 0, none⟩ = some (.string ⟨c.word.toArray⟩) ∧ w.cell? ⟨b, 1, none⟩ = some (.int .i64 c.pos) ∧ w.cell? ⟨b, 2, none⟩ = some u ∧ w.cell? ⟨b, 3, none⟩ = some (.bool c.slash) ∧ w.cell? ⟨b, 4, none⟩ = some (.bool c.dash) := by
  refine ⟨?_, ?_, ?_, ?_, ?_⟩ <;> (rw [cell_of_row _ _ _ _ _ _ h]; rfl)
theorem basP_mono (x : Raw) (q : Nat) : (basP x q).length ≤ (basP x x.clauses.length).length := by
  unfold basP
  rw [List.take_length, List.length_append, List.length_append]
  have : (x.clauses.flatMap claP) = (x.clauses.take q).flatMap claP ++ (x.clauses.drop q).flatMap claP := by
    rw [← List.flatMap_append, List.take_append_drop]
  rw [this, List.length_append]
  omega
theorem basP_row (x : Raw) (q : Nat) : (basP x q).length + 20 ≤ (rowP x).length + 20 := by
  have h := basP_mono x q
  unfold rowP headP
  unfold basP frP at h ⊢
  rw [List.take_length] at h
  simp only [List.length_append] at h ⊢
  omega
theorem innP_row {x : Raw} {q : Nat} {c : Cla} (h : x.clauses[q]? = some c) {j : Nat} (hj : j ≤ c.nums.length) : (innP x q c j).length ≤ (rowP x).length := by
  have h1 := basP_row x (q + 1)
  rw [basP_next h] at h1
  have h2 := numsTo_mono c j (c.nums.length - j)
  rw [Nat.add_sub_cancel' hj] at h2
  unfold innP at h1 ⊢
  simp only [List.length_append, List.length_cons] at h1 ⊢
  omega
theorem str2 (A B : List UInt8) : (⟨A.toArray⟩ ++ ⟨B.toArray⟩ : ByteArray) = ⟨(A ++ B).toArray⟩ := str_add A B

set_option maxHeartbeats 32000000 in
set_option maxRecDepth 100000 in
theorem rprint_any (l : List Raw) (vl : Value) (w : World) (hl : RawsAt w vl l) (hok : ∀ x ∈ l, okNs x) (hn : (printT l).length ≤ 700000) :
    Calls Tryd.prog 18 #[vl] w fun e w' => e = .returned (.string ⟨(printT l).toArray⟩) ∧ Below w.heap.size w w' := by
  have DE : Hid (∀ n, okN n → ∀ W, Calls Tryd.prog 36 #[.int .i64 n] W fun e w' => e = .returned (.string ⟨(decI n).toArray⟩) ∧ Below W.heap.size W w') := decimal_any
  obtain ⟨o, cap, rfl, hc1, hc2⟩ := NSl.slice hl
  obtain ⟨n, hnn⟩ : ∃ n, n = l.length := ⟨_, rfl⟩
  have HN : Hid (n = l.length) := hnn
  rw [← hnn] at hl hc1 ⊢
  unfold maxLen at hc2
  have HL : Hid (RawsAt w (.slice o n cap) l) := hl
  have HOK : Hid (∀ x ∈ l, okNs x) := hok
  have HLEN : Hid ((printT l).length ≤ 700000) := hn
  obtain ⟨S, hS⟩ : ∃ S, S = printT l := ⟨_, rfl⟩
  rw [← hS]
  have HS : Hid (S = printT l) := hS
  clear hl hok hn hnn hS
  go_enter Tryd.func18, Tryd.ntmps18
  go_wp2_with fail
  go_loopw [3, 4] (fun s i wr => ∃ k : Nat, k ≤ n ∧ i = .int .i64 (k : Int) ∧ s = .string ⟨(printT (l.take k)).toArray⟩ ∧ Below w.heap.size w wr) (fun _ i _ => n - (intOf i).toNat)
  case atStart => exact ⟨0, Nat.zero_le _, rfl, rfl, Below.refl _ _⟩
  case round =>
    obtain ⟨k, hk, rfl, rfl, hb⟩ := hrel
    have HB : Hid (Below w.heap.size w wr) := hb
    clear hb
    by_cases hlt : k < n
    · obtain ⟨g, off, cur, ty, fr, x, u', rfl, hg, hc, hcj, hcl⟩ := NSl.at HL.out k hlt
      have K1 : Hid (wr.heap[g]? = some (.cells cur ty fr)) := (HB.out.block g (Array.getElem?_eq_some_iff.1 hg).1).trans hg
      obtain ⟨o1, c1, rfl, h11, h12⟩ := NSl.slice hcl
      obtain ⟨n1, hn1⟩ : ∃ n1, n1 = x.clauses.length := ⟨_, rfl⟩
      have HN1 : Hid (n1 = x.clauses.length) := hn1
      rw [← hn1] at hcl hc h11
      have HCX : Hid (ClasAt w x (.slice o1 n1 c1)) := hcl
      have H1 : Hid (∀ q, q < 8 → cur[off + k * 8 + q]? = (rawV x (.slice o1 n1 c1))[q]?) := hc
      have HOX : Hid (okNs x) := HOK.out x (List.mem_of_getElem? hcj)
      have HTK : Hid (printT (l.take (k + 1)) = printT (l.take k) ++ rowP x) := print_take _ k x hcj
      have hle := print_take_le l (k + 1)
      rw [HTK.out, List.length_append] at hle
      have HRL : Hid ((printT (l.take k)).length + (rowP x).length ≤ 700000) := by have := HLEN.out; show _ ≤ _; omega
      have hlt' : (k : Int) < (n : Int) := by omega
      have HLT : Hid (k < n) := hlt
      unfold maxLen at h12
      obtain ⟨T0, hT0⟩ : ∃ T0, T0 = printT (l.take k) := ⟨_, rfl⟩
      have HT0 : Hid (T0 = printT (l.take k)) := hT0
      rw [← hT0] at HTK HRL ⊢
      obtain ⟨W1, hW1⟩ : ∃ W1, W1 = wr.alloc (.cells (rawV x (.slice o1 n1 c1)) 55) := ⟨_, rfl⟩
      have KF : Hid (W1.heap[wr.heap.size]? = some (.cells (rawV x (.slice o1 n1 c1)) 55 (0, 0))) := by rw [hW1]; exact heap_new _ _ _ rfl
      have BW1 : Hid (Below w.heap.size w W1) := by rw [hW1]; exact HB.out.alloc HB.out.size _
      have f2 := (raw_g6 KF.out).2.2.1
      rw [hW1] at f2
      have DP : Hid (∀ W, Calls Tryd.prog 36 #[.int .i64 x.prio.n] W fun e w' => e = .returned (.string ⟨(decI x.prio.n).toArray⟩) ∧ Below W.heap.size W w') := DE.out _ HOX.out.1
      clear hg hc hcj hcl hn1 hT0 hle hlt
      go_wp2_with (first
        | (refine wl_loadE (E := RawE) RawOk rfl _ rfl g (off + k * 8) rfl cur ty fr (rawV x (.slice o1 n1 c1)) rfl K1.out H1.out ?_)
        | (refine wl_storeE (E := RawE) RawOk rfl _ _ rfl wr.heap.size (rawV x (.slice o1 n1 c1)) ⟨rfl, by simp [rawV, Value.oneCell']⟩ rfl rfl _ (heap_new _ _ _ rfl) rfl _ (setRow_new _ _ _ _ _ rfl) ?_))
      rw [← hW1]
      refine (DP.out _).mono ?_
      rintro e w2 ⟨rfl, hb2⟩
      have hsz : wr.heap.size < W1.heap.size := (Array.getElem?_eq_some_iff.1 KF.out).1
      have K2 : Hid (w2.heap[wr.heap.size]? = some (.cells (rawV x (.slice o1 n1 c1)) 55 (0, 0))) := (hb2.block _ hsz).trans KF.out
      have B2 : Hid (Below w.heap.size w w2) := BW1.out.trans (hb2.mono BW1.out.size)
      obtain ⟨G, hG⟩ : ∃ G, G = wr.heap.size := ⟨_, rfl⟩
      have HGW : Hid (w.heap.size ≤ G) := by rw [hG]; exact HB.out.size
      rw [← hG] at K2 ⊢
      clear hb2 hsz KF BW1 K1 H1 f2 HB hW1 DP hG
      have e1 := (raw_g6 K2.out).2.1
      obtain ⟨R0, hR0⟩ : ∃ R0, R0 = frP x := ⟨_, rfl⟩
      cases hd : x.dflt with
      | true =>
        rw [hd] at e1
        have HR0 : Hid (basP x 0 = R0) := by
          show _ = _
          rw [hR0]
          unfold basP
          simp
        have hRR : R0 = wDefault := by rw [hR0]; unfold frP; rw [hd]; rfl
        clear hR0 hd
        go_wp2_with fail
        go_loopw [6, 7] (fun s i wr => ∃ q : Nat, q ≤ n1 ∧ i = .int .i64 (q : Int) ∧ s = .string ⟨(basP x q).toArray⟩ ∧ wr.heap[G]? = some (.cells (rawV x (.slice o1 n1 c1)) 55 (0, 0)) ∧ Below w.heap.size w wr) (fun _ i _ => n1 - (intOf i).toNat)
        case atStart => exact ⟨0, Nat.zero_le _, rfl, by rw [HR0.out, hRR]; rfl, K2.out, B2.out⟩
        case round =>
          clear K2 B2 e1
          obtain ⟨q, hq, rfl, rfl, hr, hb⟩ := hrel
          have K2 : Hid (wr.heap[G]? = some (.cells (rawV x (.slice o1 n1 c1)) 55 (0, 0))) := hr
          have HB : Hid (Below w.heap.size w wr) := hb
          clear hr hb
          obtain ⟨-, -, -, f4, f5, f6⟩ := raw_g6 K2.out
          by_cases hqn : q < n1
          · obtain ⟨g1, off1, cur1, ty1, fr1, c, u', rfl, hg, hc, hcj, hcl⟩ := NSl.at HCX.out q hqn
            have K1 : Hid (wr.heap[g1]? = some (.cells cur1 ty1 fr1)) := (HB.out.block g1 (Array.getElem?_eq_some_iff.1 hg).1).trans hg
            obtain ⟨o2, c2, rfl, h21, h22⟩ := GSl.slice hcl
            obtain ⟨n2, hn2⟩ : ∃ n2, n2 = c.nums.length := ⟨_, rfl⟩
            have HN2 : Hid (n2 = c.nums.length) := hn2
            rw [← hn2] at hcl hc h21
            have HCC : Hid (FigsAt w c (.slice o2 n2 c2)) := hcl
            have H1 : Hid (∀ i, i < 5 → cur1[off1 + q * 5 + i]? = (claV c (.slice o2 n2 c2))[i]?) := hc
            have HCQ : Hid (x.clauses[q]? = some c) := hcj
            have HOC : Hid (∀ f ∈ c.nums, okN f.n) := HOX.out.2.2 c (List.mem_of_getElem? hcj)
            have HBL : Hid ((basP x q).length ≤ 700000) := by have h1 := basP_row x q; have h2 := HRL.out; show _ ≤ _; omega
            have HIL : Hid (∀ j, j ≤ n2 → (innP x q c j).length ≤ 700000) := fun j hj => by have h1 := innP_row hcj (j := j) (by omega); have h2 := HRL.out; omega
            have HWL : Hid (c.word.length ≤ 700000) := by
              have h1 := HIL.out 0 (Nat.zero_le _)
              rw [innP_zero] at h1
              simp only [List.length_append] at h1
              show _ ≤ _
              omega
            have hqn' : (q : Int) < (n1 : Int) := by omega
            have HQN : Hid (q < n1) := hqn
            unfold maxLen at h22
            obtain ⟨A, hA⟩ : ∃ A, A = basP x q := ⟨_, rfl⟩
            have HA : Hid (A = basP x q) := hA
            rw [← hA] at HBL ⊢
            have l1 : ¬ 9223372036854775807 < A.length + 1 := by have := HBL.out; omega
            have l2 : ¬ 9223372036854775807 < A.length + 1 + c.word.length := by have := HBL.out; have := HWL.out; omega
            have l3 : ¬ 9223372036854775807 < A.length + 1 + c.word.length + 1 := by have := HBL.out; have := HWL.out; omega
            obtain ⟨W1, hW1⟩ : ∃ W1, W1 = wr.alloc (.cells (claV c (.slice o2 n2 c2)) 76) := ⟨_, rfl⟩
            have KF : Hid (W1.heap[wr.heap.size]? = some (.cells (claV c (.slice o2 n2 c2)) 76 (0, 0))) := by rw [hW1]; exact heap_new _ _ _ rfl
            have K3 : Hid (W1.heap[G]? = some (.cells (rawV x (.slice (some ⟨g1, off1, none⟩) n1 c1)) 55 (0, 0))) := by rw [hW1]; exact heap_past _ _ _ _ K2.out
            have BW1 : Hid (Below w.heap.size w W1) := by rw [hW1]; exact HB.out.alloc HB.out.size _
            have f0 := (cla_g6 KF.out).1
            rw [hW1] at f0
            clear hg hc hcj hcl hn2 hA hqn f5 f6
            go_wp2_with (first
              | (refine wl_loadE (E := ClaE) ClaOk rfl _ rfl g1 (off1 + q * 5) rfl cur1 ty1 fr1 (claV c (.slice o2 n2 c2)) rfl K1.out H1.out ?_)
              | (refine wl_storeE (E := ClaE) ClaOk rfl _ _ rfl wr.heap.size (claV c (.slice o2 n2 c2)) ⟨rfl, by simp [claV, Value.oneCell']⟩ rfl rfl _ (heap_new _ _ _ rfl) rfl _ (setRow_new _ _ _ _ _ rfl) ?_))
            rw [← hW1]
            have hz2 : Hid (G < wr.heap.size) := (Array.getElem?_eq_some_iff.1 K2.out).1
            obtain ⟨G2, hG2⟩ : ∃ G2, G2 = wr.heap.size := ⟨_, rfl⟩
            rw [← hG2] at KF hz2 ⊢
            have HST : Hid ((⟨A.toArray⟩ ++ ⟨#[32]⟩ ++ ⟨c.word.toArray⟩ ++ ⟨#[32]⟩ : ByteArray) = ⟨(innP x q c 0).toArray⟩) := by
              show _ = _
              rw [innP_zero, ← HA.out, show (⟨#[32]⟩ : ByteArray) = ⟨([32] : List UInt8).toArray⟩ from rfl, str2, str2, str2]
            clear f0 f4 K1 K2 H1 HB hW1 hG2 l1 l2 l3
            go_loopw [6, 9] (fun s i wr => ∃ j : Nat, j ≤ n2 ∧ i = .int .i64 (j : Int) ∧ s = .string ⟨(innP x q c j).toArray⟩ ∧ wr.heap[G]? = some (.cells (rawV x (.slice (some ⟨g1, off1, none⟩) n1 c1)) 55 (0, 0)) ∧ wr.heap[G2]? = some (.cells (claV c (.slice o2 n2 c2)) 76 (0, 0)) ∧ Below w.heap.size w wr) (fun _ i _ => n2 - (intOf i).toNat)
            case atStart => exact ⟨0, Nat.zero_le _, rfl, by rw [← HST.out], K3.out, KF.out, BW1.out⟩
            case round =>
              clear K3 KF BW1
              obtain ⟨j, hj, rfl, rfl, hr, hr2, hb⟩ := hrel
              have K2 : Hid (wr.heap[G]? = some (.cells (rawV x (.slice (some ⟨g1, off1, none⟩) n1 c1)) 55 (0, 0))) := hr
              have K3 : Hid (wr.heap[G2]? = some (.cells (claV c (.slice o2 n2 c2)) 76 (0, 0))) := hr2
              have HB : Hid (Below w.heap.size w wr) := hb
              clear hr hr2 hb
              obtain ⟨-, -, d2, d3, d4⟩ := cla_g6 K3.out
              by_cases hjn : j < n2
              · obtain ⟨g2, off2, cur2, ty2, fr2, f, rfl, hg, hc, hFj⟩ := (GSl.below HCC.out HB.out).at j hjn
                have cf : wr.cell? ⟨g2, off2 + j * 2, none⟩ = some (.int .i64 f.n) := by rw [cell_of_row _ _ _ _ _ _ hg]; exact hc 0 (by decide)
                have hOf := HOC.out f (List.mem_of_getElem? hFj)
                have DF : Hid (∀ W, Calls Tryd.prog 36 #[.int .i64 f.n] W fun e w' => e = .returned (.string ⟨(decI f.n).toArray⟩) ∧ Below W.heap.size W w') := DE.out _ hOf
                have hDl := decI_len f.n hOf.1 hOf.2
                have hAl := HIL.out j hj
                have hjn' : (j : Int) < (n2 : Int) := by omega
                have HJN : Hid (j < n2) := hjn
                have HZ : Hid (j = 0 → innP x q c (j + 1) = innP x q c j ++ decI f.n) := fun h => by subst h; exact innP_first x q c hFj
                have HY : Hid (j ≠ 0 → innP x q c (j + 1) = (innP x q c j ++ [signJ c j]) ++ decI f.n) := fun h => innP_next x q c h hFj
                obtain ⟨A, hA⟩ : ∃ A, A = innP x q c j := ⟨_, rfl⟩
                obtain ⟨D, hD⟩ : ∃ D, D = decI f.n := ⟨_, rfl⟩
                rw [← hA] at HZ HY hAl ⊢
                rw [← hD] at HZ HY hDl DF
                have l1 : ¬ 9223372036854775807 < A.length + 1 := by omega
                have l2 : ¬ 9223372036854775807 < A.length + 1 + D.length := by omega
                have l3 : ¬ 9223372036854775807 < A.length + D.length := by omega
                clear hg hc hFj hOf hDl hAl hA hD hjn
                by_cases hjl : j + 1 = n2
                · have hjl' : (n2 : Int) = (j : Int) + 1 := by omega
                  have HSG : Hid (signJ c j = lastSign c) := by
                    show _ = _
                    unfold signJ
                    rw [if_pos (by rw [← HN2.out]; exact hjl)]
                  clear hjl
                  cases hsl : c.slash with
                  | true =>
                    rw [hsl] at d3
                    cases hda : c.dash with
                    | true =>
                      rw [hda] at d4
                      have HS2 : Hid (signJ c j = 47) := by
                        show _ = _
                        rw [HSG.out]
                        unfold lastSign
                        rw [hsl]
                        rfl
                      by_cases hj0 : j = 0
                      · subst hj0
                        have HE : Hid (innP x q c (0 + 1) = A ++ D) := HZ.out rfl
                        simp only [Nat.zero_mul, Nat.add_zero] at cf
                        obtain rfl : n2 = 1 := by omega
                        clear hjl'
                        skip
                        go_wp2_with fail
                        refine (DF.out _).mono ?_
                        rintro e w3 ⟨rfl, hb3⟩
                        have K2' : Hid (w3.heap[G]? = some (.cells (rawV x (.slice (some ⟨g1, off1, none⟩) n1 c1)) 55 (0, 0))) := (hb3.block _ (Array.getElem?_eq_some_iff.1 K2.out).1).trans K2.out
                        have K3' : Hid (w3.heap[G2]? = some (.cells (claV c (.slice (some ⟨g2, off2, none⟩) 1 c2)) 76 (0, 0))) := (hb3.block _ (Array.getElem?_eq_some_iff.1 K3.out).1).trans K3.out
                        have HB' : Hid (Below w.heap.size w w3) := HB.out.trans (hb3.mono HB.out.size)
                        clear hb3 cf d2 d3 d4
                        go_wp2_with fail
                        go_roundw
                        case rel =>
                          have := HJN.out
                          refine ⟨0 + 1, by omega, by go_num, ?_, K2'.out, K3'.out, HB'.out⟩
                          rw [HE.out, str2]
                        case measure =>
                          have := HJN.out
                          simp [intOf] <;> omega
                      · have hj1 : (0 : Int) < (j : Int) := by omega
                        have HE : Hid (innP x q c (j + 1) = (A ++ [47]) ++ D) := by
                          have := HY.out hj0
                          rwa [HS2.out] at this
                        clear hj0
                        go_wp2_with fail
                        refine (DF.out _).mono ?_
                        rintro e w3 ⟨rfl, hb3⟩
                        have K2' : Hid (w3.heap[G]? = some (.cells (rawV x (.slice (some ⟨g1, off1, none⟩) n1 c1)) 55 (0, 0))) := (hb3.block _ (Array.getElem?_eq_some_iff.1 K2.out).1).trans K2.out
                        have K3' : Hid (w3.heap[G2]? = some (.cells (claV c (.slice (some ⟨g2, off2, none⟩) n2 c2)) 76 (0, 0))) := (hb3.block _ (Array.getElem?_eq_some_iff.1 K3.out).1).trans K3.out
                        have HB' : Hid (Below w.heap.size w w3) := HB.out.trans (hb3.mono HB.out.size)
                        clear hb3 cf d2 d3 d4
                        go_wp2_with fail
                        go_roundw
                        case rel =>
                          have := HJN.out
                          refine ⟨j + 1, by omega, by go_num, ?_, K2'.out, K3'.out, HB'.out⟩
                          rw [HE.out, show (⟨#[47]⟩ : ByteArray) = ⟨([47] : List UInt8).toArray⟩ from rfl, str2, str2]
                        case measure =>
                          have := HJN.out
                          simp [intOf] <;> omega
                    | false =>
                      rw [hda] at d4
                      have HS2 : Hid (signJ c j = 47) := by
                        show _ = _
                        rw [HSG.out]
                        unfold lastSign
                        rw [hsl]
                        rfl
                      by_cases hj0 : j = 0
                      · subst hj0
                        have HE : Hid (innP x q c (0 + 1) = A ++ D) := HZ.out rfl
                        simp only [Nat.zero_mul, Nat.add_zero] at cf
                        obtain rfl : n2 = 1 := by omega
                        clear hjl'
                        skip
                        go_wp2_with fail
                        refine (DF.out _).mono ?_
                        rintro e w3 ⟨rfl, hb3⟩
                        have K2' : Hid (w3.heap[G]? = some (.cells (rawV x (.slice (some ⟨g1, off1, none⟩) n1 c1)) 55 (0, 0))) := (hb3.block _ (Array.getElem?_eq_some_iff.1 K2.out).1).trans K2.out
                        have K3' : Hid (w3.heap[G2]? = some (.cells (claV c (.slice (some ⟨g2, off2, none⟩) 1 c2)) 76 (0, 0))) := (hb3.block _ (Array.getElem?_eq_some_iff.1 K3.out).1).trans K3.out
                        have HB' : Hid (Below w.heap.size w w3) := HB.out.trans (hb3.mono HB.out.size)
                        clear hb3 cf d2 d3 d4
                        go_wp2_with fail
                        go_roundw
                        case rel =>
                          have := HJN.out
                          refine ⟨0 + 1, by omega, by go_num, ?_, K2'.out, K3'.out, HB'.out⟩
                          rw [HE.out, str2]
                        case measure =>
                          have := HJN.out
                          simp [intOf] <;> omega
                      · have hj1 : (0 : Int) < (j : Int) := by omega
                        have HE : Hid (innP x q c (j + 1) = (A ++ [47]) ++ D) := by
                          have := HY.out hj0
                          rwa [HS2.out] at this
                        clear hj0
                        go_wp2_with fail
                        refine (DF.out _).mono ?_
                        rintro e w3 ⟨rfl, hb3⟩
                        have K2' : Hid (w3.heap[G]? = some (.cells (rawV x (.slice (some ⟨g1, off1, none⟩) n1 c1)) 55 (0, 0))) := (hb3.block _ (Array.getElem?_eq_some_iff.1 K2.out).1).trans K2.out
                        have K3' : Hid (w3.heap[G2]? = some (.cells (claV c (.slice (some ⟨g2, off2, none⟩) n2 c2)) 76 (0, 0))) := (hb3.block _ (Array.getElem?_eq_some_iff.1 K3.out).1).trans K3.out
                        have HB' : Hid (Below w.heap.size w w3) := HB.out.trans (hb3.mono HB.out.size)
                        clear hb3 cf d2 d3 d4
                        go_wp2_with fail
                        go_roundw
                        case rel =>
                          have := HJN.out
                          refine ⟨j + 1, by omega, by go_num, ?_, K2'.out, K3'.out, HB'.out⟩
                          rw [HE.out, show (⟨#[47]⟩ : ByteArray) = ⟨([47] : List UInt8).toArray⟩ from rfl, str2, str2]
                        case measure =>
                          have := HJN.out
                          simp [intOf] <;> omega
                  | false =>
                    rw [hsl] at d3
                    cases hda : c.dash with
                    | true =>
                      rw [hda] at d4
                      have HS2 : Hid (signJ c j = 45) := by
                        show _ = _
                        rw [HSG.out]
                        unfold lastSign
                        rw [hsl, hda]
                        rfl
                      by_cases hj0 : j = 0
                      · subst hj0
                        have HE : Hid (innP x q c (0 + 1) = A ++ D) := HZ.out rfl
                        simp only [Nat.zero_mul, Nat.add_zero] at cf
                        obtain rfl : n2 = 1 := by omega
                        clear hjl'
                        skip
                        go_wp2_with fail
                        refine (DF.out _).mono ?_
                        rintro e w3 ⟨rfl, hb3⟩
                        have K2' : Hid (w3.heap[G]? = some (.cells (rawV x (.slice (some ⟨g1, off1, none⟩) n1 c1)) 55 (0, 0))) := (hb3.block _ (Array.getElem?_eq_some_iff.1 K2.out).1).trans K2.out
                        have K3' : Hid (w3.heap[G2]? = some (.cells (claV c (.slice (some ⟨g2, off2, none⟩) 1 c2)) 76 (0, 0))) := (hb3.block _ (Array.getElem?_eq_some_iff.1 K3.out).1).trans K3.out
                        have HB' : Hid (Below w.heap.size w w3) := HB.out.trans (hb3.mono HB.out.size)
                        clear hb3 cf d2 d3 d4
                        go_wp2_with fail
                        go_roundw
                        case rel =>
                          have := HJN.out
                          refine ⟨0 + 1, by omega, by go_num, ?_, K2'.out, K3'.out, HB'.out⟩
                          rw [HE.out, str2]
                        case measure =>
                          have := HJN.out
                          simp [intOf] <;> omega
                      · have hj1 : (0 : Int) < (j : Int) := by omega
                        have HE : Hid (innP x q c (j + 1) = (A ++ [45]) ++ D) := by
                          have := HY.out hj0
                          rwa [HS2.out] at this
                        clear hj0
                        go_wp2_with fail
                        refine (DF.out _).mono ?_
                        rintro e w3 ⟨rfl, hb3⟩
                        have K2' : Hid (w3.heap[G]? = some (.cells (rawV x (.slice (some ⟨g1, off1, none⟩) n1 c1)) 55 (0, 0))) := (hb3.block _ (Array.getElem?_eq_some_iff.1 K2.out).1).trans K2.out
                        have K3' : Hid (w3.heap[G2]? = some (.cells (claV c (.slice (some ⟨g2, off2, none⟩) n2 c2)) 76 (0, 0))) := (hb3.block _ (Array.getElem?_eq_some_iff.1 K3.out).1).trans K3.out
                        have HB' : Hid (Below w.heap.size w w3) := HB.out.trans (hb3.mono HB.out.size)
                        clear hb3 cf d2 d3 d4
                        go_wp2_with fail
                        go_roundw
                        case rel =>
                          have := HJN.out
                          refine ⟨j + 1, by omega, by go_num, ?_, K2'.out, K3'.out, HB'.out⟩
                          rw [HE.out, show (⟨#[45]⟩ : ByteArray) = ⟨([45] : List UInt8).toArray⟩ from rfl, str2, str2]
                        case measure =>
                          have := HJN.out
                          simp [intOf] <;> omega
                    | false =>
                      rw [hda] at d4
                      have HS2 : Hid (signJ c j = 46) := by
                        show _ = _
                        rw [HSG.out]
                        unfold lastSign
                        rw [hsl, hda]
                        rfl
                      by_cases hj0 : j = 0
                      · subst hj0
                        have HE : Hid (innP x q c (0 + 1) = A ++ D) := HZ.out rfl
                        simp only [Nat.zero_mul, Nat.add_zero] at cf
                        obtain rfl : n2 = 1 := by omega
                        clear hjl'
                        skip
                        go_wp2_with fail
                        refine (DF.out _).mono ?_
                        rintro e w3 ⟨rfl, hb3⟩
                        have K2' : Hid (w3.heap[G]? = some (.cells (rawV x (.slice (some ⟨g1, off1, none⟩) n1 c1)) 55 (0, 0))) := (hb3.block _ (Array.getElem?_eq_some_iff.1 K2.out).1).trans K2.out
                        have K3' : Hid (w3.heap[G2]? = some (.cells (claV c (.slice (some ⟨g2, off2, none⟩) 1 c2)) 76 (0, 0))) := (hb3.block _ (Array.getElem?_eq_some_iff.1 K3.out).1).trans K3.out
                        have HB' : Hid (Below w.heap.size w w3) := HB.out.trans (hb3.mono HB.out.size)
                        clear hb3 cf d2 d3 d4
                        go_wp2_with fail
                        go_roundw
                        case rel =>
                          have := HJN.out
                          refine ⟨0 + 1, by omega, by go_num, ?_, K2'.out, K3'.out, HB'.out⟩
                          rw [HE.out, str2]
                        case measure =>
                          have := HJN.out
                          simp [intOf] <;> omega
                      · have hj1 : (0 : Int) < (j : Int) := by omega
                        have HE : Hid (innP x q c (j + 1) = (A ++ [46]) ++ D) := by
                          have := HY.out hj0
                          rwa [HS2.out] at this
                        clear hj0
                        go_wp2_with fail
                        refine (DF.out _).mono ?_
                        rintro e w3 ⟨rfl, hb3⟩
                        have K2' : Hid (w3.heap[G]? = some (.cells (rawV x (.slice (some ⟨g1, off1, none⟩) n1 c1)) 55 (0, 0))) := (hb3.block _ (Array.getElem?_eq_some_iff.1 K2.out).1).trans K2.out
                        have K3' : Hid (w3.heap[G2]? = some (.cells (claV c (.slice (some ⟨g2, off2, none⟩) n2 c2)) 76 (0, 0))) := (hb3.block _ (Array.getElem?_eq_some_iff.1 K3.out).1).trans K3.out
                        have HB' : Hid (Below w.heap.size w w3) := HB.out.trans (hb3.mono HB.out.size)
                        clear hb3 cf d2 d3 d4
                        go_wp2_with fail
                        go_roundw
                        case rel =>
                          have := HJN.out
                          refine ⟨j + 1, by omega, by go_num, ?_, K2'.out, K3'.out, HB'.out⟩
                          rw [HE.out, show (⟨#[46]⟩ : ByteArray) = ⟨([46] : List UInt8).toArray⟩ from rfl, str2, str2]
                        case measure =>
                          have := HJN.out
                          simp [intOf] <;> omega
                · have hjl' : ((j : Int) == (n2 : Int) - 1) = false := by simp; omega
                  have hjl2 : ¬ (j : Int) = (n2 : Int) - 1 := by omega
                  have HS2 : Hid (signJ c j = 46) := by
                    show _ = _
                    unfold signJ
                    rw [if_neg (by rw [← HN2.out]; exact hjl)]
                  clear hjl
                  by_cases hj0 : j = 0
                  · subst hj0
                    have HE : Hid (innP x q c (0 + 1) = A ++ D) := HZ.out rfl
                    simp only [Nat.zero_mul, Nat.add_zero] at cf
                    have hjz : ¬ (0 : Int) = (n2 : Int) - 1 := by omega
                    have hjy : ((0 : Int) == (n2 : Int) - 1) = false := by simp; omega
                    clear hjl' hjl2
                    go_wp2_with fail
                    refine (DF.out _).mono ?_
                    rintro e w3 ⟨rfl, hb3⟩
                    have K2' : Hid (w3.heap[G]? = some (.cells (rawV x (.slice (some ⟨g1, off1, none⟩) n1 c1)) 55 (0, 0))) := (hb3.block _ (Array.getElem?_eq_some_iff.1 K2.out).1).trans K2.out
                    have K3' : Hid (w3.heap[G2]? = some (.cells (claV c (.slice (some ⟨g2, off2, none⟩) n2 c2)) 76 (0, 0))) := (hb3.block _ (Array.getElem?_eq_some_iff.1 K3.out).1).trans K3.out
                    have HB' : Hid (Below w.heap.size w w3) := HB.out.trans (hb3.mono HB.out.size)
                    clear hb3 cf d2 d3 d4
                    go_wp2_with fail
                    go_roundw
                    case rel =>
                      have := HJN.out
                      refine ⟨0 + 1, by omega, by go_num, ?_, K2'.out, K3'.out, HB'.out⟩
                      rw [HE.out, str2]
                    case measure =>
                      have := HJN.out
                      simp [intOf] <;> omega
                  · have hj1 : (0 : Int) < (j : Int) := by omega
                    have HE : Hid (innP x q c (j + 1) = (A ++ [46]) ++ D) := by
                      have := HY.out hj0
                      rwa [HS2.out] at this
                    clear hj0
                    go_wp2_with fail
                    refine (DF.out _).mono ?_
                    rintro e w3 ⟨rfl, hb3⟩
                    have K2' : Hid (w3.heap[G]? = some (.cells (rawV x (.slice (some ⟨g1, off1, none⟩) n1 c1)) 55 (0, 0))) := (hb3.block _ (Array.getElem?_eq_some_iff.1 K2.out).1).trans K2.out
                    have K3' : Hid (w3.heap[G2]? = some (.cells (claV c (.slice (some ⟨g2, off2, none⟩) n2 c2)) 76 (0, 0))) := (hb3.block _ (Array.getElem?_eq_some_iff.1 K3.out).1).trans K3.out
                    have HB' : Hid (Below w.heap.size w w3) := HB.out.trans (hb3.mono HB.out.size)
                    clear hb3 cf d2 d3 d4
                    go_wp2_with fail
                    go_roundw
                    case rel =>
                      have := HJN.out
                      refine ⟨j + 1, by omega, by go_num, ?_, K2'.out, K3'.out, HB'.out⟩
                      rw [HE.out, show (⟨#[46]⟩ : ByteArray) = ⟨([46] : List UInt8).toArray⟩ from rfl, str2, str2]
                    case measure =>
                      have := HJN.out
                      simp [intOf] <;> omega
              · obtain rfl : j = n2 := by omega
                have hjn' : ¬ (j : Int) < (j : Int) := by omega
                have HE : Hid (innP x q c j = basP x (q + 1)) := by
                  show _ = _
                  rw [basP_next HCQ.out, HN2.out]
                clear hjn
                go_wp2_with fail
                go_roundw
                case rel =>
                  have := HQN.out
                  exact ⟨q + 1, by omega, by go_num, by rw [HE.out], K2.out, HB.out⟩
                case measure =>
                  have := HQN.out
                  simp [intOf]; omega
          · obtain rfl : q = n1 := by omega
            have hqn' : ¬ (q : Int) < (q : Int) := by omega
            have HBS : Hid (basP x q = headP x) := by
              show _ = _
              unfold basP headP frP
              rw [List.take_of_length_le (by have := HN1.out; omega)]
            have hAl := basP_row x q
            have hRL := HRL.out
            have hPo := HOX.out.2.1
            have DF : Hid (∀ W, Calls Tryd.prog 36 #[.int .i64 x.port.n] W fun e w' => e = .returned (.string ⟨(decI x.port.n).toArray⟩) ∧ Below W.heap.size W w') := DE.out _ hPo
            have hDl := decI_len x.port.n hPo.1 hPo.2
            obtain ⟨A, hA⟩ : ∃ A, A = basP x q := ⟨_, rfl⟩
            obtain ⟨D, hD⟩ : ∃ D, D = decI x.port.n := ⟨_, rfl⟩
            have HAH : Hid (A = headP x) := hA.trans HBS.out
            have HDD : Hid (D = decI x.port.n) := hD
            rw [← hA] at hAl ⊢
            rw [← hD] at hDl DF
            clear hA hD hPo hqn
            cases hdr : x.drop with
            | true =>
              have HE : Hid (rowP x = A ++ [32, 45, 62, 32, 100, 114, 111, 112, 10]) := by
                show _ = _
                unfold rowP actP
                rw [← HAH.out, hdr]
                rfl
              rw [hdr] at f5
              have l1 : ¬ 9223372036854775807 < A.length + 9 := by omega
              have l2 : ¬ 9223372036854775807 < T0.length + (A.length + 9) := by omega
              clear hAl hRL hDl hdr
              go_wp2_with fail
              go_roundw
              case rel =>
                have := HLT.out
                refine ⟨k + 1, by omega, by go_num, ?_, HB.out⟩
                rw [HTK.out, HE.out, show (⟨#[32, 45, 62, 32, 100, 114, 111, 112, 10]⟩ : ByteArray) = ⟨([32, 45, 62, 32, 100, 114, 111, 112, 10] : List UInt8).toArray⟩ from rfl, str2, str2]
              case measure =>
                have := HLT.out
                simp [intOf]; omega
            | false =>
              have HE : Hid (rowP x = ((A ++ [32, 45, 62, 32, 112, 111, 114, 116, 32]) ++ D) ++ [10]) := by
                show _ = _
                unfold rowP actP
                rw [← HAH.out, hdr, HDD.out]
                simp [wPort]
              rw [hdr] at f5
              have l1 : ¬ 9223372036854775807 < A.length + 9 := by omega
              have l2 : ¬ 9223372036854775807 < A.length + 9 + D.length := by omega
              have l3 : ¬ 9223372036854775807 < A.length + 9 + D.length + 1 := by omega
              have l4 : ¬ 9223372036854775807 < T0.length + (A.length + 9 + D.length + 1) := by omega
              clear hAl hRL hDl hdr
              go_wp2_with fail
              refine (DF.out _).mono ?_
              rintro e w3 ⟨rfl, hb3⟩
              have HB' : Hid (Below w.heap.size w w3) := HB.out.trans (hb3.mono HB.out.size)
              clear hb3 f4 f5 f6
              go_wp2_with fail
              go_roundw
              case rel =>
                have := HLT.out
                refine ⟨k + 1, by omega, by go_num, ?_, HB'.out⟩
                rw [HTK.out, HE.out, show (⟨#[32, 45, 62, 32, 112, 111, 114, 116, 32]⟩ : ByteArray) = ⟨([32, 45, 62, 32, 112, 111, 114, 116, 32] : List UInt8).toArray⟩ from rfl, show (⟨#[10]⟩ : ByteArray) = ⟨([10] : List UInt8).toArray⟩ from rfl, str2, str2, str2, str2]
              case measure =>
                have := HLT.out
                simp [intOf]; omega
      | false =>
        rw [hd] at e1
        have HR0 : Hid (basP x 0 = R0) := by
          show _ = _
          rw [hR0]
          unfold basP
          simp
        have hRR : R0 = decI x.prio.n := by rw [hR0]; unfold frP; rw [hd]; rfl
        clear hR0 hd
        go_wp2_with fail
        go_loopw [6, 7] (fun s i wr => ∃ q : Nat, q ≤ n1 ∧ i = .int .i64 (q : Int) ∧ s = .string ⟨(basP x q).toArray⟩ ∧ wr.heap[G]? = some (.cells (rawV x (.slice o1 n1 c1)) 55 (0, 0)) ∧ Below w.heap.size w wr) (fun _ i _ => n1 - (intOf i).toNat)
        case atStart => exact ⟨0, Nat.zero_le _, rfl, by rw [HR0.out, hRR], K2.out, B2.out⟩
        case round =>
          clear K2 B2 e1
          obtain ⟨q, hq, rfl, rfl, hr, hb⟩ := hrel
          have K2 : Hid (wr.heap[G]? = some (.cells (rawV x (.slice o1 n1 c1)) 55 (0, 0))) := hr
          have HB : Hid (Below w.heap.size w wr) := hb
          clear hr hb
          obtain ⟨-, -, -, f4, f5, f6⟩ := raw_g6 K2.out
          by_cases hqn : q < n1
          · obtain ⟨g1, off1, cur1, ty1, fr1, c, u', rfl, hg, hc, hcj, hcl⟩ := NSl.at HCX.out q hqn
            have K1 : Hid (wr.heap[g1]? = some (.cells cur1 ty1 fr1)) := (HB.out.block g1 (Array.getElem?_eq_some_iff.1 hg).1).trans hg
            obtain ⟨o2, c2, rfl, h21, h22⟩ := GSl.slice hcl
            obtain ⟨n2, hn2⟩ : ∃ n2, n2 = c.nums.length := ⟨_, rfl⟩
            have HN2 : Hid (n2 = c.nums.length) := hn2
            rw [← hn2] at hcl hc h21
            have HCC : Hid (FigsAt w c (.slice o2 n2 c2)) := hcl
            have H1 : Hid (∀ i, i < 5 → cur1[off1 + q * 5 + i]? = (claV c (.slice o2 n2 c2))[i]?) := hc
            have HCQ : Hid (x.clauses[q]? = some c) := hcj
            have HOC : Hid (∀ f ∈ c.nums, okN f.n) := HOX.out.2.2 c (List.mem_of_getElem? hcj)
            have HBL : Hid ((basP x q).length ≤ 700000) := by have h1 := basP_row x q; have h2 := HRL.out; show _ ≤ _; omega
            have HIL : Hid (∀ j, j ≤ n2 → (innP x q c j).length ≤ 700000) := fun j hj => by have h1 := innP_row hcj (j := j) (by omega); have h2 := HRL.out; omega
            have HWL : Hid (c.word.length ≤ 700000) := by
              have h1 := HIL.out 0 (Nat.zero_le _)
              rw [innP_zero] at h1
              simp only [List.length_append] at h1
              show _ ≤ _
              omega
            have hqn' : (q : Int) < (n1 : Int) := by omega
            have HQN : Hid (q < n1) := hqn
            unfold maxLen at h22
            obtain ⟨A, hA⟩ : ∃ A, A = basP x q := ⟨_, rfl⟩
            have HA : Hid (A = basP x q) := hA
            rw [← hA] at HBL ⊢
            have l1 : ¬ 9223372036854775807 < A.length + 1 := by have := HBL.out; omega
            have l2 : ¬ 9223372036854775807 < A.length + 1 + c.word.length := by have := HBL.out; have := HWL.out; omega
            have l3 : ¬ 9223372036854775807 < A.length + 1 + c.word.length + 1 := by have := HBL.out; have := HWL.out; omega
            obtain ⟨W1, hW1⟩ : ∃ W1, W1 = wr.alloc (.cells (claV c (.slice o2 n2 c2)) 76) := ⟨_, rfl⟩
            have KF : Hid (W1.heap[wr.heap.size]? = some (.cells (claV c (.slice o2 n2 c2)) 76 (0, 0))) := by rw [hW1]; exact heap_new _ _ _ rfl
            have K3 : Hid (W1.heap[G]? = some (.cells (rawV x (.slice (some ⟨g1, off1, none⟩) n1 c1)) 55 (0, 0))) := by rw [hW1]; exact heap_past _ _ _ _ K2.out
            have BW1 : Hid (Below w.heap.size w W1) := by rw [hW1]; exact HB.out.alloc HB.out.size _
            have f0 := (cla_g6 KF.out).1
            rw [hW1] at f0
            clear hg hc hcj hcl hn2 hA hqn f5 f6
            go_wp2_with (first
              | (refine wl_loadE (E := ClaE) ClaOk rfl _ rfl g1 (off1 + q * 5) rfl cur1 ty1 fr1 (claV c (.slice o2 n2 c2)) rfl K1.out H1.out ?_)
              | (refine wl_storeE (E := ClaE) ClaOk rfl _ _ rfl wr.heap.size (claV c (.slice o2 n2 c2)) ⟨rfl, by simp [claV, Value.oneCell']⟩ rfl rfl _ (heap_new _ _ _ rfl) rfl _ (setRow_new _ _ _ _ _ rfl) ?_))
            rw [← hW1]
            have hz2 : Hid (G < wr.heap.size) := (Array.getElem?_eq_some_iff.1 K2.out).1
            obtain ⟨G2, hG2⟩ : ∃ G2, G2 = wr.heap.size := ⟨_, rfl⟩
            rw [← hG2] at KF hz2 ⊢
            have HST : Hid ((⟨A.toArray⟩ ++ ⟨#[32]⟩ ++ ⟨c.word.toArray⟩ ++ ⟨#[32]⟩ : ByteArray) = ⟨(innP x q c 0).toArray⟩) := by
              show _ = _
              rw [innP_zero, ← HA.out, show (⟨#[32]⟩ : ByteArray) = ⟨([32] : List UInt8).toArray⟩ from rfl, str2, str2, str2]
            clear f0 f4 K1 K2 H1 HB hW1 hG2 l1 l2 l3
            go_loopw [6, 9] (fun s i wr => ∃ j : Nat, j ≤ n2 ∧ i = .int .i64 (j : Int) ∧ s = .string ⟨(innP x q c j).toArray⟩ ∧ wr.heap[G]? = some (.cells (rawV x (.slice (some ⟨g1, off1, none⟩) n1 c1)) 55 (0, 0)) ∧ wr.heap[G2]? = some (.cells (claV c (.slice o2 n2 c2)) 76 (0, 0)) ∧ Below w.heap.size w wr) (fun _ i _ => n2 - (intOf i).toNat)
            case atStart => exact ⟨0, Nat.zero_le _, rfl, by rw [← HST.out], K3.out, KF.out, BW1.out⟩
            case round =>
              clear K3 KF BW1
              obtain ⟨j, hj, rfl, rfl, hr, hr2, hb⟩ := hrel
              have K2 : Hid (wr.heap[G]? = some (.cells (rawV x (.slice (some ⟨g1, off1, none⟩) n1 c1)) 55 (0, 0))) := hr
              have K3 : Hid (wr.heap[G2]? = some (.cells (claV c (.slice o2 n2 c2)) 76 (0, 0))) := hr2
              have HB : Hid (Below w.heap.size w wr) := hb
              clear hr hr2 hb
              obtain ⟨-, -, d2, d3, d4⟩ := cla_g6 K3.out
              by_cases hjn : j < n2
              · obtain ⟨g2, off2, cur2, ty2, fr2, f, rfl, hg, hc, hFj⟩ := (GSl.below HCC.out HB.out).at j hjn
                have cf : wr.cell? ⟨g2, off2 + j * 2, none⟩ = some (.int .i64 f.n) := by rw [cell_of_row _ _ _ _ _ _ hg]; exact hc 0 (by decide)
                have hOf := HOC.out f (List.mem_of_getElem? hFj)
                have DF : Hid (∀ W, Calls Tryd.prog 36 #[.int .i64 f.n] W fun e w' => e = .returned (.string ⟨(decI f.n).toArray⟩) ∧ Below W.heap.size W w') := DE.out _ hOf
                have hDl := decI_len f.n hOf.1 hOf.2
                have hAl := HIL.out j hj
                have hjn' : (j : Int) < (n2 : Int) := by omega
                have HJN : Hid (j < n2) := hjn
                have HZ : Hid (j = 0 → innP x q c (j + 1) = innP x q c j ++ decI f.n) := fun h => by subst h; exact innP_first x q c hFj
                have HY : Hid (j ≠ 0 → innP x q c (j + 1) = (innP x q c j ++ [signJ c j]) ++ decI f.n) := fun h => innP_next x q c h hFj
                obtain ⟨A, hA⟩ : ∃ A, A = innP x q c j := ⟨_, rfl⟩
                obtain ⟨D, hD⟩ : ∃ D, D = decI f.n := ⟨_, rfl⟩
                rw [← hA] at HZ HY hAl ⊢
                rw [← hD] at HZ HY hDl DF
                have l1 : ¬ 9223372036854775807 < A.length + 1 := by omega
                have l2 : ¬ 9223372036854775807 < A.length + 1 + D.length := by omega
                have l3 : ¬ 9223372036854775807 < A.length + D.length := by omega
                clear hg hc hFj hOf hDl hAl hA hD hjn
                by_cases hjl : j + 1 = n2
                · have hjl' : (n2 : Int) = (j : Int) + 1 := by omega
                  have HSG : Hid (signJ c j = lastSign c) := by
                    show _ = _
                    unfold signJ
                    rw [if_pos (by rw [← HN2.out]; exact hjl)]
                  clear hjl
                  cases hsl : c.slash with
                  | true =>
                    rw [hsl] at d3
                    cases hda : c.dash with
                    | true =>
                      rw [hda] at d4
                      have HS2 : Hid (signJ c j = 47) := by
                        show _ = _
                        rw [HSG.out]
                        unfold lastSign
                        rw [hsl]
                        rfl
                      by_cases hj0 : j = 0
                      · subst hj0
                        have HE : Hid (innP x q c (0 + 1) = A ++ D) := HZ.out rfl
                        simp only [Nat.zero_mul, Nat.add_zero] at cf
                        obtain rfl : n2 = 1 := by omega
                        clear hjl'
                        skip
                        go_wp2_with fail
                        refine (DF.out _).mono ?_
                        rintro e w3 ⟨rfl, hb3⟩
                        have K2' : Hid (w3.heap[G]? = some (.cells (rawV x (.slice (some ⟨g1, off1, none⟩) n1 c1)) 55 (0, 0))) := (hb3.block _ (Array.getElem?_eq_some_iff.1 K2.out).1).trans K2.out
                        have K3' : Hid (w3.heap[G2]? = some (.cells (claV c (.slice (some ⟨g2, off2, none⟩) 1 c2)) 76 (0, 0))) := (hb3.block _ (Array.getElem?_eq_some_iff.1 K3.out).1).trans K3.out
                        have HB' : Hid (Below w.heap.size w w3) := HB.out.trans (hb3.mono HB.out.size)
                        clear hb3 cf d2 d3 d4
                        go_wp2_with fail
                        go_roundw
                        case rel =>
                          have := HJN.out
                          refine ⟨0 + 1, by omega, by go_num, ?_, K2'.out, K3'.out, HB'.out⟩
                          rw [HE.out, str2]
                        case measure =>
                          have := HJN.out
                          simp [intOf] <;> omega
                      · have hj1 : (0 : Int) < (j : Int) := by omega
                        have HE : Hid (innP x q c (j + 1) = (A ++ [47]) ++ D) := by
                          have := HY.out hj0
                          rwa [HS2.out] at this
                        clear hj0
                        go_wp2_with fail
                        refine (DF.out _).mono ?_
                        rintro e w3 ⟨rfl, hb3⟩
                        have K2' : Hid (w3.heap[G]? = some (.cells (rawV x (.slice (some ⟨g1, off1, none⟩) n1 c1)) 55 (0, 0))) := (hb3.block _ (Array.getElem?_eq_some_iff.1 K2.out).1).trans K2.out
                        have K3' : Hid (w3.heap[G2]? = some (.cells (claV c (.slice (some ⟨g2, off2, none⟩) n2 c2)) 76 (0, 0))) := (hb3.block _ (Array.getElem?_eq_some_iff.1 K3.out).1).trans K3.out
                        have HB' : Hid (Below w.heap.size w w3) := HB.out.trans (hb3.mono HB.out.size)
                        clear hb3 cf d2 d3 d4
                        go_wp2_with fail
                        go_roundw
                        case rel =>
                          have := HJN.out
                          refine ⟨j + 1, by omega, by go_num, ?_, K2'.out, K3'.out, HB'.out⟩
                          rw [HE.out, show (⟨#[47]⟩ : ByteArray) = ⟨([47] : List UInt8).toArray⟩ from rfl, str2, str2]
                        case measure =>
                          have := HJN.out
                          simp [intOf] <;> omega
                    | false =>
                      rw [hda] at d4
                      have HS2 : Hid (signJ c j = 47) := by
                        show _ = _
                        rw [HSG.out]
                        unfold lastSign
                        rw [hsl]
                        rfl
                      by_cases hj0 : j = 0
                      · subst hj0
                        have HE : Hid (innP x q c (0 + 1) = A ++ D) := HZ.out rfl
                        simp only [Nat.zero_mul, Nat.add_zero] at cf
                        obtain rfl : n2 = 1 := by omega
                        clear hjl'
                        skip
                        go_wp2_with fail
                        refine (DF.out _).mono ?_
                        rintro e w3 ⟨rfl, hb3⟩
                        have K2' : Hid (w3.heap[G]? = some (.cells (rawV x (.slice (some ⟨g1, off1, none⟩) n1 c1)) 55 (0, 0))) := (hb3.block _ (Array.getElem?_eq_some_iff.1 K2.out).1).trans K2.out
                        have K3' : Hid (w3.heap[G2]? = some (.cells (claV c (.slice (some ⟨g2, off2, none⟩) 1 c2)) 76 (0, 0))) := (hb3.block _ (Array.getElem?_eq_some_iff.1 K3.out).1).trans K3.out
                        have HB' : Hid (Below w.heap.size w w3) := HB.out.trans (hb3.mono HB.out.size)
                        clear hb3 cf d2 d3 d4
                        go_wp2_with fail
                        go_roundw
                        case rel =>
                          have := HJN.out
                          refine ⟨0 + 1, by omega, by go_num, ?_, K2'.out, K3'.out, HB'.out⟩
                          rw [HE.out, str2]
                        case measure =>
                          have := HJN.out
                          simp [intOf] <;> omega
                      · have hj1 : (0 : Int) < (j : Int) := by omega
                        have HE : Hid (innP x q c (j + 1) = (A ++ [47]) ++ D) := by
                          have := HY.out hj0
                          rwa [HS2.out] at this
                        clear hj0
                        go_wp2_with fail
                        refine (DF.out _).mono ?_
                        rintro e w3 ⟨rfl, hb3⟩
                        have K2' : Hid (w3.heap[G]? = some (.cells (rawV x (.slice (some ⟨g1, off1, none⟩) n1 c1)) 55 (0, 0))) := (hb3.block _ (Array.getElem?_eq_some_iff.1 K2.out).1).trans K2.out
                        have K3' : Hid (w3.heap[G2]? = some (.cells (claV c (.slice (some ⟨g2, off2, none⟩) n2 c2)) 76 (0, 0))) := (hb3.block _ (Array.getElem?_eq_some_iff.1 K3.out).1).trans K3.out
                        have HB' : Hid (Below w.heap.size w w3) := HB.out.trans (hb3.mono HB.out.size)
                        clear hb3 cf d2 d3 d4
                        go_wp2_with fail
                        go_roundw
                        case rel =>
                          have := HJN.out
                          refine ⟨j + 1, by omega, by go_num, ?_, K2'.out, K3'.out, HB'.out⟩
                          rw [HE.out, show (⟨#[47]⟩ : ByteArray) = ⟨([47] : List UInt8).toArray⟩ from rfl, str2, str2]
                        case measure =>
                          have := HJN.out
                          simp [intOf] <;> omega
                  | false =>
                    rw [hsl] at d3
                    cases hda : c.dash with
                    | true =>
                      rw [hda] at d4
                      have HS2 : Hid (signJ c j = 45) := by
                        show _ = _
                        rw [HSG.out]
                        unfold lastSign
                        rw [hsl, hda]
                        rfl
                      by_cases hj0 : j = 0
                      · subst hj0
                        have HE : Hid (innP x q c (0 + 1) = A ++ D) := HZ.out rfl
                        simp only [Nat.zero_mul, Nat.add_zero] at cf
                        obtain rfl : n2 = 1 := by omega
                        clear hjl'
                        skip
                        go_wp2_with fail
                        refine (DF.out _).mono ?_
                        rintro e w3 ⟨rfl, hb3⟩
                        have K2' : Hid (w3.heap[G]? = some (.cells (rawV x (.slice (some ⟨g1, off1, none⟩) n1 c1)) 55 (0, 0))) := (hb3.block _ (Array.getElem?_eq_some_iff.1 K2.out).1).trans K2.out
                        have K3' : Hid (w3.heap[G2]? = some (.cells (claV c (.slice (some ⟨g2, off2, none⟩) 1 c2)) 76 (0, 0))) := (hb3.block _ (Array.getElem?_eq_some_iff.1 K3.out).1).trans K3.out
                        have HB' : Hid (Below w.heap.size w w3) := HB.out.trans (hb3.mono HB.out.size)
                        clear hb3 cf d2 d3 d4
                        go_wp2_with fail
                        go_roundw
                        case rel =>
                          have := HJN.out
                          refine ⟨0 + 1, by omega, by go_num, ?_, K2'.out, K3'.out, HB'.out⟩
                          rw [HE.out, str2]
                        case measure =>
                          have := HJN.out
                          simp [intOf] <;> omega
                      · have hj1 : (0 : Int) < (j : Int) := by omega
                        have HE : Hid (innP x q c (j + 1) = (A ++ [45]) ++ D) := by
                          have := HY.out hj0
                          rwa [HS2.out] at this
                        clear hj0
                        go_wp2_with fail
                        refine (DF.out _).mono ?_
                        rintro e w3 ⟨rfl, hb3⟩
                        have K2' : Hid (w3.heap[G]? = some (.cells (rawV x (.slice (some ⟨g1, off1, none⟩) n1 c1)) 55 (0, 0))) := (hb3.block _ (Array.getElem?_eq_some_iff.1 K2.out).1).trans K2.out
                        have K3' : Hid (w3.heap[G2]? = some (.cells (claV c (.slice (some ⟨g2, off2, none⟩) n2 c2)) 76 (0, 0))) := (hb3.block _ (Array.getElem?_eq_some_iff.1 K3.out).1).trans K3.out
                        have HB' : Hid (Below w.heap.size w w3) := HB.out.trans (hb3.mono HB.out.size)
                        clear hb3 cf d2 d3 d4
                        go_wp2_with fail
                        go_roundw
                        case rel =>
                          have := HJN.out
                          refine ⟨j + 1, by omega, by go_num, ?_, K2'.out, K3'.out, HB'.out⟩
                          rw [HE.out, show (⟨#[45]⟩ : ByteArray) = ⟨([45] : List UInt8).toArray⟩ from rfl, str2, str2]
                        case measure =>
                          have := HJN.out
                          simp [intOf] <;> omega
                    | false =>
                      rw [hda] at d4
                      have HS2 : Hid (signJ c j = 46) := by
                        show _ = _
                        rw [HSG.out]
                        unfold lastSign
                        rw [hsl, hda]
                        rfl
                      by_cases hj0 : j = 0
                      · subst hj0
                        have HE : Hid (innP x q c (0 + 1) = A ++ D) := HZ.out rfl
                        simp only [Nat.zero_mul, Nat.add_zero] at cf
                        obtain rfl : n2 = 1 := by omega
                        clear hjl'
                        skip
                        go_wp2_with fail
                        refine (DF.out _).mono ?_
                        rintro e w3 ⟨rfl, hb3⟩
                        have K2' : Hid (w3.heap[G]? = some (.cells (rawV x (.slice (some ⟨g1, off1, none⟩) n1 c1)) 55 (0, 0))) := (hb3.block _ (Array.getElem?_eq_some_iff.1 K2.out).1).trans K2.out
                        have K3' : Hid (w3.heap[G2]? = some (.cells (claV c (.slice (some ⟨g2, off2, none⟩) 1 c2)) 76 (0, 0))) := (hb3.block _ (Array.getElem?_eq_some_iff.1 K3.out).1).trans K3.out
                        have HB' : Hid (Below w.heap.size w w3) := HB.out.trans (hb3.mono HB.out.size)
                        clear hb3 cf d2 d3 d4
                        go_wp2_with fail
                        go_roundw
                        case rel =>
                          have := HJN.out
                          refine ⟨0 + 1, by omega, by go_num, ?_, K2'.out, K3'.out, HB'.out⟩
                          rw [HE.out, str2]
                        case measure =>
                          have := HJN.out
                          simp [intOf] <;> omega
                      · have hj1 : (0 : Int) < (j : Int) := by omega
                        have HE : Hid (innP x q c (j + 1) = (A ++ [46]) ++ D) := by
                          have := HY.out hj0
                          rwa [HS2.out] at this
                        clear hj0
                        go_wp2_with fail
                        refine (DF.out _).mono ?_
                        rintro e w3 ⟨rfl, hb3⟩
                        have K2' : Hid (w3.heap[G]? = some (.cells (rawV x (.slice (some ⟨g1, off1, none⟩) n1 c1)) 55 (0, 0))) := (hb3.block _ (Array.getElem?_eq_some_iff.1 K2.out).1).trans K2.out
                        have K3' : Hid (w3.heap[G2]? = some (.cells (claV c (.slice (some ⟨g2, off2, none⟩) n2 c2)) 76 (0, 0))) := (hb3.block _ (Array.getElem?_eq_some_iff.1 K3.out).1).trans K3.out
                        have HB' : Hid (Below w.heap.size w w3) := HB.out.trans (hb3.mono HB.out.size)
                        clear hb3 cf d2 d3 d4
                        go_wp2_with fail
                        go_roundw
                        case rel =>
                          have := HJN.out
                          refine ⟨j + 1, by omega, by go_num, ?_, K2'.out, K3'.out, HB'.out⟩
                          rw [HE.out, show (⟨#[46]⟩ : ByteArray) = ⟨([46] : List UInt8).toArray⟩ from rfl, str2, str2]
                        case measure =>
                          have := HJN.out
                          simp [intOf] <;> omega
                · have hjl' : ((j : Int) == (n2 : Int) - 1) = false := by simp; omega
                  have hjl2 : ¬ (j : Int) = (n2 : Int) - 1 := by omega
                  have HS2 : Hid (signJ c j = 46) := by
                    show _ = _
                    unfold signJ
                    rw [if_neg (by rw [← HN2.out]; exact hjl)]
                  clear hjl
                  by_cases hj0 : j = 0
                  · subst hj0
                    have HE : Hid (innP x q c (0 + 1) = A ++ D) := HZ.out rfl
                    simp only [Nat.zero_mul, Nat.add_zero] at cf
                    have hjz : ¬ (0 : Int) = (n2 : Int) - 1 := by omega
                    have hjy : ((0 : Int) == (n2 : Int) - 1) = false := by simp; omega
                    clear hjl' hjl2
                    go_wp2_with fail
                    refine (DF.out _).mono ?_
                    rintro e w3 ⟨rfl, hb3⟩
                    have K2' : Hid (w3.heap[G]? = some (.cells (rawV x (.slice (some ⟨g1, off1, none⟩) n1 c1)) 55 (0, 0))) := (hb3.block _ (Array.getElem?_eq_some_iff.1 K2.out).1).trans K2.out
                    have K3' : Hid (w3.heap[G2]? = some (.cells (claV c (.slice (some ⟨g2, off2, none⟩) n2 c2)) 76 (0, 0))) := (hb3.block _ (Array.getElem?_eq_some_iff.1 K3.out).1).trans K3.out
                    have HB' : Hid (Below w.heap.size w w3) := HB.out.trans (hb3.mono HB.out.size)
                    clear hb3 cf d2 d3 d4
                    go_wp2_with fail
                    go_roundw
                    case rel =>
                      have := HJN.out
                      refine ⟨0 + 1, by omega, by go_num, ?_, K2'.out, K3'.out, HB'.out⟩
                      rw [HE.out, str2]
                    case measure =>
                      have := HJN.out
                      simp [intOf] <;> omega
                  · have hj1 : (0 : Int) < (j : Int) := by omega
                    have HE : Hid (innP x q c (j + 1) = (A ++ [46]) ++ D) := by
                      have := HY.out hj0
                      rwa [HS2.out] at this
                    clear hj0
                    go_wp2_with fail
                    refine (DF.out _).mono ?_
                    rintro e w3 ⟨rfl, hb3⟩
                    have K2' : Hid (w3.heap[G]? = some (.cells (rawV x (.slice (some ⟨g1, off1, none⟩) n1 c1)) 55 (0, 0))) := (hb3.block _ (Array.getElem?_eq_some_iff.1 K2.out).1).trans K2.out
                    have K3' : Hid (w3.heap[G2]? = some (.cells (claV c (.slice (some ⟨g2, off2, none⟩) n2 c2)) 76 (0, 0))) := (hb3.block _ (Array.getElem?_eq_some_iff.1 K3.out).1).trans K3.out
                    have HB' : Hid (Below w.heap.size w w3) := HB.out.trans (hb3.mono HB.out.size)
                    clear hb3 cf d2 d3 d4
                    go_wp2_with fail
                    go_roundw
                    case rel =>
                      have := HJN.out
                      refine ⟨j + 1, by omega, by go_num, ?_, K2'.out, K3'.out, HB'.out⟩
                      rw [HE.out, show (⟨#[46]⟩ : ByteArray) = ⟨([46] : List UInt8).toArray⟩ from rfl, str2, str2]
                    case measure =>
                      have := HJN.out
                      simp [intOf] <;> omega
              · obtain rfl : j = n2 := by omega
                have hjn' : ¬ (j : Int) < (j : Int) := by omega
                have HE : Hid (innP x q c j = basP x (q + 1)) := by
                  show _ = _
                  rw [basP_next HCQ.out, HN2.out]
                clear hjn
                go_wp2_with fail
                go_roundw
                case rel =>
                  have := HQN.out
                  exact ⟨q + 1, by omega, by go_num, by rw [HE.out], K2.out, HB.out⟩
                case measure =>
                  have := HQN.out
                  simp [intOf]; omega
          · obtain rfl : q = n1 := by omega
            have hqn' : ¬ (q : Int) < (q : Int) := by omega
            have HBS : Hid (basP x q = headP x) := by
              show _ = _
              unfold basP headP frP
              rw [List.take_of_length_le (by have := HN1.out; omega)]
            have hAl := basP_row x q
            have hRL := HRL.out
            have hPo := HOX.out.2.1
            have DF : Hid (∀ W, Calls Tryd.prog 36 #[.int .i64 x.port.n] W fun e w' => e = .returned (.string ⟨(decI x.port.n).toArray⟩) ∧ Below W.heap.size W w') := DE.out _ hPo
            have hDl := decI_len x.port.n hPo.1 hPo.2
            obtain ⟨A, hA⟩ : ∃ A, A = basP x q := ⟨_, rfl⟩
            obtain ⟨D, hD⟩ : ∃ D, D = decI x.port.n := ⟨_, rfl⟩
            have HAH : Hid (A = headP x) := hA.trans HBS.out
            have HDD : Hid (D = decI x.port.n) := hD
            rw [← hA] at hAl ⊢
            rw [← hD] at hDl DF
            clear hA hD hPo hqn
            cases hdr : x.drop with
            | true =>
              have HE : Hid (rowP x = A ++ [32, 45, 62, 32, 100, 114, 111, 112, 10]) := by
                show _ = _
                unfold rowP actP
                rw [← HAH.out, hdr]
                rfl
              rw [hdr] at f5
              have l1 : ¬ 9223372036854775807 < A.length + 9 := by omega
              have l2 : ¬ 9223372036854775807 < T0.length + (A.length + 9) := by omega
              clear hAl hRL hDl hdr
              go_wp2_with fail
              go_roundw
              case rel =>
                have := HLT.out
                refine ⟨k + 1, by omega, by go_num, ?_, HB.out⟩
                rw [HTK.out, HE.out, show (⟨#[32, 45, 62, 32, 100, 114, 111, 112, 10]⟩ : ByteArray) = ⟨([32, 45, 62, 32, 100, 114, 111, 112, 10] : List UInt8).toArray⟩ from rfl, str2, str2]
              case measure =>
                have := HLT.out
                simp [intOf]; omega
            | false =>
              have HE : Hid (rowP x = ((A ++ [32, 45, 62, 32, 112, 111, 114, 116, 32]) ++ D) ++ [10]) := by
                show _ = _
                unfold rowP actP
                rw [← HAH.out, hdr, HDD.out]
                simp [wPort]
              rw [hdr] at f5
              have l1 : ¬ 9223372036854775807 < A.length + 9 := by omega
              have l2 : ¬ 9223372036854775807 < A.length + 9 + D.length := by omega
              have l3 : ¬ 9223372036854775807 < A.length + 9 + D.length + 1 := by omega
              have l4 : ¬ 9223372036854775807 < T0.length + (A.length + 9 + D.length + 1) := by omega
              clear hAl hRL hDl hdr
              go_wp2_with fail
              refine (DF.out _).mono ?_
              rintro e w3 ⟨rfl, hb3⟩
              have HB' : Hid (Below w.heap.size w w3) := HB.out.trans (hb3.mono HB.out.size)
              clear hb3 f4 f5 f6
              go_wp2_with fail
              go_roundw
              case rel =>
                have := HLT.out
                refine ⟨k + 1, by omega, by go_num, ?_, HB'.out⟩
                rw [HTK.out, HE.out, show (⟨#[32, 45, 62, 32, 112, 111, 114, 116, 32]⟩ : ByteArray) = ⟨([32, 45, 62, 32, 112, 111, 114, 116, 32] : List UInt8).toArray⟩ from rfl, show (⟨#[10]⟩ : ByteArray) = ⟨([10] : List UInt8).toArray⟩ from rfl, str2, str2, str2, str2]
              case measure =>
                have := HLT.out
                simp [intOf]; omega
    · have hlt' : ¬ (k : Int) < (n : Int) := by omega
      have htk : l.take k = l := List.take_of_length_le (by have := HN.out; omega)
      rw [htk, ← HS.out]
      clear hlt htk
      go_wp2_with fail
      go_ret
      exact ⟨rfl, HB.out⟩
end Go.Proofs.YtbdbjbmjnemknaaDoor
namespace Go.Proofs.YtbdbjbmjnemknaaDoor
open Go Go.RowKit
set_option maxRecDepth 20000

def rawP2 (q : Raw × Value) : Array Value := rawV q.1 q.2
theorem raw_fits8 (q : Raw × Value) (h : ∃ o n m, q.2 = .slice o n m) : Fits RawE (rawP2 q) := by
  obtain ⟨o, n, m, h⟩ := h
  exact ⟨rfl, by simp [rawP2, rawV, Value.oneCell', h]⟩
/-- Lines of one's own, each with its clauses. -/
def LinesOwn (B : Nat) (w : World) (v : Value) (Q : List (Raw × Value)) : Prop := w.ownsRow B 55 8 v Q.length (gcells rawP2 Q) ∧ ∀ q ∈ Q, ∃ P, RowW B w q.2 P ∧ P.map (·.1) = q.1.clauses
theorem row_by {B : Nat} {w w' : World} {v u : Value} {P : List (Cla × Value)} {n : Nat} {xs : List Value} {e : TypeId} {s : Nat} {C : Nat} (hu : w.ownsRow C e s u n xs) (he : e ≠ 76) (he2 : e ≠ 52) (hgr : w.grownBy w' u.ownBlock) (h : RowW B w v P) : RowW B w' v P :=
  ⟨own_grown hgr h.1 (fun g hg => own_apart hu h.1 he g hg), fun q hq => own_grown hgr (h.2 q hq) (fun g hg => own_apart hu (h.2 q hq) he2 g hg)⟩
theorem row_below {B : Nat} {w w' : World} {v : Value} {P : List (Cla × Value)} (h : RowW B w v P) (hb : Below w.heap.size w w') : RowW B w' v P := ⟨gown_below h.1 hb, fun q hq => gown_below (h.2 q hq) hb⟩
theorem LinesOwn.below {B : Nat} {w w' : World} {v : Value} {Q : List (Raw × Value)} (h : LinesOwn B w v Q) (hb : Below w.heap.size w w') : LinesOwn B w' v Q :=
  ⟨gown_below h.1 hb, fun q hq => by obtain ⟨P, h1, h2⟩ := h.2 q hq; exact ⟨P, row_below h1 hb, h2⟩⟩
theorem LinesOwn.at {B : Nat} {w : World} {v : Value} {Q : List (Raw × Value)} (h : LinesOwn B w v Q) : RawsAt w v (Q.map (·.1)) :=
  ⟨Q, rfl, gsl_of (E := RawE) h.1 fun c _ => rfl, fun p hp => by
    obtain ⟨P, h1, h2⟩ := h.2 p hp
    exact ⟨P, h2, gsl_of (E := ClaE) h1.1 fun c _ => rfl, fun r hr => gsl_of (E := FigE) (h1.2 r hr) fun c _ => rfl⟩⟩
theorem map_take_line {l : List Ent} {k : Nat} {x : Ent} (h : l[k]? = some x) : (l.take (k + 1)).map lineOf = (l.take k).map lineOf ++ [lineOf x] := by
  rw [List.take_add_one, h, List.map_append]
  rfl

set_option maxHeartbeats 8000000 in
set_option maxRecDepth 100000 in
theorem rprint7_any (l : List Ent) (vl : Value) (w : World) (hl : EntsAt w vl l) (h32 : ∀ x ∈ l, ent32 x) (hwf : ∀ x ∈ l, okE7 x) (hn : l.length ≤ 200) :
    Calls Tryd.prog 9 #[vl] w fun e w' => e = .returned (.string ⟨(printE l).toArray⟩) ∧ Below w.heap.size w w' := by
  have LN : Hid (∀ (x : Ent) W, ent32 x → Calls Tryd.prog 17 #[.agg (entV x)] W fun e w' => RawRf W.heap.size w' x e ∧ Below W.heap.size W w') := fun x W h => rline_any x h W
  have hok : ∀ y ∈ l.map lineOf, okNs y := fun y hy => by
    obtain ⟨x, hx, rfl⟩ := List.mem_map.1 hy
    have := clause_lines x (h32 x hx) (hwf x hx)
    exact ⟨(hwf x hx).1, (hwf x hx).2.2.2.2.2.2.2.2, fun c hc => (this c hc).2.2⟩
  have hlen : (printE l).length ≤ 700000 := by
    have := printE_len l h32 hwf l.length
    rw [List.take_length] at this
    omega
  have PR : Hid (∀ v W, RawsAt W v (l.map lineOf) → Calls Tryd.prog 18 #[v] W fun e w' => e = .returned (.string ⟨(printE l).toArray⟩) ∧ Below W.heap.size W w') := fun v W h => rprint_any (l.map lineOf) v W h hok hlen
  obtain ⟨o, cap, rfl, hc1, hc2⟩ := GSl.slice hl
  obtain ⟨n, hn0⟩ : ∃ n, n = l.length := ⟨_, rfl⟩
  have HN : Hid (n = l.length) := hn0
  rw [← hn0] at hl hc1 hn ⊢
  have HL : Hid (EntsAt w (.slice o n cap) l) := hl
  unfold maxLen at hc2
  have H32 : Hid (∀ x ∈ l, ent32 x) := h32
  obtain ⟨S, hS⟩ : ∃ S : ByteArray, S = ⟨(printE l).toArray⟩ := ⟨_, rfl⟩
  rw [← hS] at PR ⊢
  clear hl hn0 h32 hwf hok hlen hS
  go_enter Tryd.func9, Tryd.ntmps9
  go_wp2_with (refine wl_build0E (E := RawE) RawOk rfl rfl ?_)
  go_loopw [3, 4] (fun v i wr => ∃ (k : Nat) (Q : List (Raw × Value)), k ≤ n ∧ i = .int .i64 (k : Int) ∧ Hid (Q.map (·.1) = (l.take k).map lineOf) ∧ LinesOwn w.heap.size wr v Q ∧ Below w.heap.size w wr) (fun _ i _ => n - (intOf i).toNat)
  case atStart => exact ⟨0, [], Nat.zero_le _, rfl, rfl, ⟨own0 _ _ _, fun q hq => by simp at hq⟩, (Below.refl _ _).alloc (Nat.le_refl _) _⟩
  case round =>
    obtain ⟨k, Q, hk, rfl, HQ, hown, hb⟩ := hrel
    have HO : Hid (LinesOwn w.heap.size wr u3 Q) := hown
    have HB : Hid (Below w.heap.size w wr) := hb
    clear hown hb
    by_cases hlt : k < n
    · have hlt' : (k : Int) < (n : Int) := by omega
      obtain ⟨g, off, cur, ty, fr, x, rfl, hg, hc, hxk⟩ := (GSl.below HL.out HB.out).at k hlt
      have K1 : Hid (wr.heap[g]? = some (.cells cur ty fr)) := hg
      have H1 : Hid (∀ j, j < 12 → cur[off + k * 12 + j]? = (entV x)[j]?) := hc
      have HX : Hid (ent32 x) := H32.out x (List.mem_of_getElem? hxk)
      have HT : Hid ((l.take (k + 1)).map lineOf = (l.take k).map lineOf ++ [lineOf x]) := map_take_line hxk
      have HQL : Hid (Q.length ≤ 1000000) := by
        have := congrArg List.length HQ.out
        rw [List.length_map, List.length_map, List.length_take] at this
        show _ ≤ _
        omega
      have HLT : Hid (k < n) := hlt
      clear hg hc hxk hlt
      go_wp2_with (refine wl_loadE (E := EntE) EntOk rfl _ rfl g (off + k * 12) rfl cur ty fr (entV x) rfl K1.out H1.out ?_)
      refine (LN.out x _ HX.out).mono ?_
      rintro e w1 ⟨⟨v, P, rfl, hrow, hP⟩, hb1⟩
      have B1 : Hid (Below w.heap.size w w1) := HB.out.trans (hb1.mono HB.out.size)
      have HO1 : Hid (LinesOwn w.heap.size w1 u3 Q) := HO.out.below hb1
      have HR : Hid (RowW w.heap.size w1 v P ∧ P.map (·.1) = (lineOf x).clauses) := ⟨⟨gown_base hrow.1 HB.out.size, fun q hq => gown_base (hrow.2 q hq) HB.out.size⟩, hP⟩
      obtain ⟨o9, c9, rfl⟩ := gown_slice hrow.1
      have B2 : Hid (Below w1.heap.size w1 (w1.alloc (.cells (rawV (lineOf x) (.slice o9 P.length c9)) 55))) := (Below.refl _ _).alloc (Nat.le_refl _) _
      clear hrow hP hb1
      go_wp2_with (first
        | (refine wl_buildE (E := RawE) RawOk rfl _ rfl (rawV (lineOf x) (.slice o9 P.length c9)) rfl rfl ?_)
        | (at_builtin; refine of_stopT ?_))
      unfold StopT
      have OW := (HO1.out.below B2.out).1
      refine wl_appendE (E := RawE) RawOk rawP2 rfl _ _ rfl w.heap.size u3 Q (lineOf x, .slice o9 P.length c9) (raw_fits8 _ ⟨_, _, _, rfl⟩) rfl OW w1.heap.size 1 rfl (heap_new _ _ _ rfl) HQL.out (by have := B1.out.size; simp; omega) ?_
      intro v' w3 hown3 hgr3 _
      have B3 : Hid (Below w.heap.size w w3) := (B1.out.alloc B1.out.size _).trans ((Below.refl _ _).grown hgr3 (B1.out.alloc B1.out.size _).size fun k hk => (OW.lt k hk).1)
      have HO3 : Hid (LinesOwn w.heap.size w3 v' (Q ++ [(lineOf x, .slice o9 P.length c9)])) := ⟨hown3, fun q hq => by
        rcases List.mem_append.1 hq with hq | hq
        · obtain ⟨P', p1, p2⟩ := (HO1.out.below B2.out).2 q hq
          exact ⟨P', row_by OW (by decide) (by decide) hgr3 p1, p2⟩
        · obtain rfl : q = (lineOf x, .slice o9 P.length c9) := by simpa using hq
          exact ⟨P, row_by OW (by decide) (by decide) hgr3 (row_below HR.out.1 B2.out), HR.out.2⟩⟩
      clear hown3 hgr3 OW
      simp only [Act.put, List.setIfInBounds_toArray, List.set_cons_succ, List.set_cons_zero]
      go_wp2_with fail
      go_roundw
      case rel =>
        have := HLT.out
        exact ⟨k + 1, Q ++ [(lineOf x, .slice o9 P.length c9)], by omega, by go_num, by show _ = _; rw [HT.out, List.map_append, HQ.out]; rfl, HO3.out, B3.out⟩
      case measure =>
        have := HLT.out
        simp [intOf]; omega
    · have hlt' : ¬ (k : Int) < (n : Int) := by omega
      have HE : Hid (RawsAt wr u3 (l.map lineOf)) := by
        have := HO.out.at
        have e := HN.out
        rw [HQ.out, List.take_of_length_le (by omega)] at this
        exact this
      go_wp2_with fail
      refine (PR.out _ _ HE.out).mono ?_
      rintro e w1 ⟨rfl, hb1⟩
      have B1 : Hid (Below w.heap.size w w1) := HB.out.trans (hb1.mono HB.out.size)
      clear hb1
      go_wp2_with fail
      go_ret
      exact ⟨rfl, B1.out⟩
end Go.Proofs.YtbdbjbmjnemknaaDoor
namespace Go.Proofs.YtbdbjbmjnemknaaDoor
open Go Go.RowKit
set_option maxRecDepth 20000

theorem wl_min7 {ops : Array Oper} {rest : List Oper} {o : Oper} {a : Act} {w : World} {Q : Exit → Act → World → Prop} (hgd : o.guard = none) (x y : Operand) (ho : o.op = .call { callee := .builtin .min, args := #[x, y], argTypes := #[3, 3] })
    (p q r : Int) (hx : a.eval x = .int .i64 p) (hy : a.eval y = .int .i64 q) (hr : r = min p q) (h : wpList Tryd.prog ops Q rest (a.put o.dst (.int .i64 r)) w) : wpList Tryd.prog ops Q (o :: rest) a w := by
  obtain ⟨dst, op, ty, pos, after, guard⟩ := o
  subst ho
  have hr : (execOp a.eval ⟨dst, .call { callee := .builtin .min, args := #[x, y], argTypes := #[3, 3] }, ty, pos, after, guard⟩).run Tryd.prog w = .ok (.value (.int .i64 r)) w := by
    subst hr
    by_cases h1 : p ≤ q
    · rw [show min p q = p by omega]
      unfold execOp
      simp [resolve, invoke, builtin, hx, hy, Builtin.min_, Builtin.min2]
      all_goals omega
    · rw [show min p q = q by omega]
      unfold execOp
      simp [resolve, invoke, builtin, hx, hy, Builtin.min_, Builtin.min2]
      all_goals omega
  refine wpList_plain hgd fun K hK => ?_
  unfold Oper.wp
  rw [hr]
  exact hK _ _ h

theorem GSl.take7 {α : Type} {E : El} {enc : α → Array Value} {w : World} {o : Option Addr} {n cap : Nat} {C : List α} (h : GSl E enc w (.slice o n cap) C) {k : Nat} (hk : k ≤ n) : GSl E enc w (.slice o k cap) (C.take k) := by
  obtain ⟨o', cap', h1, h2, h3, h4⟩ := h
  simp only [Value.slice.injEq] at h1
  obtain ⟨rfl, rfl, rfl⟩ := h1
  have hl : (C.take k).length = k := by rw [List.length_take]; omega
  refine ⟨o, cap, by rw [hl], by rw [hl]; omega, h3, fun i hi => ?_⟩
  rw [hl] at hi
  obtain ⟨g, off, cur, t, fr, e1, e2, e3⟩ := h4 i (by omega)
  refine ⟨g, off, cur, t, fr, e1, e2, fun j hj => ?_⟩
  rw [List.getElem_take]
  exact e3 j hj
end Go.Proofs.YtbdbjbmjnemknaaDoor
namespace Go.Proofs.YtbdbjbmjnemknaaDoor
open Go Go.RowKit
set_option maxRecDepth 20000

theorem okN_of7 {n : Int} (h : wfN n) : okN n := by
  have h' : (decide (IntKind.i64.min ≤ n) && decide (n ≤ IntKind.i64.max)) = true := h
  rw [Bool.and_eq_true, decide_eq_true_eq, decide_eq_true_eq] at h'
  exact ⟨h'.1, h'.2⟩
theorem okE7_of {x : Ent} (h : wfE x) : okE7 x := by
  obtain ⟨h1, h2, h3, h4, h5, h6, h7, h8, h9⟩ := h
  exact ⟨okN_of7 h1, okN_of7 h2, okN_of7 h3, okN_of7 h4, okN_of7 h5, okN_of7 h6, okN_of7 h7, okN_of7 h8, okN_of7 h9⟩
theorem slice_spot8 {o : Option Addr} {n cap : Nat} {w : World} {l : List Ent} (h : EntsAt w (.slice o n cap) l) (hn : 0 < n) : ∃ g off, o = some ⟨g, off, none⟩ := by
  obtain ⟨g, off, _, _, _, _, h1, _⟩ := h.at 0 hn
  exact ⟨g, off, h1⟩

set_option maxHeartbeats 8000000 in
set_option maxRecDepth 100000 in
theorem lawSPrints_any (l0 : List Ent) (vl : Value) (w : World) (hl0 : EntsAt w vl l0) (h320 : ∀ x ∈ l0, ent32 x) (hwf0 : ∀ x ∈ l0, wfE x) (hP : Places w) (htab : Lib.TabIs Tryd.prog w "internal/strconv.uint64pow10" .u64 Lib.pow10Tab) :
    Calls Tryd.prog 4 #[vl] w fun e w' => e = .returned (.bool true) ∧ Below w.heap.size w w' := by
  have AW : Hid (Calls Tryd.prog 5 #[] w fun e w' => e = .returned (.bool true) ∧ Below w.heap.size w w') := awake7_any w hP
  obtain ⟨o, cap, rfl, hc1, hc2⟩ := GSl.slice hl0
  obtain ⟨n0, hn0⟩ : ∃ n, n = l0.length := ⟨_, rfl⟩
  rw [← hn0] at hl0 hc1 ⊢
  obtain ⟨n, hn⟩ : ∃ n, n = min n0 100 := ⟨_, rfl⟩
  have hnm : (n : Int) = min (n0 : Int) 100 := by omega
  have hn0' : n ≤ n0 := by omega
  have hl : EntsAt w (.slice o n cap) (l0.take n) := GSl.take7 hl0 hn0'
  have h32 : ∀ x ∈ l0.take n, ent32 x := fun x hx => h320 x (List.mem_of_mem_take hx)
  have hwf : ∀ x ∈ l0.take n, okE7 x := fun x hx => okE7_of (hwf0 x (List.mem_of_mem_take hx))
  have hll : (l0.take n).length = n := by rw [List.length_take]; omega
  obtain ⟨l, hle⟩ : ∃ l, l = l0.take n := ⟨_, rfl⟩
  rw [← hle] at hl h32 hwf hll
  unfold maxLen at hc2
  have hsl : ∀ W, (Instr.sliceAt 23 (.slice o n0 cap) none (some (.int .i64 (n : Int))) none).run Tryd.prog W = .ok (.slice o n cap) W := fun W => by
    rcases Nat.eq_zero_or_pos n0 with h | h
    · obtain rfl : n = 0 := by omega
      cases o with
      | none => simp [go_sem, Tryd.underlying23]
      | some a => simp [go_sem, Tryd.underlying23]
    · obtain ⟨g, off, rfl⟩ := slice_spot8 hl0 h
      simp [go_sem, Tryd.underlying23]
      omega
  have C1 : Hid (∀ W, Below w.heap.size w W → Calls Tryd.prog 7 #[.slice o n cap] W fun e w' => e = .returned (.string ⟨(printE l).toArray⟩) ∧ Below W.heap.size W w') := fun W hb => sprint_any l _ W (GSl.below hl hb) h32 hwf (by omega) ((Lib.tabBelow_of_tabIs htab) W hb)
  have C2 : Hid (∀ W, Below w.heap.size w W → Calls Tryd.prog 9 #[.slice o n cap] W fun e w' => e = .returned (.string ⟨(printE l).toArray⟩) ∧ Below W.heap.size W w') := fun W hb => rprint7_any l _ W (GSl.below hl hb) h32 hwf (by omega)
  have HNM : Hid ((n : Int) = min (n0 : Int) 100) := hnm
  obtain ⟨S, hS⟩ : ∃ S : ByteArray, S = ⟨(printE l).toArray⟩ := ⟨_, rfl⟩
  rw [← hS] at C1 C2
  clear hl hl0 h32 hwf h320 hwf0 hll hle hn hn0 hnm hP htab hS
  go_enter Tryd.func4, Tryd.ntmps4
  go_wp2_with fail
  refine AW.out.mono ?_
  rintro e w1 ⟨rfl, hb1⟩
  have B1 : Hid (Below w.heap.size w w1) := hb1
  clear hb1
  go_wp2_with (refine wl_min7 rfl _ _ rfl (n0 : Int) 100 (n : Int) rfl rfl HNM.out ?_)
  refine (C1.out _ B1.out).mono ?_
  rintro e w2 ⟨rfl, hb2⟩
  have B2 : Hid (Below w.heap.size w w2) := B1.out.trans (hb2.mono B1.out.size)
  clear hb2
  go_wp2_with fail
  refine (C2.out _ B2.out).mono ?_
  rintro e w3 ⟨rfl, hb3⟩
  have B3 : Hid (Below w.heap.size w w3) := B2.out.trans (hb3.mono B2.out.size)
  clear hb3
  go_wp2_with fail
  go_ret
  exact ⟨by simp, B3.out⟩
end Go.Proofs.YtbdbjbmjnemknaaDoor
