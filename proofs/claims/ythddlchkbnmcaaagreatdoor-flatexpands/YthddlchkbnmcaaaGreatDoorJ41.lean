import Derived.Test.YthddlchkbnmcaaaGreatDoorJ40
import Derived.Test.YthddlchkbnmcaaaGreatDoorJ38
import Derived.Test.YthddlchkbnmcaaaGreatDoorJ20
namespace Go.Proofs.YthddlchkbnmcaaaGreatDoor
open Go Go.RowKit
set_option maxRecDepth 20000

/-- The five lists that are crossed, and the cubes of an entry. -/
def five8 (x : Ent) : List (List CubeT) := [prefL 0 x.src x.srcBits, prefL 1 x.dst x.dstBits, protL x.proto, portP 2 x.slow x.shigh, portP 3 x.dlow x.dhigh]
def cubesT (x : Ent) : List CubeT := if x.dflt then [allC] else meetsL (five8 x)
theorem portP_few (f l h : Int) : (portP f l h).length ≤ 30 := by
  unfold portP
  split
  · rw [portC_len]; exact ran_few l h
  · simp
theorem protL_few (n : Int) : (protL n).length ≤ 1 := by
  unfold protL
  split
  · simp
  · split <;> simp
theorem five_few (x : Ent) : (∀ l ∈ five8 x, l.length ≤ 1000) ∧ ∀ k, (meetsL ((five8 x).take k)).length ≤ 1000 := by
  have h1 := protL_few x.proto
  have h2 := portP_few 2 x.slow x.shigh
  have h3 := portP_few 3 x.dlow x.dhigh
  refine ⟨fun l hl => ?_, ?_⟩
  · simp only [five8, List.mem_cons, List.not_mem_nil, or_false] at hl
    rcases hl with rfl | rfl | rfl | rfl | rfl
    · simp [prefL]
    · simp [prefL]
    all_goals omega
  · have step : ∀ (k m b : Nat) (l : List CubeT), (five8 x)[k]? = some l → (meetsL ((five8 x).take k)).length ≤ m → l.length ≤ b → (meetsL ((five8 x).take (k + 1))).length ≤ m * b := fun k m b l h1 h2 h3 => by
      rw [meetsL_take h1]
      exact Nat.le_trans (crossL_len _ _) (Nat.mul_le_mul h2 h3)
    have s0 : (meetsL ((five8 x).take 0)).length ≤ 1 := Nat.le_of_eq rfl
    have s1 := step 0 1 1 _ rfl s0 (Nat.le_of_eq rfl)
    have s2 := step 1 _ 1 _ rfl s1 (Nat.le_of_eq rfl)
    have s3 := step 2 _ 1 _ rfl s2 h1
    have s4 := step 3 _ 30 _ rfl s3 h2
    have s5 := step 4 _ 30 _ rfl s4 h3
    intro k
    rcases (show k = 0 ∨ k = 1 ∨ k = 2 ∨ k = 3 ∨ k = 4 ∨ 5 ≤ k by omega) with rfl | rfl | rfl | rfl | rfl | hk
    · exact Nat.le_trans s0 (by decide)
    · exact Nat.le_trans s1 (by decide)
    · exact Nat.le_trans s2 (by decide)
    · exact Nat.le_trans s3 (by decide)
    · exact Nat.le_trans s4 (by decide)
    · have e5 : (five8 x).take k = (five8 x).take 5 := by
        rw [List.take_of_length_le (show (five8 x).length ≤ k from hk), List.take_of_length_le (show (five8 x).length ≤ 5 from Nat.le_refl 5)]
      rw [e5]
      exact Nat.le_trans s5 (by decide)
theorem cubes_few (x : Ent) : (cubesT x).length ≤ 1000 := by
  unfold cubesT
  split
  · simp
  · have := (five_few x).2 5
    rwa [List.take_of_length_le (by simp [five8])] at this
theorem byts_meets : ∀ (L : List (List CubeT)), Byts (meetsL L) := by
  intro L
  unfold meetsL
  rcases List.eq_nil_or_concat L with rfl | ⟨L', l, rfl⟩
  · exact byts_one Z_byt Z_byt
  · rw [List.concat_eq_append, List.foldl_append]
    exact byts_crossL _ _
theorem cubes_byts (x : Ent) : Byts (cubesT x) := by
  unfold cubesT
  split
  · exact byts_one Z_byt Z_byt
  · exact byts_meets _
theorem ListsAt.below {w w' : World} {v : Value} {L : List (List CubeT)} (h : ListsAt w v L) (hb : Below w.heap.size w w') : ListsAt w' v L := by
  obtain ⟨g, vs, rfl, hg, hv⟩ := h
  exact ⟨g, vs, rfl, (hb.block g (Array.getElem?_eq_some_iff.1 hg).1).trans hg, fun i l hl => by obtain ⟨u, h1, h2⟩ := hv i l hl; exact ⟨u, h1, h2.below hb⟩⟩
theorem infoSl : ∃ i, Tryz.prog.info? 49 = some i ∧ i.zero = some (.slice none 0 0) ∧ i.size = 1 := by
  cases h : Tryz.prog.info? 49 with
  | none => exact absurd (show (Tryz.prog.info? 49).isSome = true by kernel_rfl) (by rw [h]; simp)
  | some i =>
    have h1 : (Tryz.prog.info? 49).map (fun i => (i.zero, i.size)) = some (some (.slice none 0 0), 1) := by kernel_rfl
    rw [h] at h1
    simp only [Option.map_some, Option.some.injEq, Prod.mk.injEq] at h1
    exact ⟨i, rfl, h1.1, h1.2⟩
theorem load_u32b (W : World) (ad : Addr) (n : Int) (h : W.cell? ad = some (.int .u32 n)) : (Instr.loadAt 33 (.pointer (some ad))).run Tryz.prog W = .ok (.int .u32 n) W := by
  simp [go_sem, h]
def cub_ops : List Oper := [
  { dst := some 27, op := .fieldAddr 35 (.tmp 1) 2, type := 0, pos := "rows.go:41", after := #[], guard := none },
  { dst := some 28, op := .load 33 (.tmp 27), type := 33, pos := "rows.go:41", after := #[{ on := 0, ground := .data }], guard := none },
  { dst := some 29, op := .fieldAddr 35 (.tmp 1) 3, type := 0, pos := "rows.go:41", after := #[], guard := none },
  { dst := some 30, op := .load 3 (.tmp 29), type := 3, pos := "rows.go:41", after := #[{ on := 2, ground := .data }], guard := none },
  { dst := some 31, op := .call { callee := .value (.func 31), args := #[.const (.int .i64 0), .tmp 28, .tmp 30], argTypes := #[3, 33, 3] }, type := 49, pos := "rows.go:41", after := #[{ on := 1, ground := .data }, { on := 3, ground := .data }], guard := none },
  { dst := some 32, op := .fieldAddr 35 (.tmp 1) 4, type := 0, pos := "rows.go:41", after := #[], guard := none },
  { dst := some 33, op := .load 33 (.tmp 32), type := 33, pos := "rows.go:41", after := #[{ on := 5, ground := .data }], guard := none },
  { dst := some 34, op := .fieldAddr 35 (.tmp 1) 5, type := 0, pos := "rows.go:41", after := #[], guard := none },
  { dst := some 35, op := .load 3 (.tmp 34), type := 3, pos := "rows.go:41", after := #[{ on := 7, ground := .data }], guard := none },
  { dst := some 36, op := .call { callee := .value (.func 31), args := #[.const (.int .i64 1), .tmp 33, .tmp 35], argTypes := #[3, 33, 3] }, type := 49, pos := "rows.go:41", after := #[{ on := 6, ground := .data }, { on := 8, ground := .data }, { on := 4, ground := .chain }], guard := none },
  { dst := some 37, op := .fieldAddr 35 (.tmp 1) 10, type := 0, pos := "rows.go:41", after := #[], guard := none },
  { dst := some 38, op := .load 3 (.tmp 37), type := 3, pos := "rows.go:41", after := #[{ on := 10, ground := .data }], guard := none },
  { dst := some 39, op := .call { callee := .value (.func 32), args := #[.tmp 38], argTypes := #[3] }, type := 49, pos := "rows.go:41", after := #[{ on := 11, ground := .data }, { on := 9, ground := .chain }], guard := none },
  { dst := some 40, op := .move (.tmp 3), type := 49, pos := "rows.go:41", after := #[], guard := none },
  { dst := some 41, op := .move (.tmp 5), type := 49, pos := "rows.go:41", after := #[], guard := none },
  { dst := some 42, op := .buildSlice 104 5 #[(0, .tmp 31), (1, .tmp 36), (2, .tmp 39), (3, .tmp 40), (4, .tmp 41)], type := 104, pos := "rows.go:41", after := #[{ on := 4, ground := .data }, { on := 9, ground := .data }, { on := 12, ground := .data }, { on := 13, ground := .data }, { on := 14, ground := .data }], guard := none },
  { dst := some 43, op := .call { callee := .value (.func 30), args := #[.tmp 42], argTypes := #[104] }, type := 49, pos := "rows.go:41", after := #[{ on := 15, ground := .data }, { on := 12, ground := .chain }], guard := none },
  { dst := some 2, op := .assign (.tmp 43), type := 49, pos := "rows.go:41", after := #[{ on := 16, ground := .data }, { on := 16, ground := .chain }, { on := 0, ground := .phase }, { on := 1, ground := .phase }, { on := 2, ground := .phase }, { on := 3, ground := .phase }, { on := 4, ground := .phase }, { on := 5, ground := .phase }, { on := 6, ground := .phase }, { on := 7, ground := .phase }, { on := 8, ground := .phase }, { on := 9, ground := .phase }, { on := 10, ground := .phase }, { on := 11, ground := .phase }, { on := 12, ground := .phase }, { on := 13, ground := .phase }, { on := 14, ground := .phase }, { on := 15, ground := .phase }, { on := 16, ground := .phase }], guard := none }]
def cub_D : List Nat := [27, 28, 29, 30, 31, 32, 33, 34, 35, 36, 37, 38, 39, 40, 41, 42, 43, 2]
def cub_V (p B : Nat) (x : Ent) (vs vd : Value) (i : Nat) (v : Value) (w : World) : Prop :=
  match i with
  | 0 => v = .pointer (some ⟨p, 2, none⟩)
  | 1 => v = .int .u32 x.src
  | 2 => v = .pointer (some ⟨p, 3, none⟩)
  | 3 => v = .int .i64 x.srcBits
  | 4 => Sl w v (prefL 0 x.src x.srcBits)
  | 5 => v = .pointer (some ⟨p, 4, none⟩)
  | 6 => v = .int .u32 x.dst
  | 7 => v = .pointer (some ⟨p, 5, none⟩)
  | 8 => v = .int .i64 x.dstBits
  | 9 => Sl w v (prefL 1 x.dst x.dstBits)
  | 10 => v = .pointer (some ⟨p, 10, none⟩)
  | 11 => v = .int .i64 x.proto
  | 12 => Sl w v (protL x.proto)
  | 13 => v = vs
  | 14 => v = vd
  | 15 => ListsAt w v (five8 x)
  | 16 => w.ownsRow B 37 26 v (meetsL (five8 x)).length (ccells (meetsL (five8 x)))
  | _ => True
theorem cub_mono (p B : Nat) (x : Ent) (vs vd : Value) : ∀ j v w w', cub_V p B x vs vd j v w → Below w.heap.size w w' → cub_V p B x vs vd j v w' := by
  intro j v w w' h hb
  revert h
  unfold cub_V
  split <;> intro h <;> first
    | exact h
    | exact Sl.below h hb
    | exact ListsAt.below h hb
    | exact gown_below h hb

set_option maxHeartbeats 4000000 in
theorem cub_region {id : Nat} {Q : Exit → Act → World → Prop} {a0 : Act} {w0 : World} (hs : 44 ≤ a0.tmps.size) (p : Nat) (x : Ent) (hx : ent32 x) (vs vd : Value) (h1 : a0.eval (.tmp 1) = .pointer (some ⟨p, 0, none⟩)) (h3 : a0.eval (.tmp 3) = vs) (h5 : a0.eval (.tmp 5) = vd)
    (hp : w0.heap[p]? = some (.cells (entV x) 35 (0, 0))) (hvs : Sl w0 vs (portP 2 x.slow x.shigh)) (hvd : Sl w0 vd (portP 3 x.dlow x.dhigh)) (hP : Places w0)
    (hK : ∀ y w' v, Below w0.heap.size w0 w' → w'.ownsRow w0.heap.size 37 26 v (meetsL (five8 x)).length (ccells (meetsL (five8 x))) → Q .normal ((putsD cub_D y a0).put (some 2) v) w') : (Code.region id cub_ops.toArray true).wp Tryz.prog Q a0 w0 := by
  have hDs : ∀ d ∈ cub_D, d < a0.tmps.size := fun d hd => by
    have : d < 44 := by
      revert hd; unfold cub_D; intro hd
      simp only [List.mem_cons, List.not_mem_nil, or_false] at hd
      omega
    omega
  refine region_inv 17 (cub_V p w0.heap.size x vs vd) cub_D (by kernel_rfl) rfl (by kernel_rfl) (by decide) hDs (by kernel_rfl) (by kernel_rfl) (cub_mono p w0.heap.size x vs vd) ?_ ?_
  · intro i o ho hi a w h
    have B : Below w0.heap.size w0 w := (Below.refl _ _).drew.trans h.below
    have hPw : Places w := hP.later hP.pos B
    have e1 : a.eval (.tmp 1) = .pointer (some ⟨p, 0, none⟩) := (h.other 1 (by decide)).trans h1
    have e3 : a.eval (.tmp 3) = vs := (h.other 3 (by decide)).trans h3
    have e5 : a.eval (.tmp 5) = vd := (h.other 5 (by decide)).trans h5
    have bp : w.heap[p]? = some (.cells (entV x) 35 (0, 0)) := (B.block p (Array.getElem?_eq_some_iff.1 hp).1).trans hp
    have c : ∀ j u, (entV x)[j]? = some u → w.cell? ⟨p, j, none⟩ = some u := fun j u hu => by rw [cell_of_row _ _ _ _ _ _ bp]; exact hu
    have fa : ∀ j, (j = 2 ∨ j = 3 ∨ j = 4 ∨ j = 5 ∨ j = 10) → (Instr.fieldAt 35 (.pointer (some ⟨p, 0, none⟩)) j).run Tryz.prog w = .ok (.pointer (some ⟨p, j, none⟩)) w := fun j hj => by
      rcases hj with rfl | rfl | rfl | rfl | rfl <;> simp [go_sem]
    have cp : ∀ vs W, (callFunc 31 vs).run Tryz.prog W = .ok (.enter 31 vs) W := fun vs W => by have hf := Tryz.func31; simp [go_sem]
    have cq : ∀ vs W, (callFunc 32 vs).run Tryz.prog W = .ok (.enter 32 vs) W := fun vs W => by have hf := Tryz.func32; simp [go_sem]
    have cm : ∀ vs W, (callFunc 30 vs).run Tryz.prog W = .ok (.enter 30 vs) W := fun vs W => by have hf := Tryz.func30; simp [go_sem]
    rcases (show i = 0 ∨ i = 1 ∨ i = 2 ∨ i = 3 ∨ i = 4 ∨ i = 5 ∨ i = 6 ∨ i = 7 ∨ i = 8 ∨ i = 9 ∨ i = 10 ∨ i = 11 ∨ i = 12 ∨ i = 13 ∨ i = 14 ∨ i = 15 ∨ i = 16 by omega) with rfl | rfl | rfl | rfl | rfl | rfl | rfl | rfl | rfl | rfl | rfl | rfl | rfl | rfl | rfl | rfl | rfl
    · obtain rfl := Option.some.inj ho
      exact iv_val rfl rfl _ (run_fieldOp rfl _ _ _ ((congrArg (fun y => (Instr.fieldAt 35 y 2).run Tryz.prog w) e1).trans (fa 2 (by decide)))) rfl
    · obtain rfl := Option.some.inj ho
      have f0 : a.eval (.tmp 27) = .pointer (some ⟨p, 2, none⟩) := h.has ⟨0, .data⟩ (by simp) rfl _ 27 rfl rfl
      exact iv_val rfl rfl _ (run_loadOp rfl _ _ _ _ f0 (load_u32b _ _ _ (c 2 _ rfl))) rfl
    · obtain rfl := Option.some.inj ho
      exact iv_val rfl rfl _ (run_fieldOp rfl _ _ _ ((congrArg (fun y => (Instr.fieldAt 35 y 3).run Tryz.prog w) e1).trans (fa 3 (by decide)))) rfl
    · obtain rfl := Option.some.inj ho
      have f0 : a.eval (.tmp 29) = .pointer (some ⟨p, 3, none⟩) := h.has ⟨2, .data⟩ (by simp) rfl _ 29 rfl rfl
      exact iv_val rfl rfl _ (run_loadOp rfl _ _ _ _ f0 (load_int _ _ _ (c 3 _ rfl))) rfl
    · obtain rfl := Option.some.inj ho
      have f1 : a.eval (.tmp 28) = .int .u32 x.src := h.has ⟨1, .data⟩ (by simp) rfl _ 28 rfl rfl
      have f2 : a.eval (.tmp 30) = .int .i64 x.srcBits := h.has ⟨3, .data⟩ (by simp) rfl _ 30 rfl rfl
      refine iv_call rfl rfl 31 #[.int .i64 0, .int .u32 x.src, .int .i64 x.srcBits] (run_callOps rfl cp _ _ _ (by simp only [List.map_toArray, List.map_cons, List.map_nil, f1, f2]; rfl)) ((prefix8_any 0 x.src x.srcBits (by simp) hx.1.1 hx.1.2 w hPw).mono fun e w' h => ?_)
      obtain ⟨⟨u, r1, r2⟩, r3⟩ := h
      exact ⟨u, r1, r3, r2⟩
    · obtain rfl := Option.some.inj ho
      exact iv_val rfl rfl _ (run_fieldOp rfl _ _ _ ((congrArg (fun y => (Instr.fieldAt 35 y 4).run Tryz.prog w) e1).trans (fa 4 (by decide)))) rfl
    · obtain rfl := Option.some.inj ho
      have f0 : a.eval (.tmp 32) = .pointer (some ⟨p, 4, none⟩) := h.has ⟨5, .data⟩ (by simp) rfl _ 32 rfl rfl
      exact iv_val rfl rfl _ (run_loadOp rfl _ _ _ _ f0 (load_u32b _ _ _ (c 4 _ rfl))) rfl
    · obtain rfl := Option.some.inj ho
      exact iv_val rfl rfl _ (run_fieldOp rfl _ _ _ ((congrArg (fun y => (Instr.fieldAt 35 y 5).run Tryz.prog w) e1).trans (fa 5 (by decide)))) rfl
    · obtain rfl := Option.some.inj ho
      have f0 : a.eval (.tmp 34) = .pointer (some ⟨p, 5, none⟩) := h.has ⟨7, .data⟩ (by simp) rfl _ 34 rfl rfl
      exact iv_val rfl rfl _ (run_loadOp rfl _ _ _ _ f0 (load_int _ _ _ (c 5 _ rfl))) rfl
    · obtain rfl := Option.some.inj ho
      have f1 : a.eval (.tmp 33) = .int .u32 x.dst := h.has ⟨6, .data⟩ (by simp) rfl _ 33 rfl rfl
      have f2 : a.eval (.tmp 35) = .int .i64 x.dstBits := h.has ⟨8, .data⟩ (by simp) rfl _ 35 rfl rfl
      refine iv_call rfl rfl 31 #[.int .i64 1, .int .u32 x.dst, .int .i64 x.dstBits] (run_callOps rfl cp _ _ _ (by simp only [List.map_toArray, List.map_cons, List.map_nil, f1, f2]; rfl)) ((prefix8_any 1 x.dst x.dstBits (by simp) hx.2.1 hx.2.2 w hPw).mono fun e w' h => ?_)
      obtain ⟨⟨u, r1, r2⟩, r3⟩ := h
      exact ⟨u, r1, r3, r2⟩
    · obtain rfl := Option.some.inj ho
      exact iv_val rfl rfl _ (run_fieldOp rfl _ _ _ ((congrArg (fun y => (Instr.fieldAt 35 y 10).run Tryz.prog w) e1).trans (fa 10 (by decide)))) rfl
    · obtain rfl := Option.some.inj ho
      have f0 : a.eval (.tmp 37) = .pointer (some ⟨p, 10, none⟩) := h.has ⟨10, .data⟩ (by simp) rfl _ 37 rfl rfl
      exact iv_val rfl rfl _ (run_loadOp rfl _ _ _ _ f0 (load_int _ _ _ (c 10 _ rfl))) rfl
    · obtain rfl := Option.some.inj ho
      have f1 : a.eval (.tmp 38) = .int .i64 x.proto := h.has ⟨11, .data⟩ (by simp) rfl _ 38 rfl rfl
      refine iv_call rfl rfl 32 #[.int .i64 x.proto] (run_callOps rfl cq _ _ _ (by simp only [List.map_toArray, List.map_cons, List.map_nil, f1])) ((protos_any x.proto w hPw).mono fun e w' h => ?_)
      obtain ⟨⟨u, r1, r2⟩, r3⟩ := h
      exact ⟨u, r1, r3, r2⟩
    · obtain rfl := Option.some.inj ho
      exact iv_val rfl rfl _ (run_moveOp rfl _ _ _ e3) rfl
    · obtain rfl := Option.some.inj ho
      exact iv_val rfl rfl _ (run_moveOp rfl _ _ _ e5) rfl
    · obtain rfl := Option.some.inj ho
      have f1 : Sl w (a.eval (.tmp 31)) (prefL 0 x.src x.srcBits) := h.has ⟨4, .data⟩ (by simp) rfl _ 31 rfl rfl
      have f2 : Sl w (a.eval (.tmp 36)) (prefL 1 x.dst x.dstBits) := h.has ⟨9, .data⟩ (by simp) rfl _ 36 rfl rfl
      have f3 : Sl w (a.eval (.tmp 39)) (protL x.proto) := h.has ⟨12, .data⟩ (by simp) rfl _ 39 rfl rfl
      have f4 : a.eval (.tmp 40) = vs := h.has ⟨13, .data⟩ (by simp) rfl _ 40 rfl rfl
      have f5 : a.eval (.tmp 41) = vd := h.has ⟨14, .data⟩ (by simp) rfl _ 41 rfl rfl
      obtain ⟨o1, c1, g1, _, _⟩ := f1.slice
      obtain ⟨o2, c2, g2, _, _⟩ := f2.slice
      obtain ⟨o3, c3, g3, _, _⟩ := f3.slice
      obtain ⟨o4, c4, g4, _, _⟩ := hvs.slice
      obtain ⟨o5, c5, g5, _, _⟩ := hvd.slice
      have s4 := hvs.below B
      have s5 := hvd.below B
      rw [g1] at f1
      rw [g2] at f2
      rw [g3] at f3
      rw [g4] at f4 s4
      rw [g5] at f5 s5
      obtain ⟨n1, q1⟩ : ∃ n, n = (prefL 0 x.src x.srcBits).length := ⟨_, rfl⟩
      obtain ⟨n2, q2⟩ : ∃ n, n = (prefL 1 x.dst x.dstBits).length := ⟨_, rfl⟩
      obtain ⟨n3, q3⟩ : ∃ n, n = (protL x.proto).length := ⟨_, rfl⟩
      obtain ⟨n4, q4⟩ : ∃ n, n = (portP 2 x.slow x.shigh).length := ⟨_, rfl⟩
      obtain ⟨n5, q5⟩ : ∃ n, n = (portP 3 x.dlow x.dhigh).length := ⟨_, rfl⟩
      rw [← q1] at f1 g1
      rw [← q2] at f2 g2
      rw [← q3] at f3 g3
      rw [← q4] at f4 s4
      rw [← q5] at f5 s5
      refine iv_list rfl ?_
      obtain ⟨ie, hie, hz, hsi⟩ := infoSl
      refine wpList_buildSlice rfl _ 49 5 _ rfl #[.slice o1 n1 c1, .slice o2 n2 c2, .slice o3 n3 c3, .slice o4 n4 c4, .slice o5 n5 c5] ie (.slice none 0 0) Tryz.underlying104 hie hz (by rw [hsi]; decide) (by rw [hsi]; decide) (by simp only [List.map_toArray, List.map_cons, List.map_nil, g1, g2, g3, f4, f5, hsi]; kernel_rfl) ?_
      have BB : Below w.heap.size w (w.alloc (.cells #[.slice o1 n1 c1, .slice o2 n2 c2, .slice o3 n3 c3, .slice o4 n4 c4, .slice o5 n5 c5] 49)) := (Below.refl _ _).alloc (Nat.le_refl _) _
      refine ⟨_, rfl, BB, fun _ _ => ⟨_, _, rfl, heap_new _ _ _ rfl, fun i l hl => ?_⟩⟩
      rcases (show i = 0 ∨ i = 1 ∨ i = 2 ∨ i = 3 ∨ i = 4 ∨ 5 ≤ i by omega) with rfl | rfl | rfl | rfl | rfl | hi5
      · obtain rfl := Option.some.inj hl
        exact ⟨_, rfl, f1.below BB⟩
      · obtain rfl := Option.some.inj hl
        exact ⟨_, rfl, f2.below BB⟩
      · obtain rfl := Option.some.inj hl
        exact ⟨_, rfl, f3.below BB⟩
      · obtain rfl := Option.some.inj hl
        exact ⟨_, rfl, s4.below BB⟩
      · obtain rfl := Option.some.inj hl
        exact ⟨_, rfl, s5.below BB⟩
      · rw [List.getElem?_eq_none (by simpa [five8] using hi5)] at hl
        cases hl
    · obtain rfl := Option.some.inj ho
      have f1 : ListsAt w (a.eval (.tmp 42)) (five8 x) := h.has ⟨15, .data⟩ (by simp) rfl _ 42 rfl rfl
      refine iv_call rfl rfl 30 #[a.eval (.tmp 42)] (run_callOps rfl cm _ _ _ (by simp)) ((meets_any (five8 x) _ w f1 (by simp [five8]) (five_few x).1 (five_few x).2).mono fun e w' h => ?_)
      obtain ⟨⟨u, r1, r2⟩, r3⟩ := h
      exact ⟨u, r1, r3, gown_base r2 B.size⟩
  · intro a w hb hsz hdf hot hh
    have f1 : w.ownsRow w0.heap.size 37 26 (a.eval (.tmp 43)) (meetsL (five8 x)).length (ccells (meetsL (five8 x))) := hh 16 _ 43 (by decide) rfl rfl
    obtain ⟨v, hv⟩ : ∃ v, a.eval (.tmp 43) = v := ⟨_, rfl⟩
    rw [hv] at f1
    refine wpOp_assign rfl rfl _ rfl v hv (some 2) rfl ?_
    show Q .normal (a.put (some 2) v) w
    rw [puts_form hsz hdf hot hDs]
    exact hK _ w v hb f1

set_option maxHeartbeats 4000000 in
set_option maxRecDepth 100000 in
theorem cubes_any (x : Ent) (hx : ent32 x) (w : World) (hP : Places w) :
    Calls Tryz.prog 16 #[.agg (entV x)] w fun e w' => (∃ v, e = .returned v ∧ w'.ownsRow w.heap.size 37 26 v (cubesT x).length (ccells (cubesT x))) ∧ Below w.heap.size w w' := by
  have hZl := Z_byt.1
  have K0 : Hid ((w.alloc (.cells (entV x) 35)).heap[w.heap.size]? = some (.cells (entV x) 35 (0, 0))) := heap_new _ _ _ rfl
  have B0 : Hid (Below w.heap.size w (w.alloc (.cells (entV x) 35))) := (Below.refl _ _).alloc (Nat.le_refl _) _
  have c : ∀ j u, (entV x)[j]? = some u → (w.alloc (.cells (entV x) 35)).cell? ⟨w.heap.size, j, none⟩ = some u := fun j u hu => by rw [cell_of_row _ _ _ _ _ _ K0.out]; exact hu
  have d0 := c 0 (.bool x.dflt) rfl
  cases hd : x.dflt with
  | true =>
    rw [hd] at d0
    have HA : Hid (∀ W, Calls Tryz.prog 14 #[] W fun e w' => e = .returned (.agg (cv Z Z)) ∧ Below W.heap.size W w') := all8
    rw [show cubesT x = [allC] by unfold cubesT; rw [if_pos hd]]
    clear c hd hP
    go_enter Tryz.func16, Tryz.ntmps16
    go_wp2_with fail
    refine (HA.out _).mono ?_
    rintro e w1 ⟨rfl, hb1⟩
    have B1 : Hid (Below w.heap.size w w1) := B0.out.trans (hb1.mono B0.out.size)
    clear hb1
    go_wp2_with (refine wl_build1 rfl _ rfl Z Z hZl hZl rfl ?_)
    go_ret
    exact ⟨⟨_, rfl, gown_base (own_one8 w1 Z Z Z_byt Z_byt) B1.out.size⟩, B1.out.alloc B1.out.size _⟩
  | false =>
    rw [hd] at d0
    have c6 := c 6 (.int .i64 x.slow) rfl
    have c7 := c 7 (.int .i64 x.shigh) rfl
    have CE : Hid (cubesT x = meetsL (five8 x)) := by show _ = _; unfold cubesT; rw [if_neg (by rw [hd]; decide)]
    have HPW : Hid (∀ W, Below w.heap.size w W → Places W) := fun W hb => hP.later hP.pos hb
    have PP : Hid (∀ (f l h : Int) W, Places W → Calls Tryz.prog 29 #[.int .i64 f, .int .i64 l, .int .i64 h] W fun e w' => ∃ u, e = .returned (.tuple #[u, .int .i64 (portE f l h)]) ∧ Sl w' u (portP f l h) ∧ Below W.heap.size W w') := fun f l h W hW => ports_any f l h W hW
    clear c hd hP
    go_enter Tryz.func16, Tryz.ntmps16
    go_wp2_with fail
    refine (PP.out 2 x.slow x.shigh _ (HPW.out _ B0.out)).mono ?_
    rintro e w1 ⟨vs, rfl, hs1, hb1⟩
    have B1 : Hid (Below w.heap.size w w1) := B0.out.trans (hb1.mono B0.out.size)
    have K1 : Hid (w1.heap[w.heap.size]? = some (.cells (entV x) 35 (0, 0))) := (hb1.block _ (by simp)).trans K0.out
    have S1 : Hid (Sl w1 vs (portP 2 x.slow x.shigh)) := hs1
    have c8 : w1.cell? ⟨w.heap.size, 8, none⟩ = some (.int .i64 x.dlow) := by rw [cell_of_row _ _ _ _ _ _ K1.out]; rfl
    have c9 : w1.cell? ⟨w.heap.size, 9, none⟩ = some (.int .i64 x.dhigh) := by rw [cell_of_row _ _ _ _ _ _ K1.out]; rfl
    clear hs1 hb1 d0 c6 c7
    go_wp2_with fail
    refine (PP.out 3 x.dlow x.dhigh _ (HPW.out _ B1.out)).mono ?_
    rintro e w2 ⟨vd, rfl, hs2, hb2⟩
    have B2 : Hid (Below w.heap.size w w2) := B1.out.trans (hb2.mono B1.out.size)
    have K2 : Hid (w2.heap[w.heap.size]? = some (.cells (entV x) 35 (0, 0))) := (hb2.block _ (Array.getElem?_eq_some_iff.1 K1.out).1).trans K1.out
    have S2 : Hid (Sl w2 vs (portP 2 x.slow x.shigh)) := S1.out.below hb2
    have S3 : Hid (Sl w2 vd (portP 3 x.dlow x.dhigh)) := hs2
    clear hs2 hb2 c8 c9
    go_upto_region 5 with fail
    refine cub_region (by exact Nat.le_of_eq rfl) w.heap.size x hx vs vd rfl rfl rfl K2.out S2.out S3.out (HPW.out _ B2.out) ?_
    intro y w3 v hb3 ho3
    have B3 : Hid (Below w.heap.size w w3) := B2.out.trans (hb3.mono B2.out.size)
    have O3 : Hid (w3.ownsRow w.heap.size 37 26 v (cubesT x).length (ccells (cubesT x))) := by rw [CE.out]; exact gown_base ho3 B2.out.size
    clear hb3 ho3
    simp only [putsD, cub_D, List.foldl_cons, List.foldl_nil, Act.put, List.setIfInBounds_toArray, List.set_cons_succ, List.set_cons_zero]
    go_wp2_with fail
    go_ret
    exact ⟨⟨_, rfl, O3.out⟩, B3.out⟩
end Go.Proofs.YthddlchkbnmcaaaGreatDoor
