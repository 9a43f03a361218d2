import Derived.Test.YtpbinkmeldkehaaJ22
import Derived.Test.YtpbinkmeldkehaaJ26
namespace Go.Proofs.Ytpbinkmeldkehaa
open Go Go.Lib Go.RowKit Ieee
set_option maxRecDepth 20000

/-! The reference's Meeting. -/
def mp_ops : List Oper := [
  { dst := some 33, op := .move (.tmp 5), type := 27, pos := "ref.go:17", after := #[], guard := none },
  { dst := some 34, op := .move (.tmp 0), type := 27, pos := "ref.go:17", after := #[], guard := none },
  { dst := some 35, op := .move (.tmp 6), type := 3, pos := "ref.go:17", after := #[], guard := none },
  { dst := some 36, op := .indexAddr 27 (.tmp 34) (.tmp 35), type := 0, pos := "ref.go:17", after := #[{ on := 1, ground := .data }, { on := 2, ground := .data }], guard := none },
  { dst := some 37, op := .fieldAddr 44 (.tmp 36) 0, type := 0, pos := "ref.go:17", after := #[{ on := 3, ground := .data }], guard := none },
  { dst := some 38, op := .load 3 (.tmp 37), type := 3, pos := "ref.go:17", after := #[{ on := 4, ground := .data }], guard := none },
  { dst := some 39, op := .load 42 (.tmp 7), type := 42, pos := "ref.go:17", after := #[], guard := none },
  { dst := some 40, op := .move (.tmp 0), type := 27, pos := "ref.go:17", after := #[], guard := none },
  { dst := some 41, op := .move (.tmp 6), type := 3, pos := "ref.go:17", after := #[], guard := none },
  { dst := some 42, op := .indexAddr 27 (.tmp 40) (.tmp 41), type := 0, pos := "ref.go:17", after := #[{ on := 7, ground := .data }, { on := 8, ground := .data }], guard := none },
  { dst := some 43, op := .fieldAddr 44 (.tmp 42) 2, type := 0, pos := "ref.go:17", after := #[{ on := 9, ground := .data }], guard := none },
  { dst := some 44, op := .load 3 (.tmp 43), type := 3, pos := "ref.go:17", after := #[{ on := 10, ground := .data }], guard := none },
  { dst := some 45, op := .build 44 #[(0, .tmp 38), (1, .tmp 39), (2, .tmp 44)], type := 44, pos := "ref.go:17", after := #[{ on := 5, ground := .data }, { on := 6, ground := .data }, { on := 11, ground := .data }], guard := none },
  { dst := some 46, op := .buildSlice 27 1 #[(0, .tmp 45)], type := 27, pos := "ref.go:17", after := #[{ on := 12, ground := .data }], guard := none },
  { dst := some 47, op := .call { callee := .builtin .append, args := #[.tmp 33, .tmp 46], argTypes := #[27, 27] }, type := 27, pos := "ref.go:17", after := #[{ on := 0, ground := .data }, { on := 13, ground := .data }], guard := none },
  { dst := some 5, op := .assign (.tmp 47), type := 27, pos := "ref.go:17", after := #[{ on := 14, ground := .data }, { on := 14, ground := .chain }, { on := 0, ground := .phase }, { on := 1, ground := .phase }, { on := 2, ground := .phase }, { on := 3, ground := .phase }, { on := 4, ground := .phase }, { on := 5, ground := .phase }, { on := 6, ground := .phase }, { on := 7, ground := .phase }, { on := 8, ground := .phase }, { on := 9, ground := .phase }, { on := 10, ground := .phase }, { on := 11, ground := .phase }, { on := 12, ground := .phase }, { on := 13, ground := .phase }, { on := 14, ground := .phase }], guard := none }]
def mp_D : List Nat := [33, 34, 35, 36, 37, 38, 39, 40, 41, 42, 43, 44, 45, 46, 47, 5]
def mp_D0 : List Nat := [33, 34, 35, 36, 37, 38, 39, 40, 41, 42, 43, 44, 45, 46, 47]
theorem run_index12 {o : Oper} {t : Nat} {x y : Operand} (ho : o.op = .indexAddr t x y) (a : Act) (W : World) (u z v : Value) (hu : a.eval x = u) (hz : a.eval y = z) (h : (Instr.indexAt t u z).run Try.prog W = .ok v W) : (execOp a.eval o).run Try.prog W = .ok (.value v) W := by
  unfold execOp
  simp only [ho, Sem.run_bind, hu, hz, h, Result.andThen_ok, Sem.run_pure]
theorem load_int12 (W : World) (ad : Addr) (n : Int) (h : W.cell? ad = some (.int .i64 n)) : (Instr.loadAt 3 (.pointer (some ad))).run Try.prog W = .ok (.int .i64 n) W := by
  simp [go_sem, h]
abbrev mpR (ord : Int) (U N : List Int) (act : Int) : RuleM := { order := ord, cube := (U, N), action := act }
def mp_V (H B : Nat) (vv vl : Value) (k g off : Nat) (ord act : Int) (U N : List Int) (L : List RuleM) (i : Nat) (v : Value) (w : World) : Prop :=
  match i with
  | 0 => v = vv
  | 1 => v = vl
  | 2 => v = .int .i64 (k : Int)
  | 3 => v = .pointer (some ⟨g, off + k * 28, none⟩)
  | 4 => v = .pointer (some ⟨g, off + k * 28, none⟩)
  | 5 => v = .int .i64 ord
  | 6 => v = .agg (cv U N)
  | 7 => v = vl
  | 8 => v = .int .i64 (k : Int)
  | 9 => v = .pointer (some ⟨g, off + k * 28, none⟩)
  | 10 => v = .pointer (some ⟨g, off + k * 28 + 27, none⟩)
  | 11 => v = .int .i64 act
  | 12 => v = .agg (ruleV (mpR ord U N act))
  | 13 => ∃ gn, v = .slice (some ⟨gn, 0, none⟩) 1 1 ∧ H ≤ gn ∧ w.heap[gn]? = some (.cells (ruleV (mpR ord U N act)) 44 (0, 0))
  | 14 => w.ownsRow B 44 28 v (L ++ [(mpR ord U N act)]).length (gcells ruleV (L ++ [(mpR ord U N act)]))
  | _ => True
theorem mp_mono (H B : Nat) (vv vl : Value) (k g off : Nat) (ord act : Int) (U N : List Int) (L : List RuleM) : ∀ i v w w', mp_V H B vv vl k g off ord act U N L i v w → Below w.heap.size w w' → mp_V H B vv vl k g off ord act U N L i v w' := by
  intro i v w w' h hb
  revert h
  unfold mp_V
  split <;> intro h <;> first
    | exact h
    | exact gown_below h hb
    | (obtain ⟨gn, h1, h2, h3⟩ := h
       exact ⟨gn, h1, h2, (hb.block gn (Array.getElem?_eq_some_iff.1 h3).1).trans h3⟩)
structure MpI (B q g : Nat) (cq cg : Obj) (w00 w0 w : World) : Prop where
  two : w.heap[q]? = some cq
  one : w.heap[g]? = some cg
  below : Below B w00 w
  size : w0.heap.size ≤ w.heap.size
theorem MpI.stays {B q g : Nat} {cq cg : Obj} {w00 w0 w w' : World} (h : MpI B q g cq cg w00 w0 w) (hB : B ≤ w.heap.size) (hb : Below w.heap.size w w') : MpI B q g cq cg w00 w0 w' :=
  ⟨(hb.block _ (Array.getElem?_eq_some_iff.1 h.two).1).trans h.two, (hb.block _ (Array.getElem?_eq_some_iff.1 h.one).1).trans h.one, h.below.trans (hb.mono hB), Nat.le_trans h.size hb.size⟩
set_option maxHeartbeats 8000000 in
theorem mp_region {id : Nat} {Q : Exit → Act → World → Prop} {a0 : Act} {w0 w00 : World} (hs : 49 ≤ a0.tmps.size) (B : Nat) (oP : Option Addr) (nP cP : Nat) (k g off cR nR q : Nat) (U N : List Int) (hU : Byt U) (hN : Byt N) (ord act : Int) (L : List RuleM) (cur : Array Value) (t : TypeId) (fr : Nat × Nat)
    (h5 : a0.eval (.tmp 5) = .slice oP nP cP) (h0 : a0.eval (.tmp 0) = .slice (some ⟨g, off, none⟩) nR cR) (h6 : a0.eval (.tmp 6) = .int .i64 (k : Int)) (h7 : a0.eval (.tmp 7) = .pointer (some ⟨q, 0, none⟩)) (hk : k < nR)
    (hq : w0.heap[q]? = some (.cells (cv U N) 42 (0, 0))) (hg : w0.heap[g]? = some (.cells cur t fr)) (hc0 : cur[off + k * 28]? = some (.int .i64 ord)) (hc27 : cur[off + k * 28 + 27]? = some (.int .i64 act))
    (hown : w0.ownsRow B 44 28 (.slice oP nP cP) L.length (gcells ruleV L)) (hL : L.length ≤ 100000) (hB : B ≤ w0.heap.size) (h00 : Below B w00 w0)
    (hneq : (Value.slice oP nP cP).ownBlock ≠ some q) (hne : (Value.slice oP nP cP).ownBlock ≠ some g)
    (hK : ∀ y w' v', MpI B q g (.cells (cv U N) 42 (0, 0)) (.cells cur t fr) w00 w0 w' → w'.ownsRow B 44 28 v' (L ++ [(mpR ord U N act)]).length (gcells ruleV (L ++ [(mpR ord U N act)])) → Q .normal ((putsD mp_D0 y a0).put (some 5) v') w') : (Code.region id mp_ops.toArray true).wp Try.prog Q a0 w0 := by
  have hDs : ∀ d ∈ mp_D, d < a0.tmps.size := fun d hd => by
    have : d < 49 := by
      revert hd; unfold mp_D; intro hd
      simp only [List.mem_cons, List.not_mem_nil, or_false] at hd
      omega
    omega
  have hUl := hU.1
  have hNl := hN.1
  have K0 : MpI B q g (.cells (cv U N) 42 (0, 0)) (.cells cur t fr) w00 w0 w0 := ⟨hq, hg, h00, Nat.le_refl _⟩
  have HRK : okR8 (mpR ord U N act) := ⟨hU, hN⟩
  have hsz := ruleV_size HRK
  have frm : ∀ (b : Bool) (w : World), (if b then MpI B q g (.cells (cv U N) 42 (0, 0)) (.cells cur t fr) w00 w0 w else Below w0.heap.size w0 w) → MpI B q g (.cells (cv U N) 42 (0, 0)) (.cells cur t fr) w00 w0 w := fun b w h => by
    cases b with
    | true => exact h
    | false => exact K0.stays hB h
  refine region_mid2 15 14 (mp_V w0.heap.size B (.slice oP nP cP) (.slice (some ⟨g, off, none⟩) nR cR) k g off ord act U N L) (fun b w => if b then MpI B q g (.cells (cv U N) 42 (0, 0)) (.cells cur t fr) w00 w0 w else Below w0.heap.size w0 w) mp_D (by kernel_rfl) (by decide) rfl (by kernel_rfl) mp_D0 (by kernel_rfl) (by decide) hDs (by kernel_rfl) (by kernel_rfl) (mp_mono _ _ _ _ _ _ _ _ _ _ _ _) ?_ ?_ ?_ ?_ ?_
  · intro b w w' h hb
    cases b with
    | true => exact MpI.stays h (Nat.le_trans hB (MpI.size h)) hb
    | false => exact Below.trans h (hb.mono (Below.size h))
  · exact (Below.refl _ _).drew
  · intro i o ho hi him b a w h
    have kw := frm b w h.wld
    have e5 : a.eval (.tmp 5) = .slice oP nP cP := (h.other 5 (by decide)).trans h5
    have e0 : a.eval (.tmp 0) = .slice (some ⟨g, off, none⟩) nR cR := (h.other 0 (by decide)).trans h0
    have e6 : a.eval (.tmp 6) = .int .i64 (k : Int) := (h.other 6 (by decide)).trans h6
    have e7 : a.eval (.tmp 7) = .pointer (some ⟨q, 0, none⟩) := (h.other 7 (by decide)).trans h7
    have i1 : (Instr.indexAt 27 (.slice (some ⟨g, off, none⟩) nR cR) (.int .i64 (k : Int))).run Try.prog w = .ok (.pointer (some ⟨g, off + k * 28, none⟩)) w := by
      simp [go_sem, Try.underlying27]; omega
    have f0 : (Instr.fieldAt 44 (.pointer (some ⟨g, off + k * 28, none⟩)) 0).run Try.prog w = .ok (.pointer (some ⟨g, off + k * 28, none⟩)) w := by simp [go_sem]
    have f2 : (Instr.fieldAt 44 (.pointer (some ⟨g, off + k * 28, none⟩)) 2).run Try.prog w = .ok (.pointer (some ⟨g, off + k * 28 + 27, none⟩)) w := by simp [go_sem]
    have c0 : w.cell? ⟨g, off + k * 28, none⟩ = some (.int .i64 ord) := by rw [cell_of_row _ _ _ _ _ _ kw.one]; exact hc0
    have c27 : w.cell? ⟨g, off + k * 28 + 27, none⟩ = some (.int .i64 act) := by rw [cell_of_row _ _ _ _ _ _ kw.one]; exact hc27
    rcases (show i = 0 ∨ i = 1 ∨ i = 2 ∨ i = 3 ∨ i = 4 ∨ i = 5 ∨ i = 6 ∨ i = 7 ∨ i = 8 ∨ i = 9 ∨ i = 10 ∨ i = 11 ∨ i = 12 ∨ i = 13 by omega) with rfl | rfl | rfl | rfl | rfl | rfl | rfl | rfl | rfl | rfl | rfl | rfl | rfl | rfl
    · obtain rfl := Option.some.inj ho
      exact iv_val rfl rfl _ (run_moveOp rfl _ _ _ e5) rfl
    · obtain rfl := Option.some.inj ho
      exact iv_val rfl rfl _ (run_moveOp rfl _ _ _ e0) rfl
    · obtain rfl := Option.some.inj ho
      exact iv_val rfl rfl _ (run_moveOp rfl _ _ _ e6) rfl
    · obtain rfl := Option.some.inj ho
      have g1 : a.eval (.tmp 34) = .slice (some ⟨g, off, none⟩) nR cR := h.has ⟨1, .data⟩ (by simp) rfl _ 34 rfl rfl
      have g2 : a.eval (.tmp 35) = .int .i64 (k : Int) := h.has ⟨2, .data⟩ (by simp) rfl _ 35 rfl rfl
      exact iv_val rfl rfl _ (run_index12 rfl _ _ _ _ _ g1 g2 i1) rfl
    · obtain rfl := Option.some.inj ho
      have g1 : a.eval (.tmp 36) = .pointer (some ⟨g, off + k * 28, none⟩) := h.has ⟨3, .data⟩ (by simp) rfl _ 36 rfl rfl
      exact iv_val rfl rfl _ (run_fieldOp rfl _ _ _ ((congrArg (fun y => (Instr.fieldAt 44 y 0).run Try.prog w) g1).trans f0)) rfl
    · obtain rfl := Option.some.inj ho
      have g1 : a.eval (.tmp 37) = .pointer (some ⟨g, off + k * 28, none⟩) := h.has ⟨4, .data⟩ (by simp) rfl _ 37 rfl rfl
      exact iv_val rfl rfl _ (run_loadOp rfl _ _ _ _ g1 (load_int12 _ _ _ c0)) rfl
    · obtain rfl := Option.some.inj ho
      exact iv_val rfl rfl _ (run_loadC _ _ _ _ rfl q e7 U N kw.two hUl hNl) rfl
    · obtain rfl := Option.some.inj ho
      exact iv_val rfl rfl _ (run_moveOp rfl _ _ _ e0) rfl
    · obtain rfl := Option.some.inj ho
      exact iv_val rfl rfl _ (run_moveOp rfl _ _ _ e6) rfl
    · obtain rfl := Option.some.inj ho
      have g1 : a.eval (.tmp 40) = .slice (some ⟨g, off, none⟩) nR cR := h.has ⟨7, .data⟩ (by simp) rfl _ 40 rfl rfl
      have g2 : a.eval (.tmp 41) = .int .i64 (k : Int) := h.has ⟨8, .data⟩ (by simp) rfl _ 41 rfl rfl
      exact iv_val rfl rfl _ (run_index12 rfl _ _ _ _ _ g1 g2 i1) rfl
    · obtain rfl := Option.some.inj ho
      have g1 : a.eval (.tmp 42) = .pointer (some ⟨g, off + k * 28, none⟩) := h.has ⟨9, .data⟩ (by simp) rfl _ 42 rfl rfl
      exact iv_val rfl rfl _ (run_fieldOp rfl _ _ _ ((congrArg (fun y => (Instr.fieldAt 44 y 2).run Try.prog w) g1).trans f2)) rfl
    · obtain rfl := Option.some.inj ho
      have g1 : a.eval (.tmp 43) = .pointer (some ⟨g, off + k * 28 + 27, none⟩) := h.has ⟨10, .data⟩ (by simp) rfl _ 43 rfl rfl
      exact iv_val rfl rfl _ (run_loadOp rfl _ _ _ _ g1 (load_int12 _ _ _ c27)) rfl
    · obtain rfl := Option.some.inj ho
      have g1 : a.eval (.tmp 38) = .int .i64 ord := h.has ⟨5, .data⟩ (by simp) rfl _ 38 rfl rfl
      have g2 : a.eval (.tmp 39) = .agg (cv U N) := h.has ⟨6, .data⟩ (by simp) rfl _ 39 rfl rfl
      have g3 : a.eval (.tmp 44) = .int .i64 act := h.has ⟨11, .data⟩ (by simp) rfl _ 44 rfl rfl
      refine iv_list rfl ?_
      refine wl_buildR rfl _ _ _ rfl ord U N act hUl hNl g1 g2 g3 ?_
      exact ⟨_, rfl, Below.refl _ _, fun _ _ => rfl⟩
    · obtain rfl := Option.some.inj ho
      have g1 : a.eval (.tmp 45) = .agg (ruleV (mpR ord U N act)) := h.has ⟨12, .data⟩ (by simp) rfl _ 45 rfl rfl
      refine iv_list rfl ?_
      refine wl_buildE (E := RuleE) RuleOk rfl _ rfl (ruleV (mpR ord U N act)) hsz g1 ?_
      exact ⟨_, rfl, (Below.refl _ _).alloc (Nat.le_refl _) _, fun _ _ => ⟨_, rfl, kw.size, heap_new _ _ _ rfl⟩⟩
  · intro o ho a w h
    obtain rfl := Option.some.inj ho
    have hb : Below w0.heap.size w0 w := h.wld
    have kw := frm false w hb
    have g1 : a.eval (.tmp 33) = .slice oP nP cP := h.has ⟨0, .data⟩ (by simp) rfl _ 33 rfl rfl
    obtain ⟨gn, g2, g3, g4⟩ : ∃ gn, a.eval (.tmp 46) = .slice (some ⟨gn, 0, none⟩) 1 1 ∧ w0.heap.size ≤ gn ∧ w.heap[gn]? = some (.cells (ruleV (mpR ord U N act)) 44 (0, 0)) := h.has ⟨13, .data⟩ (by simp) rfl _ 46 rfl rfl
    have hown' := gown_below hown hb
    refine wpOp_of_list rfl ?_
    refine wl_appendE (E := RuleE) RuleOk ruleV rfl _ _ rfl B (.slice oP nP cP) L (mpR ord U N act) (rule_fits HRK) g1 hown' gn 1 g2 g4 (by omega) (Nat.le_trans hB hb.size) ?_
    intro v' w3 hown3 hgr3 _
    have bg : Below B w w3 := (Below.refl _ _).grown hgr3 (Nat.le_trans hB hb.size) fun k hk => (hown'.lt k hk).1
    have k3 : MpI B q g (.cells (cv U N) 42 (0, 0)) (.cells cur t fr) w00 w0 w3 := ⟨(hgr3.block q (Array.getElem?_eq_some_iff.1 kw.two).1 (fun hq => hneq hq.symm)).trans kw.two, (hgr3.block g (Array.getElem?_eq_some_iff.1 kw.one).1 (fun hq => hne hq.symm)).trans kw.one, kw.below.trans bg, Nat.le_trans kw.size bg.size⟩
    refine ⟨v', rfl, k3, ?_, fun _ _ => hown3⟩
    intro i z hi
    unfold mp_V
    split <;> intro hz <;> first
      | exact hz
      | exact absurd rfl hi
      | (obtain ⟨gm, q1, q2, q3⟩ := hz
         exact ⟨gm, q1, q2, (hgr3.block gm (Array.getElem?_eq_some_iff.1 q3).1 (fun hq => by have := (hown.lt gm hq.symm).2; omega)).trans q3⟩)
  · intro a w hI hsz2 hdf hot hh
    have g1 : w.ownsRow B 44 28 (a.eval (.tmp 47)) (L ++ [(mpR ord U N act)]).length (gcells ruleV (L ++ [(mpR ord U N act)])) := hh 14 _ 47 (by decide) rfl rfl
    obtain ⟨v, hv⟩ : ∃ v, a.eval (.tmp 47) = v := ⟨_, rfl⟩
    rw [hv] at g1
    refine wpOp_assign rfl rfl _ rfl v hv (some 5) rfl ?_
    show Q .normal (a.put (some 5) v) w
    rw [puts_form hsz2 hdf hot (fun d hd => hDs d (by revert hd; unfold mp_D mp_D0; intro hd; simp only [List.mem_cons, List.not_mem_nil, or_false] at hd ⊢; omega))]
    exact hK _ w v hI g1
end Go.Proofs.Ytpbinkmeldkehaa
namespace Go.Proofs.Ytpbinkmeldkehaa
open Go Go.Lib Go.RowKit Ieee
set_option maxRecDepth 20000

set_option maxHeartbeats 16000000 in
set_option maxRecDepth 100000 in
theorem rmeeting_any (l : List RuleM) (hl0 : ∀ r ∈ l, okR8 r) (hn1 : l.length ≤ 100000) (vl : Value) (V M : List Int) (hV : Byt V) (hM : Byt M) (w : World) (hl : RulesAt w vl l) :
    Calls Try.prog 67 #[vl, .agg (cv V M)] w fun e w' => (∃ v, e = .returned v ∧ w'.ownsRow w.heap.size 44 28 v (meetL V M l).length (gcells ruleV (meetL V M l))) ∧ Below w.heap.size w w' := by
  have ME : Hid (∀ (r : RuleM) W, okR8 r → Calls Try.prog 85 #[.agg (cv r.cube.1 r.cube.2), .agg (cv V M)] W fun e w' => e = .returned (.bool (meets r.cube.1 r.cube.2 V M)) ∧ Below W.heap.size W w') := fun r W hr => rmeets_any r.cube.1 r.cube.2 V M hr.1 hr.2 hV hM W
  have MT : Hid (∀ (r : RuleM) W, okR8 r → meets r.cube.1 r.cube.2 V M = true → Calls Try.prog 86 #[.agg (cv r.cube.1 r.cube.2), .agg (cv V M)] W fun e w' => e = .returned (.tuple #[.agg (cv (meetV r.cube.1 r.cube.2 V M) (meetM r.cube.2 M)), .bool true]) ∧ Below W.heap.size W w') := fun r W hr h => by
    have h2 := rmeet_any r.cube.1 r.cube.2 V M hr.1 hr.2 hV hM W
    rw [meetR_yes _ _ _ _ h] at h2
    exact h2
  have hVl := hV.1
  have hMl := hM.1
  obtain ⟨o, cap, rfl, hc1, hc2⟩ := GSl.slice hl
  obtain ⟨n, hn0⟩ : ∃ n, n = l.length := ⟨_, rfl⟩
  have HN : Hid (n = l.length) := hn0
  rw [← hn0] at hl hc1 hn1 ⊢
  have HL : Hid (RulesAt w (.slice o n cap) l) := hl
  have HOK : Hid (∀ r ∈ l, okR8 r) := hl0
  unfold maxLen at hc2
  obtain ⟨b1, hb1⟩ : ∃ b1, b1 = w.heap.size + 1 := ⟨_, rfl⟩
  have hsa : (w.alloc (.cells (cv V M) 42)).heap.size = b1 := by rw [hb1]; simp
  have O0 : Hid (((w.alloc (.cells (cv V M) 42)).alloc (.cells #[] 44)).ownsRow b1 44 28 (.slice (some ⟨w.heap.size + 1, 0, none⟩) 0 0) 0 []) := by
    have h := own0R (w.alloc (.cells (cv V M) 42)) 44 28
    rw [hsa, hb1] at h
    rw [hb1]
    exact h
  clear hl hn0 hl0 hV hM
  go_enter Try.func67, Try.ntmps67
  go_wp2_with (refine wl_build0R (E := RuleE) RuleOk rfl rfl ?_)
  go_loopw [5, 6] (fun v i wr => ∃ (k : Nat), k ≤ n ∧ i = .int .i64 (k : Int) ∧ Hid (wr.ownsRow b1 44 28 v (meetL V M (l.take k)).length (gcells ruleV (meetL V M (l.take k)))) ∧ Hid (wr.heap[w.heap.size]? = some (.cells (cv V M) 42 (0, 0))) ∧ Hid (Below w.heap.size w wr)) (fun _ i _ => n - (intOf i).toNat)
  case atStart => exact ⟨0, Nat.zero_le _, rfl, O0, heap_past _ _ _ _ (heap_new _ _ _ rfl), ((Below.refl _ _).alloc (Nat.le_refl _) _).alloc (by simp) _⟩
  case round =>
    obtain ⟨k, hk, rfl, HO, HZ, HB⟩ := hrel
    by_cases hlt : k < n
    · have hlt' : (k : Int) < (n : Int) := by omega
      obtain ⟨g, off, cur, ty, fr, r, rfl, hgw, hc, hxk⟩ := HL.out.at k hlt
      have hgl := (Array.getElem?_eq_some_iff.1 hgw).1
      have hr : okR8 r := HOK.out r (List.mem_of_getElem? hxk)
      have HR : Hid (okR8 r) := hr
      have K1 : Hid (wr.heap[g]? = some (.cells cur ty fr)) := (HB.out.block _ hgl).trans hgw
      have H2 : Hid (∀ j, j < 26 → cur[off + k * 28 + 1 + j]? = (cv r.cube.1 r.cube.2)[j]?) := fun j hj => by
        have h3 := hc (1 + j) (by show 1 + j < 28; omega)
        rw [(rule_at hr).2.1 j hj] at h3
        rw [← h3]
        congr 1
        show off + k * 28 + 1 + j = off + k * 28 + (1 + j)
        omega
      have C0 : Hid (cur[off + k * 28]? = some (.int .i64 r.order)) := by
        have h3 := hc 0 (by show 0 < 28; omega)
        rw [(rule_at hr).1] at h3
        exact h3
      have C27 : Hid (cur[off + k * 28 + 27]? = some (.int .i64 r.action)) := by
        have h3 := hc 27 (by show 27 < 28; omega)
        rw [(rule_at hr).2.2] at h3
        exact h3
      have MK : Hid (meetL V M (l.take (k + 1)) = meetL V M (l.take k) ++ (cutR V M r).toList) := meetL_take hxk
      have ML : Hid ((meetL V M (l.take k)).length ≤ 100000) := by
        have h1 := meetL_len V M (l.take k)
        rw [List.length_take] at h1
        exact Nat.le_trans h1 (Nat.le_trans (Nat.min_le_left _ _) (by omega))
      have hrVl := hr.1.1
      have hrMl := hr.2.1
      clear hgw hc hxk hr
      go_wp2_with fail
      have ne1 := Later.ne wr
      refine wp_region_later (by kernel_rfl) (by kernel_rfl) ?_
      repeat go_big_quiet_step (fail)
      refine qlCw rfl _ rfl g (off + k * 28 + 1) rfl cur ty fr r.cube.1 r.cube.2 hrVl hrMl (later_block K1.out) H2.out ?_
      simp only [Act.put, List.setIfInBounds_toArray, List.set_cons_succ, List.set_cons_zero]
      refine qlC rfl _ rfl w.heap.size rfl V M HZ.out hVl hMl ?_
      simp only [Act.put, List.setIfInBounds_toArray, List.set_cons_succ, List.set_cons_zero]
      go_big_quiet_want; go_big_quiet_op
      refine ⟨_, fun u => Calls.later_of (ME.out r u.world HR.out), ?_⟩
      go_big_quiet_on
      repeat go_big_quiet_step (fail)
      refine wpQuiet_nil ?_
      rintro w1 ⟨v5, rfl⟩
      have hb2 := v5.below
      obtain ⟨w1, hw1⟩ : ∃ w1, w1 = v5.world := ⟨_, rfl⟩
      rw [← hw1] at hb2 ⊢
      have B1 : Hid (Below w.heap.size w w1) := HB.out.trans (hb2.mono HB.out.size)
      have Z1 : Hid (w1.heap[w.heap.size]? = some (.cells (cv V M) 42 (0, 0))) := (hb2.block _ (Array.getElem?_eq_some_iff.1 HZ.out).1).trans HZ.out
      have K2 : Hid (w1.heap[g]? = some (.cells cur ty fr)) := (hb2.block _ (Array.getElem?_eq_some_iff.1 K1.out).1).trans K1.out
      have O1 : Hid (w1.ownsRow b1 44 28 u5 (meetL V M (l.take k)).length (gcells ruleV (meetL V M (l.take k)))) := gown_below HO.out hb2
      clear hb2 hw1 v5 ne1 K1 HZ HB HO
      cases hm : meets r.cube.1 r.cube.2 V M with
      | false =>
        have O2 : Hid (w1.ownsRow b1 44 28 u5 (meetL V M (l.take (k + 1))).length (gcells ruleV (meetL V M (l.take (k + 1))))) := by
          have h := O1.out
          have e : meetL V M (l.take (k + 1)) = meetL V M (l.take k) := by rw [MK.out, cutR_no hm]; simp
          show w1.ownsRow _ _ _ _ _ _
          rw [e]
          exact h
        clear hm
        go_wp2_with fail
        go_roundw
        case rel => exact ⟨k + 1, by omega, by go_num, O2, Z1, B1⟩
        case measure => simp [intOf]; omega
      | true =>
        have MC := fun W => MT.out r W HR.out hm
        have ME2 : Hid (meetL V M (l.take (k + 1)) = meetL V M (l.take k) ++ [⟨r.order, (meetV r.cube.1 r.cube.2 V M, meetM r.cube.2 M), r.action⟩]) := by show _ = _; rw [MK.out, cutR_yes hm]; rfl
        have hFV := meetV_byt r.cube.1 r.cube.2 V M
        have hFM := meetM_byt r.cube.2 M
        generalize meetV r.cube.1 r.cube.2 V M = FV at MC ME2 hFV
        generalize meetM r.cube.2 M = FM at MC ME2 hFM
        have MH : Hid (∀ W, Calls Try.prog 86 #[.agg (cv r.cube.1 r.cube.2), .agg (cv V M)] W fun e w' => e = .returned (.tuple #[.agg (cv FV FM), .bool true]) ∧ Below W.heap.size W w') := MC
        have hFVl := hFV.1
        have hFMl := hFM.1
        clear hm MC
        obtain ⟨oP, cP, hu5⟩ := gown_slice O1.out
        go_wp2_with fail
        have ne1 := Later.ne w1
        refine region_cut (fun a a' w' => ∃ gq y23 y24 y25 y26 y27 y28 y29 y30 y31 y32, a' = ((((((((((((a.put (some 7) (.pointer (some ⟨gq, 0, none⟩))).put (some 8) (.bool true)).put (some 23) y23).put (some 24) y24).put (some 25) y25).put (some 26) y26).put (some 27) y27).put (some 28) y28).put (some 29) y29).put (some 30) y30).put (some 31) y31).put (some 32) y32) ∧ w1.heap.size ≤ gq ∧ w'.heap[gq]? = some (.cells (cv FV FM) 42 (0, 0)) ∧ Below w1.heap.size w1 w') ?_ ?_
        · refine region_begin 13 rfl (by kernel_rfl) ?_
          refine region_reads 0 6 7 rfl (by kernel_rfl) (by kernel_rfl) (by kernel_rfl) (by intro d v c a w h; exact absurd h.1 (by simp)) ⟨⟨w1.drew, (Below.refl _ _).drew⟩, rfl⟩ ?_
          simp only [List.drop_zero, List.take_succ_cons, List.take_zero]
          repeat go_big_quiet_step (fail)
          refine qlCw rfl _ rfl g (off + k * 28 + 1) rfl cur ty fr r.cube.1 r.cube.2 hrVl hrMl (later_block K2.out) H2.out ?_
          simp only [Act.put, List.setIfInBounds_toArray, List.set_cons_succ, List.set_cons_zero]
          refine qlC rfl _ rfl w.heap.size rfl V M Z1.out hVl hMl ?_
          simp only [Act.put, List.setIfInBounds_toArray, List.set_cons_succ, List.set_cons_zero]
          refine wpQuiet_nil ?_
          refine wpAnyH_all (rs := [6, 10]) (by kernel_rfl) (by decide) ?_
          intro i hi
          simp only [List.mem_cons, List.not_mem_nil, or_false] at hi
          rcases hi with rfl | rfl
          · refine wpOp_call rfl rfl 86 #[.tmp 28, .tmp 29] (by intro b w; have hf := Try.func86; simp [go_sem]) #[.agg (cv r.cube.1 r.cube.2), .agg (cv V M)] rfl (fun v w' => v = .tuple #[.agg (cv FV FM), .bool true] ∧ Below w1.drew.heap.size w1.drew w') ((MH.out _).mono fun e w' h => ⟨_, h.1, rfl, h.2⟩) (some 30) rfl ?_
            rintro v wz ⟨rfl, hz⟩
            have hy : Below w1.heap.size w1 wz := (Below.refl w1.heap.size w1).drew.trans (hz.mono (Below.refl w1.heap.size w1).drew.size)
            refine ⟨⟨⟨wz, hy⟩, rfl⟩, ?_⟩
            simp only [Act.put, List.setIfInBounds_toArray, List.set_cons_succ, List.set_cons_zero]
            refine region_reads 7 3 3 rfl (by kernel_rfl) (by kernel_rfl) (by kernel_rfl) (by intro d v c a w h; exact absurd h.1 (by simp)) ⟨⟨wz, hy⟩, rfl⟩ ?_
            simp only [List.drop_succ_cons, List.drop_zero, List.take_succ_cons, List.take_zero]
            repeat go_big_quiet_step (fail)
            refine wpQuiet_nil ?_
            refine wpAnyH_all (rs := [10]) (by kernel_rfl) (by decide) ?_
            intro i hi
            obtain rfl := List.mem_singleton.1 hi
            refine wpOp_allocC rfl rfl rfl (some 7) rfl ?_
            have ha : Below w1.heap.size w1 (wz.alloc (.cells zeroC 42)) := hy.alloc hy.size _
            have hag : (wz.alloc (.cells zeroC 42)).heap[wz.heap.size]? = some (.cells zeroC 42 (0, 0)) := heap_new _ _ _ rfl
            refine ⟨⟨⟨_, ha⟩, rfl⟩, ?_⟩
            simp only [Act.put, List.setIfInBounds_toArray, List.set_cons_succ, List.set_cons_zero]
            refine wpAnyH_all (rs := [11]) (by kernel_rfl) (by decide) ?_
            intro i hi
            obtain rfl := List.mem_singleton.1 hi
            have hbl : w1.heap.size ≤ wz.heap.size := hy.size
            refine wpOp_storeC rfl rfl _ _ rfl (wz.heap.size) FV FM rfl rfl _ hag rfl hFVl hFMl none rfl ?_
            refine ⟨⟨⟨_, below_setRow ha hbl _⟩, rfl⟩, ?_⟩
            refine wpAnyH_all (rs := [12]) (by kernel_rfl) (by decide) ?_
            intro i hi
            obtain rfl := List.mem_singleton.1 hi
            refine wpOp_assign rfl rfl _ rfl (.bool true) rfl (some 8) rfl ?_
            refine ⟨⟨⟨_, below_setRow ha hbl _⟩, rfl⟩, ?_⟩
            refine wpAnyH_done (by kernel_rfl) ?_ _
            exact ⟨rfl, wz.heap.size, _, _, _, _, _, _, _, _, _, _, rfl, hbl, setRow_heap _ _ _ _ _ _ hag, below_setRow ha hbl _⟩
          · refine wpOp_allocC rfl rfl rfl (some 7) rfl ?_
            have ha : Below w1.heap.size w1 (w1.drew.alloc (.cells zeroC 42)) := (Below.refl w1.heap.size w1).drew.alloc (Below.refl w1.heap.size w1).drew.size _
            have hag : (w1.drew.alloc (.cells zeroC 42)).heap[w1.drew.heap.size]? = some (.cells zeroC 42 (0, 0)) := heap_new _ _ _ rfl
            refine ⟨⟨⟨_, ha⟩, rfl⟩, ?_⟩
            simp only [Act.put, List.setIfInBounds_toArray, List.set_cons_succ, List.set_cons_zero]
            refine wpAnyH_all (rs := [6]) (by kernel_rfl) (by decide) ?_
            intro i hi
            obtain rfl := List.mem_singleton.1 hi
            refine wpOp_call rfl rfl 86 #[.tmp 28, .tmp 29] (by intro b w; have hf := Try.func86; simp [go_sem]) #[.agg (cv r.cube.1 r.cube.2), .agg (cv V M)] rfl (fun v w' => v = .tuple #[.agg (cv FV FM), .bool true] ∧ Below (w1.drew.alloc (.cells zeroC 42)).heap.size (w1.drew.alloc (.cells zeroC 42)) w') ((MH.out _).mono fun e w' h => ⟨_, h.1, rfl, h.2⟩) (some 30) rfl ?_
            rintro v wz ⟨rfl, hz⟩
            have hy : Below w1.heap.size w1 wz := ha.trans (hz.mono ha.size)
            have hx : wz.heap[w1.drew.heap.size]? = some (.cells zeroC 42 (0, 0)) := (hz.block _ (Array.getElem?_eq_some_iff.1 hag).1).trans hag
            refine ⟨⟨⟨wz, hy⟩, rfl⟩, ?_⟩
            simp only [Act.put, List.setIfInBounds_toArray, List.set_cons_succ, List.set_cons_zero]
            refine region_reads 7 3 2 rfl (by kernel_rfl) (by kernel_rfl) (by kernel_rfl) (by intro d v c a w h; exact absurd h.1 (by simp)) ⟨⟨wz, hy⟩, rfl⟩ ?_
            simp only [List.drop_succ_cons, List.drop_zero, List.take_succ_cons, List.take_zero]
            repeat go_big_quiet_step (fail)
            refine wpQuiet_nil ?_
            refine wpAnyH_all (rs := [11]) (by kernel_rfl) (by decide) ?_
            intro i hi
            obtain rfl := List.mem_singleton.1 hi
            have hbl : w1.heap.size ≤ w1.drew.heap.size := Nat.le_refl _
            refine wpOp_storeC rfl rfl _ _ rfl (w1.drew.heap.size) FV FM rfl rfl _ hx rfl hFVl hFMl none rfl ?_
            refine ⟨⟨⟨_, below_setRow hy hbl _⟩, rfl⟩, ?_⟩
            refine wpAnyH_all (rs := [12]) (by kernel_rfl) (by decide) ?_
            intro i hi
            obtain rfl := List.mem_singleton.1 hi
            refine wpOp_assign rfl rfl _ rfl (.bool true) rfl (some 8) rfl ?_
            refine ⟨⟨⟨_, below_setRow hy hbl _⟩, rfl⟩, ?_⟩
            refine wpAnyH_done (by kernel_rfl) ?_ _
            exact ⟨rfl, w1.drew.heap.size, _, _, _, _, _, _, _, _, _, _, rfl, hbl, setRow_heap _ _ _ _ _ _ hx, below_setRow hy hbl _⟩
        · rintro a' w' ⟨gq, y23, y24, y25, y26, y27, y28, y29, y30, y31, y32, rfl, hgq, hcq, hbq⟩
          simp only [Act.put, List.setIfInBounds_toArray, List.set_cons_succ, List.set_cons_zero]
          have B3 : Hid (Below w.heap.size w w') := B1.out.trans (hbq.mono B1.out.size)
          have O3 := gown_below O1.out hbq
          rw [hu5] at O3
          have K3 := (hbq.block _ (Array.getElem?_eq_some_iff.1 K2.out).1).trans K2.out
          have Z3 := (hbq.block _ (Array.getElem?_eq_some_iff.1 Z1.out).1).trans Z1.out
          have hbs : b1 ≤ w'.heap.size := by
            have h1 := (Array.getElem?_eq_some_iff.1 Z3).1
            omega
          have hne1 : ∀ j, (Value.slice oP (meetL V M (l.take k)).length cP).ownBlock = some j → b1 ≤ j ∧ j < w1.heap.size := fun j hj => by
            have h := O1.out
            rw [hu5] at h
            exact h.lt j hj
          subst hu5
          go_wp2_with fail
          refine mp_region (w00 := w') (by simp) b1 oP _ cP k g off cap n gq FV FM hFV hFM r.order r.action (meetL V M (l.take k)) cur ty fr rfl rfl rfl rfl hlt hcq K3 C0.out C27.out O3 ML.out hbs (Below.refl _ _) (fun h => by have := (hne1 gq h).2; omega) (fun h => by have := (hne1 g h).1; omega) ?_
          intro y w3 v3 hI hO3
          have B4 : Hid (Below w.heap.size w w3) := B3.out.trans (hI.below.mono (by omega))
          have Z4 : Hid (w3.heap[w.heap.size]? = some (.cells (cv V M) 42 (0, 0))) := (hI.below.block _ (by omega)).trans Z3
          have O4 : Hid (w3.ownsRow b1 44 28 v3 (meetL V M (l.take (k + 1))).length (gcells ruleV (meetL V M (l.take (k + 1))))) := by show w3.ownsRow _ _ _ _ _ _; rw [ME2.out]; exact hO3
          simp only [putsD, mp_D0, List.foldl_cons, List.foldl_nil, Act.put, List.setIfInBounds_toArray, List.set_cons_succ, List.set_cons_zero]
          clear hI hO3 K3 Z3 O3 hcq hbq hgq hne1
          go_wp2_with fail
          go_roundw
          case rel => exact ⟨k + 1, by omega, by go_num, O4, Z4, B4⟩
          case measure => simp [intOf]; omega
    · have hlt' : ¬ (k : Int) < (n : Int) := by omega
      have O2 : Hid (wr.ownsRow w.heap.size 44 28 u5 (meetL V M l).length (gcells ruleV (meetL V M l))) := by
        have h := HO.out
        rw [List.take_of_length_le (by have := HN.out; omega)] at h
        exact own_base h (by omega)
      go_wp2_with fail
      go_ret
      exact ⟨⟨_, rfl, O2.out⟩, HB.out⟩
end Go.Proofs.Ytpbinkmeldkehaa
namespace Go.Proofs.Ytpbinkmeldkehaa
open Go Go.Lib Go.RowKit Ieee
set_option maxRecDepth 20000

set_option maxHeartbeats 8000000 in
theorem rclip12_any (l : List RuleM) (hl0 : ∀ r ∈ l, okR8 r) (hn1 : l.length ≤ 100000) (vl : Value) (V M : List Int) (hV : Byt V) (hM : Byt M) (w : World) (hl : RulesAt w vl l) :
    Calls Try.prog 48 #[vl, .agg (cv V M)] w fun e w' => (∃ v, e = .returned v ∧ w'.ownsRow w.heap.size 44 28 v (clipT V M l).length (gcells ruleV (clipT V M l))) ∧ Below w.heap.size w w' := by
  have hVl := hV.1
  have hMl := hM.1
  have C1 : Hid (∀ W, Below w.heap.size w W → Calls Try.prog 67 #[vl, .agg (cv V M)] W fun e w' => (∃ v, e = .returned v ∧ w'.ownsRow W.heap.size 44 28 v (meetL V M l).length (gcells ruleV (meetL V M l))) ∧ Below W.heap.size W w') := fun W hb => rmeeting_any l hl0 hn1 vl V M hV hM W (GSl.below hl hb)
  have C2 : Hid (∀ v W, RulesAt W v (meetL V M l) → Calls Try.prog 66 #[v] W fun e w' => (∃ v, e = .returned v ∧ w'.ownsRow W.heap.size 44 28 v (clipT V M l).length (gcells ruleV (clipT V M l))) ∧ Below W.heap.size W w') := fun v W h => rtrim_any (meetL V M l) meetL_ok (Nat.le_trans (meetL_len V M l) hn1) v W h
  have K0 : Hid ((w.alloc (.cells (cv V M) 42)).heap[w.heap.size]? = some (.cells (cv V M) 42 (0, 0))) := heap_new _ _ _ rfl
  have B0 : Hid (Below w.heap.size w (w.alloc (.cells (cv V M) 42))) := (Below.refl _ _).alloc (Nat.le_refl _) _
  clear hl hl0 hn1 hV hM
  go_enter Try.func48, Try.ntmps48
  go_wp2_with (first | (refine wl_loadCw rfl _ rfl w.heap.size 0 rfl _ _ _ V M hVl hMl K0.out (own_cells _ _) ?_))
  refine (C1.out _ B0.out).mono ?_
  rintro e w1 ⟨⟨v1, rfl, ho1⟩, hb1⟩
  have B1 : Hid (Below w.heap.size w w1) := B0.out.trans (hb1.mono B0.out.size)
  have A1 : Hid (RulesAt w1 v1 (meetL V M l)) := RulesAt.own meetL_ok ho1
  clear hb1 ho1 K0 B0
  go_wp2_with fail
  refine (C2.out _ _ A1.out).mono ?_
  rintro e w2 ⟨⟨v2, rfl, ho2⟩, hb2⟩
  have B2 : Hid (Below w.heap.size w w2) := B1.out.trans (hb2.mono B1.out.size)
  have O2 : Hid (w2.ownsRow w.heap.size 44 28 v2 (clipT V M l).length (gcells ruleV (clipT V M l))) := own_base ho2 B1.out.size
  clear hb2 ho2
  go_wp2_with fail
  go_ret
  exact ⟨⟨_, rfl, O2.out⟩, B2.out⟩
end Go.Proofs.Ytpbinkmeldkehaa
