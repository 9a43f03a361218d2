import Derived.Test.YthddlchkbnmcaaaGreatDoorJ48
import Derived.Test.YthddlchkbnmcaaaGreatDoorJ20
import Derived.Test.YthddlchkbnmcaaaGreatDoorJ45
namespace Go.Proofs.YthddlchkbnmcaaaGreatDoor
open Go Go.RowKit
set_option maxRecDepth 20000

def rx_ops : List Oper := [
  { dst := some 50, op := .move (.tmp 7), type := 24, pos := "ref.go:84", after := #[], guard := none },
  { dst := some 51, op := .move (.tmp 7), type := 24, pos := "ref.go:84", after := #[], guard := none },
  { dst := some 52, op := .call { callee := .builtin .len, args := #[.tmp 51], argTypes := #[24] }, type := 3, pos := "ref.go:84", after := #[{ on := 1, ground := .data }], guard := none },
  { dst := some 53, op := .move (.tmp 9), type := 49, pos := "ref.go:84", after := #[], guard := none },
  { dst := some 54, op := .move (.tmp 10), type := 3, pos := "ref.go:84", after := #[], guard := none },
  { dst := some 55, op := .indexAddr 49 (.tmp 53) (.tmp 54), type := 0, pos := "ref.go:84", after := #[{ on := 3, ground := .data }, { on := 4, ground := .data }], guard := none },
  { dst := some 56, op := .load 37 (.tmp 55), type := 37, pos := "ref.go:84", after := #[{ on := 5, ground := .data }], guard := none },
  { dst := some 57, op := .move (.tmp 6), type := 22, pos := "ref.go:84", after := #[], guard := none },
  { dst := some 58, op := .move (.tmp 8), type := 3, pos := "ref.go:84", after := #[], guard := none },
  { dst := some 59, op := .indexAddr 22 (.tmp 57) (.tmp 58), type := 0, pos := "ref.go:84", after := #[{ on := 7, ground := .data }, { on := 8, ground := .data }], guard := none },
  { dst := some 60, op := .fieldAddr 35 (.tmp 59) 11, type := 0, pos := "ref.go:84", after := #[{ on := 9, ground := .data }], guard := none },
  { dst := some 61, op := .load 3 (.tmp 60), type := 3, pos := "ref.go:84", after := #[{ on := 10, ground := .data }], guard := none },
  { dst := some 62, op := .build 39 #[(0, .tmp 52), (1, .tmp 56), (2, .tmp 61)], type := 39, pos := "ref.go:84", after := #[{ on := 2, ground := .data }, { on := 6, ground := .data }, { on := 11, ground := .data }], guard := none },
  { dst := some 63, op := .buildSlice 24 1 #[(0, .tmp 62)], type := 24, pos := "ref.go:84", after := #[{ on := 12, ground := .data }], guard := none },
  { dst := some 64, op := .call { callee := .builtin .append, args := #[.tmp 50, .tmp 63], argTypes := #[24, 24] }, type := 24, pos := "ref.go:84", after := #[{ on := 0, ground := .data }, { on := 13, ground := .data }], guard := none },
  { dst := some 7, op := .assign (.tmp 64), type := 24, pos := "ref.go:84", after := #[{ on := 14, ground := .data }, { on := 14, ground := .chain }, { on := 0, ground := .phase }, { on := 1, ground := .phase }, { on := 2, ground := .phase }, { on := 3, ground := .phase }, { on := 4, ground := .phase }, { on := 5, ground := .phase }, { on := 6, ground := .phase }, { on := 7, ground := .phase }, { on := 8, ground := .phase }, { on := 9, ground := .phase }, { on := 10, ground := .phase }, { on := 11, ground := .phase }, { on := 12, ground := .phase }, { on := 13, ground := .phase }, { on := 14, ground := .phase }], guard := none }]
def rx_D : List Nat := [50, 51, 52, 53, 54, 55, 56, 57, 58, 59, 60, 61, 62, 63, 64, 7]
def rx_D0 : List Nat := [50, 51, 52, 53, 54, 55, 56, 57, 58, 59, 60, 61, 62, 63, 64]
theorem run_indexOp {o : Oper} {t : Nat} {x y : Operand} (ho : o.op = .indexAddr t x y) (a : Act) (W : World) (u z v : Value) (hu : a.eval x = u) (hz : a.eval y = z) (h : (Instr.indexAt t u z).run Tryz.prog W = .ok v W) : (execOp a.eval o).run Tryz.prog W = .ok (.value v) W := by
  unfold execOp
  simp only [ho, Sem.run_bind, hu, hz, h, Result.andThen_ok, Sem.run_pure]
theorem run_lenR {o : Oper} {x : Operand} (ho : o.op = .call { callee := .builtin .len, args := #[x], argTypes := #[24] }) (a : Act) (W : World) (b : Option Addr) (n c : Nat) (hx : a.eval x = .slice b n c) : (execOp a.eval o).run Tryz.prog W = .ok (.value (.int .i64 (n : Int))) W := by
  have hu := Tryz.underlying24
  unfold execOp
  have hl : (Builtin.len_ #[24] o.type #[.slice b n c]).run Tryz.prog W = .ok (.int .i64 (n : Int)) W := by simp [go_sem, hu]
  simp only [ho, resolve, invoke, List.map_toArray, List.map_cons, List.map_nil, hx]
  show ((Builtin.len_ #[24] o.type #[.slice b n c] >>= fun v => pure (Next.value v)).run Tryz.prog W) = _
  simp only [Sem.run_bind, hl, Result.andThen_ok, Sem.run_pure]
abbrev rxR (nP : Nat) (U N : List Int) (act : Int) : RuleM := { order := (nP : Int), cube := (U, N), action := act }
def rx_V (H B : Nat) (vv vc vR : Value) (nP j k : Nat) (g2 o2 g of : Nat) (U N : List Int) (act : Int) (L : List RuleM) (i : Nat) (v : Value) (w : World) : Prop :=
  match i with
  | 0 => v = vv
  | 1 => v = vv
  | 2 => v = .int .i64 (nP : Int)
  | 3 => v = vc
  | 4 => v = .int .i64 (j : Int)
  | 5 => v = .pointer (some ⟨g2, o2 + j * 26, none⟩)
  | 6 => v = .agg (cv U N)
  | 7 => v = vR
  | 8 => v = .int .i64 (k : Int)
  | 9 => v = .pointer (some ⟨g, of + k * 12, none⟩)
  | 10 => v = .pointer (some ⟨g, of + k * 12 + 11, none⟩)
  | 11 => v = .int .i64 act
  | 12 => v = .agg (ruleV (rxR nP U N act))
  | 13 => ∃ gn, v = .slice (some ⟨gn, 0, none⟩) 1 1 ∧ H ≤ gn ∧ w.heap[gn]? = some (.cells (ruleV (rxR nP U N act)) 39 (0, 0))
  | 14 => w.ownsRow B 39 28 v (L ++ [(rxR nP U N act)]).length (gcells ruleV (L ++ [(rxR nP U N act)]))
  | _ => True
theorem rx_mono (H B : Nat) (vv vc vR : Value) (nP j k : Nat) (g2 o2 g of : Nat) (U N : List Int) (act : Int) (L : List RuleM) : ∀ i v w w', rx_V H B vv vc vR nP j k g2 o2 g of U N act L i v w → Below w.heap.size w w' → rx_V H B vv vc vR nP j k g2 o2 g of U N act L i v w' := by
  intro i v w w' h hb
  revert h
  unfold rx_V
  split <;> intro h <;> first
    | exact h
    | exact gown_below h hb
    | (obtain ⟨gn, h1, h2, h3⟩ := h
       exact ⟨gn, h1, h2, (hb.block gn (Array.getElem?_eq_some_iff.1 h3).1).trans h3⟩)
structure RxI (B g2 g : Nat) (c2 c : Obj) (w00 w0 w : World) : Prop where
  two : w.heap[g2]? = some c2
  one : w.heap[g]? = some c
  below : Below B w00 w
  keep : ∀ (e : TypeId) (s : Nat) (u : Value) (n : Nat) (ys : List Value), e ≠ 39 → w0.ownsRow B e s u n ys → w.ownsRow B e s u n ys
  size : w0.heap.size ≤ w.heap.size
theorem RxI.stays {B g2 g : Nat} {c2 c : Obj} {w00 w0 w w' : World} (h : RxI B g2 g c2 c w00 w0 w) (hB : B ≤ w.heap.size) (hb : Below w.heap.size w w') : RxI B g2 g c2 c w00 w0 w' :=
  ⟨(hb.block _ (Array.getElem?_eq_some_iff.1 h.two).1).trans h.two, (hb.block _ (Array.getElem?_eq_some_iff.1 h.one).1).trans h.one, h.below.trans (hb.mono hB), fun e s u n ys h1 h2 => gown_below (h.keep e s u n ys h1 h2) hb, Nat.le_trans h.size hb.size⟩

set_option maxHeartbeats 8000000 in
theorem rx_region {id : Nat} {Q : Exit → Act → World → Prop} {a0 : Act} {w0 w00 : World} (hs : 66 ≤ a0.tmps.size) (B : Nat) (oP : Option Addr) (cP : Nat) (nP j k : Nat) (g2 o2 cc nc g of cR nR : Nat) (U N : List Int) (hU : Byt U) (hN : Byt N) (act : Int) (L : List RuleM) (cur2 cur : Array Value) (t2 t : TypeId) (fr2 fr : Nat × Nat)
    (h7 : a0.eval (.tmp 7) = .slice oP nP cP) (h9 : a0.eval (.tmp 9) = .slice (some ⟨g2, o2, none⟩) nc cc) (h10 : a0.eval (.tmp 10) = .int .i64 (j : Int)) (h6 : a0.eval (.tmp 6) = .slice (some ⟨g, of, none⟩) nR cR) (h8 : a0.eval (.tmp 8) = .int .i64 (k : Int))
    (hj : j < nc) (hk : k < nR)
    (hg2 : w0.heap[g2]? = some (.cells cur2 t2 fr2)) (hc2 : ∀ q, q < 26 → cur2[o2 + j * 26 + q]? = (cv U N)[q]?) (hg : w0.heap[g]? = some (.cells cur t fr)) (hc : cur[of + k * 12 + 11]? = some (.int .i64 act))
    (hown : w0.ownsRow B 39 28 (.slice oP nP cP) L.length (gcells ruleV L)) (hnP : nP = L.length) (hL : L.length ≤ 100000) (hB : B ≤ w0.heap.size) (h00 : Below B w00 w0)
    (hne2 : (Value.slice oP nP cP).ownBlock ≠ some g2) (hne : (Value.slice oP nP cP).ownBlock ≠ some g)
    (hK : ∀ y w' v', RxI B g2 g (.cells cur2 t2 fr2) (.cells cur t fr) w00 w0 w' → w'.ownsRow B 39 28 v' (L ++ [(rxR nP U N act)]).length (gcells ruleV (L ++ [(rxR nP U N act)])) → Q .normal ((putsD rx_D0 y a0).put (some 7) v') w') : (Code.region id rx_ops.toArray true).wp Tryz.prog Q a0 w0 := by
  have hDs : ∀ d ∈ rx_D, d < a0.tmps.size := fun d hd => by
    have : d < 66 := by
      revert hd; unfold rx_D; intro hd
      simp only [List.mem_cons, List.not_mem_nil, or_false] at hd
      omega
    omega
  have hUl := hU.1
  have hNl := hN.1
  have K0 : RxI B g2 g (.cells cur2 t2 fr2) (.cells cur t fr) w00 w0 w0 := ⟨hg2, hg, h00, fun _ _ _ _ _ _ h => h, Nat.le_refl _⟩
  have HRK : okR8 (rxR nP U N act) := ⟨hU, hN⟩
  have hsz := ruleV_size HRK
  have frm : ∀ (b : Bool) (w : World), (if b then RxI B g2 g (.cells cur2 t2 fr2) (.cells cur t fr) w00 w0 w else Below w0.heap.size w0 w) → RxI B g2 g (.cells cur2 t2 fr2) (.cells cur t fr) w00 w0 w := fun b w h => by
    cases b with
    | true => exact h
    | false => exact K0.stays hB h
  refine region_mid2 15 14 (rx_V w0.heap.size B (.slice oP nP cP) (.slice (some ⟨g2, o2, none⟩) nc cc) (.slice (some ⟨g, of, none⟩) nR cR) nP j k g2 o2 g of U N act L) (fun b w => if b then RxI B g2 g (.cells cur2 t2 fr2) (.cells cur t fr) w00 w0 w else Below w0.heap.size w0 w) rx_D (by kernel_rfl) (by decide) rfl (by kernel_rfl) rx_D0 (by kernel_rfl) (by decide) hDs (by kernel_rfl) (by kernel_rfl) (rx_mono _ _ _ _ _ _ _ _ _ _ _ _ _ _ _ _) ?_ ?_ ?_ ?_ ?_
  · intro b w w' h hb
    cases b with
    | true => exact RxI.stays h (Nat.le_trans hB (RxI.size h)) hb
    | false => exact Below.trans h (hb.mono (Below.size h))
  · exact (Below.refl _ _).drew
  · intro i o ho hi him b a w h
    have kw := frm b w h.wld
    have E7 : a.eval (.tmp 7) = .slice oP nP cP := (h.other 7 (by decide)).trans h7
    have e6 : a.eval (.tmp 6) = .slice (some ⟨g, of, none⟩) nR cR := (h.other 6 (by decide)).trans h6
    have e8 : a.eval (.tmp 8) = .int .i64 (k : Int) := (h.other 8 (by decide)).trans h8
    have e9 : a.eval (.tmp 9) = .slice (some ⟨g2, o2, none⟩) nc cc := (h.other 9 (by decide)).trans h9
    have e10 : a.eval (.tmp 10) = .int .i64 (j : Int) := (h.other 10 (by decide)).trans h10
    have i2 : (Instr.indexAt 49 (.slice (some ⟨g2, o2, none⟩) nc cc) (.int .i64 (j : Int))).run Tryz.prog w = .ok (.pointer (some ⟨g2, o2 + j * 26, none⟩)) w := by
      simp [go_sem, Tryz.underlying49]; omega
    have i1 : (Instr.indexAt 22 (.slice (some ⟨g, of, none⟩) nR cR) (.int .i64 (k : Int))).run Tryz.prog w = .ok (.pointer (some ⟨g, of + k * 12, none⟩)) w := by
      simp [go_sem, Tryz.underlying22]; omega
    have ff : (Instr.fieldAt 35 (.pointer (some ⟨g, of + k * 12, none⟩)) 11).run Tryz.prog w = .ok (.pointer (some ⟨g, of + k * 12 + 11, none⟩)) w := by simp [go_sem]
    have c11 : w.cell? ⟨g, of + k * 12 + 11, none⟩ = some (.int .i64 act) := by rw [cell_of_row _ _ _ _ _ _ kw.one]; exact hc
    rcases (show i = 0 ∨ i = 1 ∨ i = 2 ∨ i = 3 ∨ i = 4 ∨ i = 5 ∨ i = 6 ∨ i = 7 ∨ i = 8 ∨ i = 9 ∨ i = 10 ∨ i = 11 ∨ i = 12 ∨ i = 13 by omega) with rfl | rfl | rfl | rfl | rfl | rfl | rfl | rfl | rfl | rfl | rfl | rfl | rfl | rfl
    · obtain rfl := Option.some.inj ho
      exact iv_val rfl rfl _ (run_moveOp rfl _ _ _ E7) rfl
    · obtain rfl := Option.some.inj ho
      exact iv_val rfl rfl _ (run_moveOp rfl _ _ _ E7) rfl
    · obtain rfl := Option.some.inj ho
      have f1 : a.eval (.tmp 51) = .slice oP nP cP := h.has ⟨1, .data⟩ (by simp) rfl _ 51 rfl rfl
      exact iv_val rfl rfl _ (run_lenR rfl _ _ _ _ _ f1) rfl
    · obtain rfl := Option.some.inj ho
      exact iv_val rfl rfl _ (run_moveOp rfl _ _ _ e9) rfl
    · obtain rfl := Option.some.inj ho
      exact iv_val rfl rfl _ (run_moveOp rfl _ _ _ e10) rfl
    · obtain rfl := Option.some.inj ho
      have f1 : a.eval (.tmp 53) = .slice (some ⟨g2, o2, none⟩) nc cc := h.has ⟨3, .data⟩ (by simp) rfl _ 53 rfl rfl
      have f2 : a.eval (.tmp 54) = .int .i64 (j : Int) := h.has ⟨4, .data⟩ (by simp) rfl _ 54 rfl rfl
      exact iv_val rfl rfl _ (run_indexOp rfl _ _ _ _ _ f1 f2 i2) rfl
    · obtain rfl := Option.some.inj ho
      have f1 : a.eval (.tmp 55) = .pointer (some ⟨g2, o2 + j * 26, none⟩) := h.has ⟨5, .data⟩ (by simp) rfl _ 55 rfl rfl
      refine iv_list rfl ?_
      refine wl_loadE (E := CubE) CubOk rfl _ rfl g2 (o2 + j * 26) f1 cur2 t2 fr2 (cv U N) (cv_size _ _ hUl hNl) kw.two hc2 ?_
      exact ⟨_, rfl, Below.refl _ _, fun _ _ => rfl⟩
    · obtain rfl := Option.some.inj ho
      exact iv_val rfl rfl _ (run_moveOp rfl _ _ _ e6) rfl
    · obtain rfl := Option.some.inj ho
      exact iv_val rfl rfl _ (run_moveOp rfl _ _ _ e8) rfl
    · obtain rfl := Option.some.inj ho
      have f1 : a.eval (.tmp 57) = .slice (some ⟨g, of, none⟩) nR cR := h.has ⟨7, .data⟩ (by simp) rfl _ 57 rfl rfl
      have f2 : a.eval (.tmp 58) = .int .i64 (k : Int) := h.has ⟨8, .data⟩ (by simp) rfl _ 58 rfl rfl
      exact iv_val rfl rfl _ (run_indexOp rfl _ _ _ _ _ f1 f2 i1) rfl
    · obtain rfl := Option.some.inj ho
      have f1 : a.eval (.tmp 59) = .pointer (some ⟨g, of + k * 12, none⟩) := h.has ⟨9, .data⟩ (by simp) rfl _ 59 rfl rfl
      exact iv_val rfl rfl _ (run_fieldOp rfl _ _ _ ((congrArg (fun y => (Instr.fieldAt 35 y 11).run Tryz.prog w) f1).trans ff)) rfl
    · obtain rfl := Option.some.inj ho
      have f1 : a.eval (.tmp 60) = .pointer (some ⟨g, of + k * 12 + 11, none⟩) := h.has ⟨10, .data⟩ (by simp) rfl _ 60 rfl rfl
      exact iv_val rfl rfl _ (run_loadOp rfl _ _ _ _ f1 (load_int _ _ _ c11)) rfl
    · obtain rfl := Option.some.inj ho
      have f1 : a.eval (.tmp 52) = .int .i64 (nP : Int) := h.has ⟨2, .data⟩ (by simp) rfl _ 52 rfl rfl
      have f2 : a.eval (.tmp 56) = .agg (cv U N) := h.has ⟨6, .data⟩ (by simp) rfl _ 56 rfl rfl
      have f3 : a.eval (.tmp 61) = .int .i64 act := h.has ⟨11, .data⟩ (by simp) rfl _ 61 rfl rfl
      refine iv_list rfl ?_
      refine wl_buildR rfl _ _ _ rfl (nP : Int) U N act hUl hNl f1 f2 f3 ?_
      exact ⟨_, rfl, Below.refl _ _, fun _ _ => rfl⟩
    · obtain rfl := Option.some.inj ho
      have f1 : a.eval (.tmp 62) = .agg (ruleV (rxR nP U N act)) := h.has ⟨12, .data⟩ (by simp) rfl _ 62 rfl rfl
      refine iv_list rfl ?_
      refine wl_buildE (E := RuleE) RuleOk rfl _ rfl (ruleV (rxR nP U N act)) hsz f1 ?_
      exact ⟨_, rfl, (Below.refl _ _).alloc (Nat.le_refl _) _, fun _ _ => ⟨_, rfl, kw.size, heap_new _ _ _ rfl⟩⟩
  · intro o ho a w h
    obtain rfl := Option.some.inj ho
    have hb : Below w0.heap.size w0 w := h.wld
    have kw := frm false w hb
    have f1 : a.eval (.tmp 50) = .slice oP nP cP := h.has ⟨0, .data⟩ (by simp) rfl _ 50 rfl rfl
    obtain ⟨gn, f2, f3, f4⟩ : ∃ gn, a.eval (.tmp 63) = .slice (some ⟨gn, 0, none⟩) 1 1 ∧ w0.heap.size ≤ gn ∧ w.heap[gn]? = some (.cells (ruleV (rxR nP U N act)) 39 (0, 0)) := h.has ⟨13, .data⟩ (by simp) rfl _ 63 rfl rfl
    have hown' := gown_below hown hb
    refine wpOp_of_list rfl ?_
    refine wl_appendE (E := RuleE) RuleOk ruleV rfl _ _ rfl B (.slice oP nP cP) L (rxR nP U N act) (rule_fits HRK) f1 hown' gn 1 f2 f4 (by omega) (Nat.le_trans hB hb.size) ?_
    intro v' w3 hown3 hgr3 _
    have bg : Below B w w3 := (Below.refl _ _).grown hgr3 (Nat.le_trans hB hb.size) fun k hk => (hown'.lt k hk).1
    have k3 : RxI B g2 g (.cells cur2 t2 fr2) (.cells cur t fr) w00 w0 w3 := ⟨(hgr3.block g2 (Array.getElem?_eq_some_iff.1 kw.two).1 (fun hq => hne2 hq.symm)).trans kw.two, (hgr3.block g (Array.getElem?_eq_some_iff.1 kw.one).1 (fun hq => hne hq.symm)).trans kw.one, kw.below.trans bg, fun e s u n ys h1 h2 => own_by8 hown' hgr3 (kw.keep e s u n ys h1 h2) (Ne.symm h1), Nat.le_trans kw.size bg.size⟩
    refine ⟨v', rfl, k3, ?_, fun _ _ => hown3⟩
    intro i z hi
    unfold rx_V
    split <;> intro hz <;> first
      | exact hz
      | exact absurd rfl hi
      | (obtain ⟨gm, q1, q2, q3⟩ := hz
         exact ⟨gm, q1, q2, (hgr3.block gm (Array.getElem?_eq_some_iff.1 q3).1 (fun hq => by have := (hown.lt gm hq.symm).2; omega)).trans q3⟩)
  · intro a w hI hsz2 hdf hot hh
    have f1 : w.ownsRow B 39 28 (a.eval (.tmp 64)) (L ++ [rxR nP U N act]).length (gcells ruleV (L ++ [rxR nP U N act])) := hh 14 _ 64 (by decide) rfl rfl
    obtain ⟨v, hv⟩ : ∃ v, a.eval (.tmp 64) = v := ⟨_, rfl⟩
    rw [hv] at f1
    refine wpOp_assign rfl rfl _ rfl v hv (some 7) rfl ?_
    show Q .normal (a.put (some 7) v) w
    rw [puts_form hsz2 hdf hot (fun d hd => hDs d (by revert hd; unfold rx_D rx_D0; intro hd; simp only [List.mem_cons, List.not_mem_nil, or_false] at hd ⊢; omega))]
    exact hK _ w v hI f1
end Go.Proofs.YthddlchkbnmcaaaGreatDoor
