import Derived.Test.YthddlchkbnmcaaaGreatDoorJ34
namespace Go.Proofs.YthddlchkbnmcaaaGreatDoor
open Go Go.RowKit
set_option maxRecDepth 20000

/-- A line up to what ends it. -/
def lineT (E : Nat) (T : List Tok) : Res (Raw × List Tok) :=
  (takeH E T).bind fun x => (takeK E 6 x.2).bind fun y => (takeA E y.2).map fun z => (⟨(posOf E T : Int), x.1.1, x.1.2.1, x.1.2.2, z.1.1, z.1.2⟩, z.2)
theorem takeR_line (E : Nat) (T : List Tok) : takeR E T = (lineT E T).bind fun x => (takeE x.2).map fun u => (x.1, u) := by
  unfold takeR lineT
  cases takeH E T with
  | error x => rfl
  | ok x =>
    show (takeK E 6 x.2).bind _ = ((takeK E 6 x.2).bind _).bind _
    cases takeK E 6 x.2 with
    | error y => rfl
    | ok y =>
      show (takeA E y.2).bind _ = ((takeA E y.2).map _).bind _
      cases takeA E y.2 with
      | error z => rfl
      | ok z => rfl
def RawR (B : Nat) (w : World) (x : Raw) (v : Value) : Prop := ∃ u, v = .agg (rawV x u) ∧ ClasOwn B w x.clauses u
theorem raw_fits (x : Raw) (u : Value) (hu : ∃ o n k, u = .slice o n k) : Fits RawE (rawV x u) := by
  obtain ⟨o, n, k, rfl⟩ := hu
  exact ⟨rfl, by simp [rawV, Value.oneCell']⟩
theorem store_fig (W : World) (p off : Nat) (cs : Array Value) (ty : TypeId) (hp : W.heap[p]? = some (.cells cs ty (0, 0))) (ho : off + 2 ≤ cs.size) (f : Fig) :
    (storeCells ⟨p, off, none⟩ (figV f).toList).run Tryz.prog W = .ok () ((W.setCell ⟨p, off, none⟩ (.int .i64 f.n)).setCell ⟨p, off + 1, none⟩ (.int .i64 f.pos)) := by
  obtain ⟨x, hx⟩ : ∃ x, W.cell? ⟨p, off, none⟩ = some x := ⟨cs[off], by rw [cell_of_row _ _ _ _ _ _ hp, Array.getElem?_eq_getElem (by omega)]⟩
  have hz : W.frozen? ⟨p, off, none⟩ = false := tc_frozen hp rfl
  have hp2 := tc_row (k := off) hp (.int .i64 f.n)
  obtain ⟨y, hy⟩ : ∃ y, (W.setCell ⟨p, off, none⟩ (.int .i64 f.n)).cell? ⟨p, off + 1, none⟩ = some y := ⟨_, by rw [cell_of_row _ _ _ _ _ _ hp2, Array.getElem?_setIfInBounds_ne (by omega), Array.getElem?_eq_getElem (by omega)]⟩
  have hz2 : (W.setCell ⟨p, off, none⟩ (.int .i64 f.n)).frozen? ⟨p, off + 1, none⟩ = false := tc_frozen hp2 rfl
  simp [figV, go_sem, hx, hz, hy, hz2]
theorem clas_set {w : World} {B : Nat} {C : List Cla} {v : Value} (h : ClasOwn B w C v) {p i : Nat} {cs : Array Value} {fr : Nat × Nat} (hp : w.heap[p]? = some (.cells cs 92 fr)) (y : Value) : ClasOwn B (w.setCell ⟨p, i, none⟩ y) C v := by
  obtain ⟨P, h1, h2, h3⟩ := h
  exact ⟨P, h1, own_set h2 hp (by decide) y, fun q hq => own_set (h3 q hq) hp (by decide) y⟩
theorem clas_setRow {w : World} {B : Nat} {C : List Cla} {v : Value} (h : ClasOwn B w C v) {p : Nat} {cs : Array Value} {fr : Nat × Nat} (hp : w.heap[p]? = some (.cells cs 92 fr)) (ys : Array Value) : ClasOwn B (w.setRow p ys) C v := by
  obtain ⟨P, h1, h2, h3⟩ := h
  exact ⟨P, h1, own_setRow6 h2 hp (by decide) ys, fun q hq => own_setRow6 (h3 q hq) hp (by decide) ys⟩
theorem clas_base {w : World} {B B' : Nat} {C : List Cla} {v : Value} (h : ClasOwn B w C v) (hB : B' ≤ B) : ClasOwn B' w C v := by
  obtain ⟨P, h1, h2, h3⟩ := h
  exact ⟨P, h1, gown_base h2 hB, fun q hq => gown_base (h3 q hq) hB⟩
theorem clas_slice {w : World} {B : Nat} {C : List Cla} {v : Value} (h : ClasOwn B w C v) : ∃ o n m, v = .slice o n m := by
  obtain ⟨P, _, h2, _⟩ := h
  obtain ⟨o, cap, e⟩ := gown_slice h2
  exact ⟨o, _, cap, e⟩
theorem clas_nil (w : World) (B : Nat) : ClasOwn B w [] (.slice none 0 0) := NOwn.nil _ _ _ _ _

set_option maxHeartbeats 8000000 in
set_option maxRecDepth 10000 in
theorem line_any (W0 w : World) (g E : Nat) (t : Tok) (T : List Tok) (hTl : (t :: T).length ≤ 5000) (hw : t.text = wDefault → t.kind = 1) (h : Rd W0 w g E (t :: T)) :
    Calls Tryz.prog 72 #[.pointer (some ⟨g, 0, none⟩)] w fun e w' => Took W0 w g E (RawR w.heap.size) (lineT E (t :: T)) e w' := by
  have CP : Hid (∀ W T, Rd W0 W g E T → Calls Tryz.prog 70 #[.pointer (some ⟨g, 0, none⟩)] W fun e w' => e = .returned (.agg (encT (hd E T))) ∧ Below W.heap.size W w') := fun W T h => peek_any W0 W g E T h
  have CF : Hid (∀ W T, Rd W0 W g E T → Calls Tryz.prog 96 #[.pointer (some ⟨g, 0, none⟩)] W fun e w' => Took W0 W g E (fun _ f v => v = .agg (figV f)) (takeF E T) e w') := fun W T h => figure_any W0 W g E T h
  have CK1 : Hid (∀ W T, Rd W0 W g E T → Calls Tryz.prog 71 #[.pointer (some ⟨g, 0, none⟩), .int .i64 1] W fun e w' => Took W0 W g E (fun _ t v => v = .agg (encT t)) (takeK E 1 T) e w') := fun W T h => take_any W0 W g E 1 (by decide) T h
  have CK6 : Hid (∀ W T, Rd W0 W g E T → Calls Tryz.prog 71 #[.pointer (some ⟨g, 0, none⟩), .int .i64 6] W fun e w' => Took W0 W g E (fun _ t v => v = .agg (encT t)) (takeK E 6 T) e w') := fun W T h => take_any W0 W g E 6 (by decide) T h
  have CC : Hid (∀ W T, T.length ≤ 5000 → Rd W0 W g E T → Calls Tryz.prog 97 #[.pointer (some ⟨g, 0, none⟩)] W fun e w' => Took W0 W g E (ClasOwn W.heap.size) (takeCs E T.length [] T) e w') := fun W T hl h => clauses_any W0 W g E T hl h
  have CA : Hid (∀ W T, Rd W0 W g E T → Calls Tryz.prog 98 #[.pointer (some ⟨g, 0, none⟩)] W fun e w' => Took W0 W g E (fun _ a v => ActV v a) (takeA E T) e w') := fun W T h => action_any W0 W g E T h
  have hgl := h.size
  have H : Hid (Rd W0 w g E (t :: T)) := h
  obtain ⟨A, hA⟩ : ∃ A, A = lineT E (t :: T) := ⟨_, rfl⟩
  rw [← hA]
  unfold lineT at hA
  have hwT : posOf E (t :: T) = t.pos := rfl
  rw [hwT] at hA
  clear h hwT
  go_enter Tryz.func72, Tryz.ntmps72
  go_wp2_with fail
  refine (CP.out _ (t :: T) (H.out.alloc _)).mono ?_
  rintro e w1 ⟨rfl, hb1⟩
  have B1 : Below w.heap.size w w1 := ((Below.refl _ _).alloc (Nat.le_refl _) _).trans (hb1.mono (by simp))
  have z1 : w.heap.size < w1.heap.size := by have := hb1.size; simp at this; omega
  have r0 : w1.heap[w.heap.size]? = some (.cells (rawV ⟨0, false, ⟨0, 0⟩, [], false, ⟨0, 0⟩⟩ (.slice none 0 0)) 92 (0, 0)) := (hb1.block _ (by simp)).trans (heap_new _ _ _ rfl)
  have HR1 : Hid (Rd W0 w1 g E (t :: T)) := H.out.below B1
  have HG1 : Hid (w.grownBy w1 (some g)) := grown_below B1
  have HR0 : Hid (w1.heap[w.heap.size]? = some (.cells (rawV ⟨0, false, ⟨0, 0⟩, [], false, ⟨0, 0⟩⟩ (.slice none 0 0)) 92 (0, 0))) := r0
  have q1 := tok_cells (heap_new w1 (.cells (encT t) 117) _ rfl)
  have q2 := fun x => tok_cells (heap_past _ x _ _ (heap_new w1 (.cells (encT t) 117) _ rfl))
  have t1 := q1.2.1
  have t2 := fun x => (q2 x).2.2.1
  clear q1 q2 hb1 B1 r0
  have hhd : hd E (t :: T) = t := rfl
  rw [hhd]
  clear hhd
  have LN : Hid (((w1.alloc (.cells (encT t) 117)).alloc (.cells (rawV ⟨(t.pos : Int), false, ⟨0, 0⟩, [], false, ⟨0, 0⟩⟩ (.slice none 0 0)) 92)).heap[w1.heap.size + 1]? = some (.cells (rawV ⟨(t.pos : Int), false, ⟨0, 0⟩, [], false, ⟨0, 0⟩⟩ (.slice none 0 0)) 92 (0, 0))) := heap_new _ _ _ (by simp)
  by_cases hd : t.text = wDefault
  · have e1 : (t.text == [100, 101, 102, 97, 117, 108, 116]) = true := by rw [hd]; rfl
    have hH : takeH E (t :: T) = .ok ((true, ⟨0, 0⟩, []), T) := if_pos ⟨hw hd, hd⟩
    have hK1 : takeK E 1 (t :: T) = .ok (t, T) := if_pos (hw hd)
    rw [hH] at hA
    have HA : Hid (A = (takeK E 6 T).bind fun y => (takeA E y.2).map fun z => (⟨(t.pos : Int), true, ⟨0, 0⟩, [], z.1.1, z.1.2⟩, z.2)) := hA
    clear hA hH hd hw
    go_wp2_with (first
      | (refine wl_storeE (E := TokE) TokOk rfl _ _ rfl w1.heap.size (encT t) (tv_fits _ _ _ _) rfl rfl _ (heap_new _ _ _ rfl) rfl _ (setRow_new _ _ _ _ _ rfl) ?_)
      | (refine wl_storeE (E := RawE) RawOk rfl _ _ rfl (w1.heap.size + 1) (rawV ⟨(t.pos : Int), false, ⟨0, 0⟩, [], false, ⟨0, 0⟩⟩ (.slice none 0 0)) (raw_fits _ _ ⟨_, _, _, rfl⟩) rfl rfl _ (heap_new _ _ _ (by simp)) rfl _ (setRow_new _ _ _ _ _ (by simp)) ?_))
    refine (CK1.out _ (t :: T) ((HR1.out.alloc _).alloc _)).mono ?_
    rw [hK1]
    clear hK1
    rintro e w2 ⟨hg2, ⟨v, rfl, rfl⟩, R2⟩
    have z2 : w1.heap.size + 2 ≤ w2.heap.size := by have := hg2.size; simp at this; omega
    have rP2 : w2.heap[w1.heap.size + 1]? = some (.cells (rawV ⟨(t.pos : Int), false, ⟨0, 0⟩, [], false, ⟨0, 0⟩⟩ (.slice none 0 0)) 92 (0, 0)) := (hg2.block _ (by simp) (by simp; omega)).trans LN.out
    have r02 : w2.heap[w.heap.size]? = some (.cells (rawV ⟨0, false, ⟨0, 0⟩, [], false, ⟨0, 0⟩⟩ (.slice none 0 0)) 92 (0, 0)) := (hg2.block _ (by simp; omega) (by simp; omega)).trans (heap_past _ _ _ _ (heap_past _ _ _ _ HR0.out))
    have c1 : w2.cell? ⟨w1.heap.size + 1, 1, none⟩ = some (.bool false) := by rw [cell_of_row _ _ _ _ _ _ rP2]; rfl
    have f1 : w2.frozen? ⟨w1.heap.size + 1, 1, none⟩ = false := tc_frozen rP2 rfl
    have K3 : Hid (Rd W0 (w2.setCell ⟨w1.heap.size + 1, 1, none⟩ (.bool true)) g E T ∧ w.grownBy (w2.setCell ⟨w1.heap.size + 1, 1, none⟩ (.bool true)) (some g) ∧ (w2.setCell ⟨w1.heap.size + 1, 1, none⟩ (.bool true)).heap[w1.heap.size + 1]? = some (.cells (rawV ⟨(t.pos : Int), true, ⟨0, 0⟩, [], false, ⟨0, 0⟩⟩ (.slice none 0 0)) 92 (0, 0)) ∧ (w2.setCell ⟨w1.heap.size + 1, 1, none⟩ (.bool true)).heap[w.heap.size]? = some (.cells (rawV ⟨0, false, ⟨0, 0⟩, [], false, ⟨0, 0⟩⟩ (.slice none 0 0)) 92 (0, 0)) ∧ ClasOwn w.heap.size (w2.setCell ⟨w1.heap.size + 1, 1, none⟩ (.bool true)) [] (.slice none 0 0)) :=
      ⟨rd_setCell R2 (by omega) (by omega) _ _, gb_setCell (grown_trans (gb_alloc (gb_alloc HG1.out _) _) hg2) (.inr (by omega)) _ _, tc_row rP2 _, (tc_far (by omega) _).trans r02, clas_nil _ _⟩
    clear hg2 R2 rP2 r02 LN HR1 HG1 HR0 t1 t2
    go_wp2_with fail
    refine (CK6.out _ T K3.out.1).mono ?_
    clear c1 f1
    obtain ⟨w3, hw3⟩ : ∃ w3, w3 = w2.setCell ⟨w1.heap.size + 1, 1, none⟩ (.bool true) := ⟨_, rfl⟩
    rw [← hw3] at K3 ⊢
    have z3 : w2.heap.size ≤ w3.heap.size := by rw [hw3, tc_size]; exact Nat.le_refl _
    clear hw3
    cases hK : takeK E 6 T with
    | error x =>
      obtain ⟨c, q⟩ := x
      rw [hK] at HA
      clear hK
      rintro e w4 ⟨hg4, rfl⟩
      go_wp2_with fail
      rw [HA.out]
      exact ⟨rfl, grown_trans K3.out.2.1 hg4, rfl⟩
    | ok x =>
      obtain ⟨t6, T3⟩ := x
      rw [hK] at HA
      clear hK
      rintro e w4 ⟨hg4, ⟨v, rfl, rfl⟩, R4⟩
      have z4 := hg4.size
      have K4 : Hid (Rd W0 w4 g E T3 ∧ w.grownBy w4 (some g) ∧ w4.heap[(w1.heap.size + 1)]? = some (.cells (rawV ⟨(t.pos : Int), true, ⟨0, 0⟩, [], false, ⟨0, 0⟩⟩ (.slice none 0 0)) 92 (0, 0)) ∧ w4.heap[w.heap.size]? = some (.cells (rawV ⟨0, false, ⟨0, 0⟩, [], false, ⟨0, 0⟩⟩ (.slice none 0 0)) 92 (0, 0)) ∧ ClasOwn w.heap.size w4 [] (.slice none 0 0)) :=
        ⟨R4, grown_trans K3.out.2.1 hg4, (hg4.block _ (by omega) (by simp; omega)).trans K3.out.2.2.1, (hg4.block _ (by omega) (by simp; omega)).trans K3.out.2.2.2.1, K3.out.2.2.2.2.by hg4 hgl.2⟩
      clear hg4 R4 K3
      go_wp2_with fail
      refine (CA.out _ T3 K4.out.1).mono ?_
      cases hAc : takeA E T3 with
      | error x =>
        obtain ⟨c, q⟩ := x
        have HA2 : Hid (A = .error (c, q)) := by show _ = _; rw [HA.out]; show (takeA E T3).map _ = _; rw [hAc]; rfl
        clear hAc HA
        rintro e w5 ⟨hg5, rfl⟩
        go_wp2_with fail
        rw [HA2.out]
        exact ⟨rfl, grown_trans K4.out.2.1 hg5, rfl⟩
      | ok x =>
        obtain ⟨⟨b, po⟩, T4⟩ := x
        have HA2 : Hid (A = .ok ((⟨(t.pos : Int), true, ⟨0, 0⟩, [], b, po⟩ : Raw), T4)) := by show _ = _; rw [HA.out]; show (takeA E T3).map _ = _; rw [hAc]; rfl
        clear hAc HA
        rintro e w5 ⟨hg5, ⟨v, rfl, hv⟩, R5⟩
        unfold ActV at hv
        subst hv
        have z5 := hg5.size
        have rP5 : w5.heap[(w1.heap.size + 1)]? = some (.cells (rawV ⟨(t.pos : Int), true, ⟨0, 0⟩, [], false, ⟨0, 0⟩⟩ (.slice none 0 0)) 92 (0, 0)) := (hg5.block _ (by omega) (by simp; omega)).trans K4.out.2.2.1
        have r05 : w5.heap[w.heap.size]? = some (.cells (rawV ⟨0, false, ⟨0, 0⟩, [], false, ⟨0, 0⟩⟩ (.slice none 0 0)) 92 (0, 0)) := (hg5.block _ (by omega) (by simp; omega)).trans K4.out.2.2.2.1
        have G5 : w.grownBy w5 (some g) := grown_trans K4.out.2.1 hg5
        have O5 := K4.out.2.2.2.2.by hg5 hgl.2
        have c5 : w5.cell? ⟨(w1.heap.size + 1), 5, none⟩ = some (.bool false) := by rw [cell_of_row _ _ _ _ _ _ rP5]; rfl
        have f5 : w5.frozen? ⟨(w1.heap.size + 1), 5, none⟩ = false := tc_frozen rP5 rfl
        have rP6 := tc_row (k := 5) rP5 (.bool b)
        have hst := store_fig (w5.setCell ⟨(w1.heap.size + 1), 5, none⟩ (.bool b)) (w1.heap.size + 1) 6 _ _ rP6 (by simp [rawV]) po
        have hex0 : ∀ W, (Instr.extract (.tuple #[.bool b, .agg (figV po)]) 0).run Tryz.prog W = .ok (.bool b) W := fun W => by kernel_rfl
        have hex1 : ∀ W, (Instr.extract (.tuple #[.bool b, .agg (figV po)]) 1).run Tryz.prog W = .ok (.agg (figV po)) W := fun W => by kernel_rfl
        have rP8 : Hid ((((w5.setCell ⟨(w1.heap.size + 1), 5, none⟩ (.bool b)).setCell ⟨(w1.heap.size + 1), 6, none⟩ (.int .i64 po.n)).setCell ⟨(w1.heap.size + 1), 6 + 1, none⟩ (.int .i64 po.pos)).heap[(w1.heap.size + 1)]? = some (.cells (rawV ⟨(t.pos : Int), true, ⟨0, 0⟩, [], b, po⟩ (.slice none 0 0)) 92 (0, 0))) := tc_row (tc_row rP6 _) _
        have r08 : Hid ((((w5.setCell ⟨(w1.heap.size + 1), 5, none⟩ (.bool b)).setCell ⟨(w1.heap.size + 1), 6, none⟩ (.int .i64 po.n)).setCell ⟨(w1.heap.size + 1), 6 + 1, none⟩ (.int .i64 po.pos)).heap[w.heap.size]? = some (.cells (rawV ⟨0, false, ⟨0, 0⟩, [], false, ⟨0, 0⟩⟩ (.slice none 0 0)) 92 (0, 0))) := (tc_far (by omega) _).trans ((tc_far (by omega) _).trans ((tc_far (by omega) _).trans r05))
        have O8 : Hid (ClasOwn w.heap.size (((w5.setCell ⟨(w1.heap.size + 1), 5, none⟩ (.bool b)).setCell ⟨(w1.heap.size + 1), 6, none⟩ (.int .i64 po.n)).setCell ⟨(w1.heap.size + 1), 6 + 1, none⟩ (.int .i64 po.pos)) [] (.slice none 0 0)) := clas_set (clas_set (clas_set O5 rP5 _) rP6 _) (tc_row rP6 _) _
        have G8 : Hid (w.grownBy (((w5.setCell ⟨(w1.heap.size + 1), 5, none⟩ (.bool b)).setCell ⟨(w1.heap.size + 1), 6, none⟩ (.int .i64 po.n)).setCell ⟨(w1.heap.size + 1), 6 + 1, none⟩ (.int .i64 po.pos)) (some g)) := gb_setCell (gb_setCell (gb_setCell G5 (.inr (by omega)) _ _) (.inr (by omega)) _ _) (.inr (by omega)) _ _
        have R8 : Hid (Rd W0 (((w5.setCell ⟨(w1.heap.size + 1), 5, none⟩ (.bool b)).setCell ⟨(w1.heap.size + 1), 6, none⟩ (.int .i64 po.n)).setCell ⟨(w1.heap.size + 1), 6 + 1, none⟩ (.int .i64 po.pos)) g E T4) := rd_setCell (rd_setCell (rd_setCell R5 (by omega) (by omega) _ _) (by omega) (by omega) _ _) (by omega) (by omega) _ _
        clear rP5 r05 rP6 G5 O5 R5 hg5 K4
        go_wp2_with (first
          | (refine wl_loadE (E := RawE) RawOk rfl _ rfl (w1.heap.size + 1) 0 rfl _ _ _ (rawV ⟨(t.pos : Int), true, ⟨0, 0⟩, [], b, po⟩ (.slice none 0 0)) rfl rP8.out (own_cells _ _) ?_)
          | (refine wl_storeE (E := RawE) RawOk rfl _ _ rfl w.heap.size (rawV ⟨(t.pos : Int), true, ⟨0, 0⟩, [], b, po⟩ (.slice none 0 0)) (raw_fits _ _ ⟨_, _, _, rfl⟩) rfl rfl _ r08.out rfl _ rfl ?_))
        refine retE (E := RawE) RawOk rfl rfl w.heap.size rfl (rawV ⟨(t.pos : Int), true, ⟨0, 0⟩, [], b, po⟩ (.slice none 0 0)) rfl (setRow_heap _ _ _ _ _ _ r08.out) ?_
        rw [HA2.out]
        exact ⟨gb_setRow G8.out (.inr (Nat.le_refl _)) _, ⟨_, rfl, _, rfl, clas_setRow O8.out r08.out _⟩, rd_setRow R8.out (by omega) (by omega) _⟩
  · have e1 : (t.text == [100, 101, 102, 97, 117, 108, 116]) = false := by rw [beq_eq_false_iff_ne]; exact hd
    have hH : takeH E (t :: T) = (takeF E (t :: T)).bind fun x => (takeCs E x.2.length [] x.2).map fun y => ((false, x.1, y.1), y.2) := if_neg fun hq => hd hq.2
    rw [hH] at hA
    clear hH hd hw
    go_wp2_with (first
      | (refine wl_storeE (E := TokE) TokOk rfl _ _ rfl w1.heap.size (encT t) (tv_fits _ _ _ _) rfl rfl _ (heap_new _ _ _ rfl) rfl _ (setRow_new _ _ _ _ _ rfl) ?_)
      | (refine wl_storeE (E := RawE) RawOk rfl _ _ rfl (w1.heap.size + 1) (rawV ⟨(t.pos : Int), false, ⟨0, 0⟩, [], false, ⟨0, 0⟩⟩ (.slice none 0 0)) (raw_fits _ _ ⟨_, _, _, rfl⟩) rfl rfl _ (heap_new _ _ _ (by simp)) rfl _ (setRow_new _ _ _ _ _ (by simp)) ?_))
    refine (CF.out _ (t :: T) ((HR1.out.alloc _).alloc _)).mono ?_
    cases hF : takeF E (t :: T) with
    | error x =>
      obtain ⟨c, q⟩ := x
      have HA : Hid (A = .error (c, q)) := by show _ = _; rw [hA, hF]; rfl
      clear hA hF
      rintro e w2 ⟨hg2, rfl⟩
      go_wp2_with fail
      rw [HA.out]
      exact ⟨rfl, grown_trans (gb_alloc (gb_alloc HG1.out _) _) hg2, rfl⟩
    | ok x =>
      obtain ⟨pr, T1⟩ := x
      have hT1 : T1.length ≤ 5000 := Nat.le_trans (eats_F hF).len hTl
      rw [hF] at hA
      have HA0 : Hid (A = ((takeCs E T1.length [] T1).map fun y => ((false, pr, y.1), y.2)).bind fun x => (takeK E 6 x.2).bind fun y => (takeA E y.2).map fun z => (⟨(t.pos : Int), x.1.1, x.1.2.1, x.1.2.2, z.1.1, z.1.2⟩, z.2)) := hA
      clear hA hF
      rintro e w2 ⟨hg2, ⟨v, rfl, rfl⟩, R2⟩
      have z2 : w1.heap.size + 2 ≤ w2.heap.size := by have := hg2.size; simp at this; omega
      have rP2 : w2.heap[w1.heap.size + 1]? = some (.cells (rawV ⟨(t.pos : Int), false, ⟨0, 0⟩, [], false, ⟨0, 0⟩⟩ (.slice none 0 0)) 92 (0, 0)) := (hg2.block _ (by simp) (by simp; omega)).trans LN.out
      have r02 : w2.heap[w.heap.size]? = some (.cells (rawV ⟨0, false, ⟨0, 0⟩, [], false, ⟨0, 0⟩⟩ (.slice none 0 0)) 92 (0, 0)) := (hg2.block _ (by simp; omega) (by simp; omega)).trans (heap_past _ _ _ _ (heap_past _ _ _ _ HR0.out))
      have hst := store_fig w2 (w1.heap.size + 1) 2 _ _ rP2 (by simp [rawV]) pr
      have K2 : Hid (Rd W0 ((w2.setCell ⟨(w1.heap.size + 1), 2, none⟩ (.int .i64 pr.n)).setCell ⟨(w1.heap.size + 1), 2 + 1, none⟩ (.int .i64 pr.pos)) g E T1 ∧ w.grownBy ((w2.setCell ⟨(w1.heap.size + 1), 2, none⟩ (.int .i64 pr.n)).setCell ⟨(w1.heap.size + 1), 2 + 1, none⟩ (.int .i64 pr.pos)) (some g) ∧ ((w2.setCell ⟨(w1.heap.size + 1), 2, none⟩ (.int .i64 pr.n)).setCell ⟨(w1.heap.size + 1), 2 + 1, none⟩ (.int .i64 pr.pos)).heap[(w1.heap.size + 1)]? = some (.cells (rawV ⟨(t.pos : Int), false, pr, [], false, ⟨0, 0⟩⟩ (.slice none 0 0)) 92 (0, 0)) ∧ ((w2.setCell ⟨(w1.heap.size + 1), 2, none⟩ (.int .i64 pr.n)).setCell ⟨(w1.heap.size + 1), 2 + 1, none⟩ (.int .i64 pr.pos)).heap[w.heap.size]? = some (.cells (rawV ⟨0, false, ⟨0, 0⟩, [], false, ⟨0, 0⟩⟩ (.slice none 0 0)) 92 (0, 0))) :=
        ⟨rd_setCell (rd_setCell R2 (by omega) (by omega) _ _) (by omega) (by omega) _ _, gb_setCell (gb_setCell (grown_trans (gb_alloc (gb_alloc HG1.out _) _) hg2) (.inr (by omega)) _ _) (.inr (by omega)) _ _, tc_row (tc_row rP2 _) _, (tc_far (by omega) _).trans ((tc_far (by omega) _).trans r02)⟩
      clear hg2 R2 rP2 r02 LN HR1 HG1 HR0 t1 t2
      go_wp2_with fail
      refine (CC.out _ T1 hT1 K2.out.1).mono ?_
      cases hC : takeCs E T1.length [] T1 with
      | error x =>
        obtain ⟨c, q⟩ := x
        have HA : Hid (A = .error (c, q)) := by show _ = _; rw [HA0.out, hC]; rfl
        clear hC HA0
        rintro e w3 ⟨hg3, rfl⟩
        go_wp2_with fail
        rw [HA.out]
        exact ⟨rfl, grown_trans K2.out.2.1 hg3, rfl⟩
      | ok x =>
        obtain ⟨C, T2⟩ := x
        have HA : Hid (A = (takeK E 6 T2).bind fun y => (takeA E y.2).map fun z => (⟨(t.pos : Int), false, pr, C, z.1.1, z.1.2⟩, z.2)) := by show _ = _; rw [HA0.out, hC]; rfl
        clear hC HA0 hst
        rintro e wc ⟨hgc, ⟨v, rfl, hclc⟩, Rc⟩
        have zc : w2.heap.size ≤ wc.heap.size := by have := hgc.size; rw [tc_size, tc_size] at this; exact this
        obtain ⟨o, n, m, rfl⟩ := clas_slice hclc
        have rPc : wc.heap[(w1.heap.size + 1)]? = some (.cells (rawV ⟨(t.pos : Int), false, pr, [], false, ⟨0, 0⟩⟩ (.slice none 0 0)) 92 (0, 0)) := (hgc.block _ (by rw [tc_size, tc_size]; omega) (by simp; omega)).trans K2.out.2.2.1
        have r0c : wc.heap[w.heap.size]? = some (.cells (rawV ⟨0, false, ⟨0, 0⟩, [], false, ⟨0, 0⟩⟩ (.slice none 0 0)) 92 (0, 0)) := (hgc.block _ (by rw [tc_size, tc_size]; omega) (by simp; omega)).trans K2.out.2.2.2
        have c4 : wc.cell? ⟨(w1.heap.size + 1), 4, none⟩ = some (.slice none 0 0) := by rw [cell_of_row _ _ _ _ _ _ rPc]; rfl
        have f4 : wc.frozen? ⟨(w1.heap.size + 1), 4, none⟩ = false := tc_frozen rPc rfl
        have K3 : Hid (Rd W0 (wc.setCell ⟨(w1.heap.size + 1), 4, none⟩ (.slice o n m)) g E T2 ∧ w.grownBy (wc.setCell ⟨(w1.heap.size + 1), 4, none⟩ (.slice o n m)) (some g) ∧ (wc.setCell ⟨(w1.heap.size + 1), 4, none⟩ (.slice o n m)).heap[(w1.heap.size + 1)]? = some (.cells (rawV ⟨(t.pos : Int), false, pr, C, false, ⟨0, 0⟩⟩ (.slice o n m)) 92 (0, 0)) ∧ (wc.setCell ⟨(w1.heap.size + 1), 4, none⟩ (.slice o n m)).heap[w.heap.size]? = some (.cells (rawV ⟨0, false, ⟨0, 0⟩, [], false, ⟨0, 0⟩⟩ (.slice none 0 0)) 92 (0, 0)) ∧ ClasOwn w.heap.size (wc.setCell ⟨(w1.heap.size + 1), 4, none⟩ (.slice o n m)) C (.slice o n m)) :=
          ⟨rd_setCell Rc (by omega) (by omega) _ _, gb_setCell (grown_trans K2.out.2.1 hgc) (.inr (by omega)) _ _, tc_row rPc _, (tc_far (by omega) _).trans r0c, clas_set (clas_base hclc (by rw [tc_size, tc_size]; omega)) rPc _⟩
        clear hgc hclc Rc rPc r0c K2
        go_wp2_with fail
        refine (CK6.out _ T2 K3.out.1).mono ?_
        clear c4 f4
        obtain ⟨w3, hw3⟩ : ∃ w3, w3 = wc.setCell ⟨(w1.heap.size + 1), 4, none⟩ (.slice o n m) := ⟨_, rfl⟩
        rw [← hw3] at K3 ⊢
        have z3 : wc.heap.size ≤ w3.heap.size := by rw [hw3, tc_size]; exact Nat.le_refl _
        clear hw3
        cases hK : takeK E 6 T2 with
        | error x =>
          obtain ⟨c, q⟩ := x
          rw [hK] at HA
          clear hK
          rintro e w4 ⟨hg4, rfl⟩
          go_wp2_with fail
          rw [HA.out]
          exact ⟨rfl, grown_trans K3.out.2.1 hg4, rfl⟩
        | ok x =>
          obtain ⟨t6, T3⟩ := x
          rw [hK] at HA
          clear hK
          rintro e w4 ⟨hg4, ⟨v, rfl, rfl⟩, R4⟩
          have z4 := hg4.size
          have K4 : Hid (Rd W0 w4 g E T3 ∧ w.grownBy w4 (some g) ∧ w4.heap[(w1.heap.size + 1)]? = some (.cells (rawV ⟨(t.pos : Int), false, pr, C, false, ⟨0, 0⟩⟩ (.slice o n m)) 92 (0, 0)) ∧ w4.heap[w.heap.size]? = some (.cells (rawV ⟨0, false, ⟨0, 0⟩, [], false, ⟨0, 0⟩⟩ (.slice none 0 0)) 92 (0, 0)) ∧ ClasOwn w.heap.size w4 C (.slice o n m)) :=
            ⟨R4, grown_trans K3.out.2.1 hg4, (hg4.block _ (by omega) (by simp; omega)).trans K3.out.2.2.1, (hg4.block _ (by omega) (by simp; omega)).trans K3.out.2.2.2.1, K3.out.2.2.2.2.by hg4 hgl.2⟩
          clear hg4 R4 K3
          go_wp2_with fail
          refine (CA.out _ T3 K4.out.1).mono ?_
          cases hAc : takeA E T3 with
          | error x =>
            obtain ⟨c, q⟩ := x
            have HA2 : Hid (A = .error (c, q)) := by show _ = _; rw [HA.out]; show (takeA E T3).map _ = _; rw [hAc]; rfl
            clear hAc HA
            rintro e w5 ⟨hg5, rfl⟩
            go_wp2_with fail
            rw [HA2.out]
            exact ⟨rfl, grown_trans K4.out.2.1 hg5, rfl⟩
          | ok x =>
            obtain ⟨⟨b, po⟩, T4⟩ := x
            have HA2 : Hid (A = .ok ((⟨(t.pos : Int), false, pr, C, b, po⟩ : Raw), T4)) := by show _ = _; rw [HA.out]; show (takeA E T3).map _ = _; rw [hAc]; rfl
            clear hAc HA
            rintro e w5 ⟨hg5, ⟨v, rfl, hv⟩, R5⟩
            unfold ActV at hv
            subst hv
            have z5 := hg5.size
            have rP5 : w5.heap[(w1.heap.size + 1)]? = some (.cells (rawV ⟨(t.pos : Int), false, pr, C, false, ⟨0, 0⟩⟩ (.slice o n m)) 92 (0, 0)) := (hg5.block _ (by omega) (by simp; omega)).trans K4.out.2.2.1
            have r05 : w5.heap[w.heap.size]? = some (.cells (rawV ⟨0, false, ⟨0, 0⟩, [], false, ⟨0, 0⟩⟩ (.slice none 0 0)) 92 (0, 0)) := (hg5.block _ (by omega) (by simp; omega)).trans K4.out.2.2.2.1
            have G5 : w.grownBy w5 (some g) := grown_trans K4.out.2.1 hg5
            have O5 := K4.out.2.2.2.2.by hg5 hgl.2
            have c5 : w5.cell? ⟨(w1.heap.size + 1), 5, none⟩ = some (.bool false) := by rw [cell_of_row _ _ _ _ _ _ rP5]; rfl
            have f5 : w5.frozen? ⟨(w1.heap.size + 1), 5, none⟩ = false := tc_frozen rP5 rfl
            have rP6 := tc_row (k := 5) rP5 (.bool b)
            have hst := store_fig (w5.setCell ⟨(w1.heap.size + 1), 5, none⟩ (.bool b)) (w1.heap.size + 1) 6 _ _ rP6 (by simp [rawV]) po
            have hex0 : ∀ W, (Instr.extract (.tuple #[.bool b, .agg (figV po)]) 0).run Tryz.prog W = .ok (.bool b) W := fun W => by kernel_rfl
            have hex1 : ∀ W, (Instr.extract (.tuple #[.bool b, .agg (figV po)]) 1).run Tryz.prog W = .ok (.agg (figV po)) W := fun W => by kernel_rfl
            have rP8 : Hid ((((w5.setCell ⟨(w1.heap.size + 1), 5, none⟩ (.bool b)).setCell ⟨(w1.heap.size + 1), 6, none⟩ (.int .i64 po.n)).setCell ⟨(w1.heap.size + 1), 6 + 1, none⟩ (.int .i64 po.pos)).heap[(w1.heap.size + 1)]? = some (.cells (rawV ⟨(t.pos : Int), false, pr, C, b, po⟩ (.slice o n m)) 92 (0, 0))) := tc_row (tc_row rP6 _) _
            have r08 : Hid ((((w5.setCell ⟨(w1.heap.size + 1), 5, none⟩ (.bool b)).setCell ⟨(w1.heap.size + 1), 6, none⟩ (.int .i64 po.n)).setCell ⟨(w1.heap.size + 1), 6 + 1, none⟩ (.int .i64 po.pos)).heap[w.heap.size]? = some (.cells (rawV ⟨0, false, ⟨0, 0⟩, [], false, ⟨0, 0⟩⟩ (.slice none 0 0)) 92 (0, 0))) := (tc_far (by omega) _).trans ((tc_far (by omega) _).trans ((tc_far (by omega) _).trans r05))
            have O8 : Hid (ClasOwn w.heap.size (((w5.setCell ⟨(w1.heap.size + 1), 5, none⟩ (.bool b)).setCell ⟨(w1.heap.size + 1), 6, none⟩ (.int .i64 po.n)).setCell ⟨(w1.heap.size + 1), 6 + 1, none⟩ (.int .i64 po.pos)) C (.slice o n m)) := clas_set (clas_set (clas_set O5 rP5 _) rP6 _) (tc_row rP6 _) _
            have G8 : Hid (w.grownBy (((w5.setCell ⟨(w1.heap.size + 1), 5, none⟩ (.bool b)).setCell ⟨(w1.heap.size + 1), 6, none⟩ (.int .i64 po.n)).setCell ⟨(w1.heap.size + 1), 6 + 1, none⟩ (.int .i64 po.pos)) (some g)) := gb_setCell (gb_setCell (gb_setCell G5 (.inr (by omega)) _ _) (.inr (by omega)) _ _) (.inr (by omega)) _ _
            have R8 : Hid (Rd W0 (((w5.setCell ⟨(w1.heap.size + 1), 5, none⟩ (.bool b)).setCell ⟨(w1.heap.size + 1), 6, none⟩ (.int .i64 po.n)).setCell ⟨(w1.heap.size + 1), 6 + 1, none⟩ (.int .i64 po.pos)) g E T4) := rd_setCell (rd_setCell (rd_setCell R5 (by omega) (by omega) _ _) (by omega) (by omega) _ _) (by omega) (by omega) _ _
            clear rP5 r05 rP6 G5 O5 R5 hg5 K4
            go_wp2_with (first
              | (refine wl_loadE (E := RawE) RawOk rfl _ rfl (w1.heap.size + 1) 0 rfl _ _ _ (rawV ⟨(t.pos : Int), false, pr, C, b, po⟩ (.slice o n m)) rfl rP8.out (own_cells _ _) ?_)
              | (refine wl_storeE (E := RawE) RawOk rfl _ _ rfl w.heap.size (rawV ⟨(t.pos : Int), false, pr, C, b, po⟩ (.slice o n m)) (raw_fits _ _ ⟨_, _, _, rfl⟩) rfl rfl _ r08.out rfl _ rfl ?_))
            refine retE (E := RawE) RawOk rfl rfl w.heap.size rfl (rawV ⟨(t.pos : Int), false, pr, C, b, po⟩ (.slice o n m)) rfl (setRow_heap _ _ _ _ _ _ r08.out) ?_
            rw [HA2.out]
            exact ⟨gb_setRow G8.out (.inr (Nat.le_refl _)) _, ⟨_, rfl, _, rfl, clas_setRow O8.out r08.out _⟩, rd_setRow R8.out (by omega) (by omega) _⟩
end Go.Proofs.YthddlchkbnmcaaaGreatDoor
namespace Go.Proofs.YthddlchkbnmcaaaGreatDoor
open Go Go.RowKit
set_option maxRecDepth 20000

/-- Lines in memory that are one's own. -/
def RawsOwn (B : Nat) (w : World) (L : List Raw) (v : Value) : Prop := NOwn RawE rawV (fun w x u => ClasOwn B w x.clauses u) w B v L
theorem RawsOwn.by {w w' : World} {g B : Nat} (hgr : w.grownBy w' (some g)) (hB : g < B) {L : List Raw} {v : Value} (h : RawsOwn B w L v) : RawsOwn B w' L v := by
  obtain ⟨P, h1, h2, h3⟩ := h
  exact ⟨P, h1, own_by hgr hB h2, fun p hp => (h3 p hp).by hgr hB⟩
theorem RawsOwn.below {w w' : World} {B : Nat} (hb : Below w.heap.size w w') {L : List Raw} {v : Value} (h : RawsOwn B w L v) : RawsOwn B w' L v := by
  obtain ⟨P, h1, h2, h3⟩ := h
  exact ⟨P, h1, gown_below h2 hb, fun p hp => (h3 p hp).below hb⟩
theorem clas_grown {w w' : World} {B B' : Nat} {n : Nat} {v : Value} {xs : List Value} (hown : w.ownsRow B' 92 8 v n xs) (hgr : w.grownBy w' v.ownBlock) {C : List Cla} {u : Value} (h : ClasOwn B w C u) : ClasOwn B w' C u := by
  obtain ⟨P, h1, h2, h3⟩ := h
  exact ⟨P, h1, own_grown hgr h2 (own_apart hown h2 (by decide)), fun p hp => own_grown hgr (h3 p hp) (own_apart hown (h3 p hp) (by decide))⟩
theorem line_len {E : Nat} {T T' : List Tok} {x : Raw} (h : lineT E T = .ok (x, T')) : T'.length < T.length ∧ ∃ A, T = A ++ T' := by
  unfold lineT at h
  obtain ⟨a, h1, h2⟩ := bind_ok h
  obtain ⟨b, h3, h4⟩ := bind_ok h2
  obtain ⟨c, h5, h6⟩ := map_ok h4
  cases h6
  have e6 := (takeK_in (t := b.1) (T' := b.2) h3).1
  have eA : ∃ A, b.2 = A ++ c.2 := by
    rw [takeA_eq] at h5
    obtain ⟨d, h7, h8⟩ := bind_ok h5
    have e7 := (takeK_in (t := d.1) (T' := d.2) h7).1
    split at h8
    · cases h8; exact ⟨[d.1], e7⟩
    · split at h8
      · obtain ⟨e, h9, h10⟩ := map_ok h8
        cases h10
        obtain ⟨A, hA, _⟩ := eats_F (f := e.1) (T' := e.2) h9
        exact ⟨d.1 :: A, by rw [e7, hA]; rfl⟩
      · cases h8
  have eH : ∃ A, T = A ++ a.2 := by
    cases T with
    | nil => cases h1
    | cons t T =>
      have h1' : (if t.kind = 1 ∧ t.text = wDefault then (.ok ((true, ⟨0, 0⟩, []), T) : Res ((Bool × Fig × List Cla) × List Tok)) else (takeF E (t :: T)).bind fun x => (takeCs E x.2.length [] x.2).map fun y => ((false, x.1, y.1), y.2)) = .ok a := h1
      by_cases hc : t.kind = 1 ∧ t.text = wDefault
      · rw [if_pos hc] at h1'
        cases h1'
        exact ⟨[t], rfl⟩
      · rw [if_neg hc] at h1'
        obtain ⟨d, h7, h8⟩ := bind_ok h1'
        obtain ⟨e, h9, h10⟩ := map_ok h8
        cases h10
        obtain ⟨A, hA, _⟩ := eats_F (f := d.1) (T' := d.2) h7
        obtain ⟨B, hB, _⟩ := eats_Cs (l := e.1) (T' := e.2) h9
        exact ⟨A ++ B, by rw [hA, hB]; simp⟩
  obtain ⟨A, hA⟩ := eA
  obtain ⟨B, hB⟩ := eH
  rw [hB, e6, hA]
  refine ⟨by simp; omega, ⟨B ++ b.1 :: A, by simp⟩⟩
/-- What is asked of the tokens: a word's text stands in a Word alone. -/
def WordT (T : List Tok) : Prop := ∀ t ∈ T, t.text = wDefault → t.kind = 1
theorem rd_cell {W0 w : World} {g E : Nat} {T : List Tok} (h : Rd W0 w g E T) : ∃ o cap, w.cell? ⟨g, 0, none⟩ = some (.slice o T.length cap) := by
  obtain ⟨_, _, v, h2, h3⟩ := h
  obtain ⟨o, cap, rfl, _, _⟩ := h3.slice
  exact ⟨o, cap, by rw [cell_of_row _ _ _ _ _ _ h2]; rfl⟩

set_option maxHeartbeats 8000000 in
theorem lines_any (W0 w : World) (g E : Nat) (T : List Tok) (hTl : T.length ≤ 5000) (hW : WordT T) (h : Rd W0 w g E T) :
    Calls Tryz.prog 44 #[.pointer (some ⟨g, 0, none⟩)] w fun e w' => Took W0 w g E (RawsOwn w.heap.size) ((takeL E (T.length + 1) [] T).map fun l => (l, ([] : List Tok))) e w' := by
  have CP : Hid (∀ W T, Rd W0 W g E T → Calls Tryz.prog 70 #[.pointer (some ⟨g, 0, none⟩)] W fun e w' => e = .returned (.agg (encT (hd E T))) ∧ Below W.heap.size W w') := fun W T h => peek_any W0 W g E T h
  have CK : Hid (∀ W T, Rd W0 W g E T → Calls Tryz.prog 71 #[.pointer (some ⟨g, 0, none⟩), .int .i64 7] W fun e w' => Took W0 W g E (fun _ t v => v = .agg (encT t)) (takeK E 7 T) e w') := fun W T h => take_any W0 W g E 7 (by decide) T h
  have CL : Hid (∀ W t T, (t :: T).length ≤ 5000 → (t.text = wDefault → t.kind = 1) → Rd W0 W g E (t :: T) → Calls Tryz.prog 72 #[.pointer (some ⟨g, 0, none⟩)] W fun e w' => Took W0 W g E (RawR W.heap.size) (lineT E (t :: T)) e w') := fun W t T hl hw h => line_any W0 W g E t T hl hw h
  have hgl := h.size
  have H : Hid (Rd W0 w g E T) := h
  obtain ⟨A, hA⟩ : ∃ A, A = takeL E (T.length + 1) [] T := ⟨_, rfl⟩
  rw [← hA]
  have HA0 : Hid (A = takeL E (T.length + 1) [] T) := hA
  have HW0 : Hid (WordT T) := hW
  clear h hA hW
  go_enter Tryz.func44, Tryz.ntmps44
  go_wp2_with fail
  go_loopw [3] (fun out wr => ∃ (f : Nat) (had : List Raw) (T1 : List Tok), T1.length < f ∧ had.length ≤ 64 ∧ T1.length ≤ 5000 ∧ Hid (WordT T1) ∧ Hid (A = takeL E f had T1) ∧ w.grownBy wr (some g) ∧ Rd W0 wr g E T1 ∧ RawsOwn w.heap.size wr had out) (fun _ wr => restN wr g)
  case atStart => exact ⟨T.length + 1, [], T, by omega, by simp, hTl, HW0, HA0, gb_refl _ _, H.out, NOwn.nil _ _ _ _ _⟩
  case round =>
    obtain ⟨f, had, T1, hf, h64, hl, HW, HA, hg, R1, hown⟩ := hrel
    obtain ⟨o3, cap3, rfl⟩ : ∃ o cap, u3 = .slice o had.length cap := by
      obtain ⟨P, hP, hP2, _⟩ := hown
      obtain ⟨o, cap, e⟩ := gown_slice hP2
      exact ⟨o, cap, by rw [e, ← hP, List.length_map]⟩
    have OWN : Hid (RawsOwn w.heap.size wr had (.slice o3 had.length cap3)) := hown
    have HG : Hid (w.grownBy wr (some g)) := hg
    have HR : Hid (Rd W0 wr g E T1) := R1
    obtain ⟨o, cap, c0⟩ := rd_cell R1
    have HRest : Hid (restN wr g = T1.length) := rest_is R1
    clear hown hg R1 HA0 HW0
    cases T1 with
    | nil =>
      have HA2 : Hid (A = .ok had) := by
        show _ = _
        rw [HA.out]
        cases f with
        | zero => rfl
        | succ f => rfl
      simp only [List.length_nil] at c0
      clear HA
      go_wp2_with fail
      go_ret
      rw [HA2.out]
      exact ⟨HG.out, ⟨_, rfl, OWN.out⟩, HR.out⟩
    | cons t T2 =>
      obtain ⟨f', rfl⟩ : ∃ f', f = f' + 1 := ⟨f - 1, by omega⟩
      simp only [List.length_cons] at c0 hf hl
      have hpos : (0 : Int) < (T2.length : Int) + 1 := by omega
      have HRest2 : Hid (restN wr g = T2.length + 1) := HRest.out
      clear HRest
      go_wp2_with fail
      refine (CP.out _ (t :: T2) HR.out).mono ?_
      rintro e w1 ⟨rfl, hb1⟩
      have hhd : hd E (t :: T2) = t := rfl
      rw [hhd]
      clear hhd c0
      have HR1 : Hid (Rd W0 (w1.alloc (.cells (encT t) 117)) g E (t :: T2)) := (HR.out.below hb1).alloc _
      have HG1 : Hid (w.grownBy (w1.alloc (.cells (encT t) 117)) (some g)) := gb_alloc (grown_trans HG.out (grown_below hb1)) _
      have OWN1 : Hid (RawsOwn w.heap.size (w1.alloc (.cells (encT t) 117)) had (.slice o3 had.length cap3)) := (OWN.out.below hb1).below ((Below.refl _ _).alloc (Nat.le_refl _) _)
      obtain ⟨t0, t1, _, _⟩ := tok_cells (heap_new w1 (.cells (encT t) 117) _ rfl)
      clear hb1
      by_cases hk7 : t.kind = 7
      · have hk' : ((t.kind : Int) == 7) = true := by simp; omega
        have HA2 : Hid (A = takeL E f' had T2) := by show _ = _; rw [HA.out, takeL, if_pos hk7]
        have HK : Hid (takeK E 7 (t :: T2) = .ok (t, T2)) := if_pos hk7
        have HW2 : Hid (WordT T2) := fun u hu => HW.out u (by simp [hu])
        clear hk7 HA
        go_wp2_with (first
          | (refine wl_storeE (E := TokE) TokOk rfl _ _ rfl w1.heap.size (encT t) (tv_fits _ _ _ _) rfl rfl _ (heap_new _ _ _ rfl) rfl _ (setRow_new _ _ _ _ _ rfl) ?_))
        refine (CK.out _ (t :: T2) HR1.out).mono ?_
        rw [HK.out]
        rintro e w2 ⟨hg2, ⟨v, rfl, rfl⟩, R2⟩
        have HR2 : Hid (Rd W0 w2 g E T2) := R2
        have HG2 : Hid (w.grownBy w2 (some g)) := grown_trans HG1.out hg2
        have OWN2 : Hid (RawsOwn w.heap.size w2 had (.slice o3 had.length cap3)) := OWN1.out.by hg2 hgl.2
        clear hg2 R2 t0 t1
        go_wp2_with fail
        go_roundw
        case rel => exact ⟨f', had, T2, by omega, h64, by omega, HW2, HA2, HG2.out, HR2.out, OWN2.out⟩
        case measure => rw [HRest2.out, rest_is HR2.out]; omega
      · have hk' : ((t.kind : Int) == 7) = false := by simp; omega
        by_cases hm : had.length = 64
        · have HA2 : Hid (A = .error (4, t.pos)) := by show _ = _; rw [HA.out, takeL, if_neg hk7, if_pos hm]
          have hm' : ((had.length : Int) == 64) = true := by simp; omega
          clear hk7 hm HA
          go_wp2_with (first
            | (refine wl_storeE (E := TokE) TokOk rfl _ _ rfl w1.heap.size (encT t) (tv_fits _ _ _ _) rfl rfl _ (heap_new _ _ _ rfl) rfl _ (setRow_new _ _ _ _ _ rfl) ?_))
          rw [HA2.out]
          exact ⟨rfl, HG1.out, rfl⟩
        · have HA2 : Hid (A = (takeR E (t :: T2)).bind fun x => takeL E f' (had ++ [x.1]) x.2) := by show _ = _; rw [HA.out, takeL, if_neg hk7, if_neg hm]
          have hm' : ((had.length : Int) == 64) = false := by simp; omega
          have hm2 : had.length + 1 ≤ 64 := by omega
          have HWt : Hid (t.text = wDefault → t.kind = 1) := HW.out t (by simp)
          clear hk7 hm HA
          go_wp2_with (first
            | (refine wl_storeE (E := TokE) TokOk rfl _ _ rfl w1.heap.size (encT t) (tv_fits _ _ _ _) rfl rfl _ (heap_new _ _ _ rfl) rfl _ (setRow_new _ _ _ _ _ rfl) ?_))
          refine (CL.out _ t T2 (by simp; omega) HWt.out HR1.out).mono ?_
          cases hL : lineT E (t :: T2) with
          | error x =>
            obtain ⟨c, q⟩ := x
            have HA3 : Hid (A = .error (c, q)) := by show _ = _; rw [HA2.out, takeR_line, hL]; rfl
            clear hL HA2
            rintro e w2 ⟨hg2, rfl⟩
            go_wp2_with fail
            rw [HA3.out]
            exact ⟨rfl, grown_trans HG1.out hg2, rfl⟩
          | ok x =>
            obtain ⟨x, T3⟩ := x
            obtain ⟨hlen, A3, hT3⟩ := line_len hL
            simp only [List.length_cons] at hlen
            have HA3 : Hid (A = ((takeE T3).map fun u => (x, u)).bind fun x => takeL E f' (had ++ [x.1]) x.2) := by show _ = _; rw [HA2.out, takeR_line, hL]; rfl
            have HW3 : Hid (WordT T3) := fun u hu => HW.out u (by rw [hT3]; simp [hu])
            clear hL HA2 hT3
            rintro e w2 ⟨hg2, ⟨v, rfl, u, rfl, hcl2⟩, R2⟩
            have z1 := HG1.out.size
            have HR2 : Hid (Rd W0 w2 g E T3) := R2
            have HG2 : Hid (w.grownBy w2 (some g)) := grown_trans HG1.out hg2
            have OWN2 : Hid (RawsOwn w.heap.size w2 had (.slice o3 had.length cap3)) := OWN1.out.by hg2 hgl.2
            have HC2 : Hid (ClasOwn w.heap.size w2 x.clauses u) := clas_base hcl2 z1
            obtain ⟨o5, n5, m5, rfl⟩ := clas_slice hcl2
            clear hg2 R2 t0 t1 hcl2
            go_wp2_with (first
              | (refine wl_buildE (E := RawE) RawOk rfl _ rfl (rawV x (.slice o5 n5 m5)) rfl rfl ?_)
              | (at_builtin; refine of_stopT ?_))
            unfold StopT
            obtain ⟨P, hP1, hP2, hP3⟩ := OWN2.out
            have HO6 : Hid ((w2.alloc (.cells (rawV x (.slice o5 n5 m5)) 92)).ownsRow w.heap.size 92 8 (.slice o3 had.length cap3) P.length (gcells (fun p : Raw × Value => rawV p.1 p.2) P)) := hP2.alloc _
            have hPl : P.length = had.length := by rw [← hP1, List.length_map]
            have z5 := HG2.out.size
            refine wl_appendE (E := RawE) RawOk (fun p : Raw × Value => rawV p.1 p.2) rfl _ _ rfl w.heap.size _ P (x, .slice o5 n5 m5) (raw_fits _ _ ⟨_, _, _, rfl⟩) rfl HO6.out _ 1 rfl (heap_new _ _ _ rfl) (by omega) (by simp; omega) ?_
            intro v' w6 hown6 hgr6 _
            have alc : Below w2.heap.size w2 (w2.alloc (.cells (rawV x (.slice o5 n5 m5)) 92)) := (Below.refl _ _).alloc (Nat.le_refl _) _
            have HOWN6 : Hid (RawsOwn w.heap.size w6 (had ++ [x]) v') := NOwn.snoc (E := RawE) (row := rawV) (R := fun w' x u => ClasOwn w.heap.size w' x.clauses u) hP1 hown6 (fun p hp => clas_grown HO6.out hgr6 ((hP3 p hp).below alc)) (clas_grown HO6.out hgr6 (HC2.out.below alc))
            have HG6 : Hid (w.grownBy w6 (some g)) := gb_own (gb_alloc HG2.out _) hgr6 fun k hk => (HO6.out.lt k hk).1
            have R6 : Rd W0 w6 g E T3 := rd_own (HR2.out.alloc _) hgr6 fun k hk => Nat.lt_of_lt_of_le hgl.2 (HO6.out.lt k hk).1
            have HR6 : Hid (Rd W0 w6 g E T3) := R6
            obtain ⟨o7, cap7, c7⟩ := rd_cell R6
            obtain ⟨o6, cap6, rfl⟩ := gown_slice hown6
            clear hown6 hgr6 hP1 hP2 hP3 hPl HO6 alc R6
            simp only [Act.put, List.setIfInBounds_toArray, List.set_cons_succ, List.set_cons_zero]
            cases T3 with
            | nil =>
              have HA4 : Hid (A = takeL E f' (had ++ [x]) []) := HA3.out
              simp only [List.length_nil] at c7
              clear HA3
              go_wp2_with fail
              go_roundw
              case rel => exact ⟨f', had ++ [x], [], by simp; omega, by simp; omega, by simp, HW3, HA4, HG6.out, HR6.out, HOWN6.out⟩
              case measure => rw [HRest2.out, rest_is HR6.out]; simp
            | cons t7 T4 =>
              simp only [List.length_cons] at c7 hlen
              have hpos7 : (0 : Int) < (T4.length : Int) + 1 := by omega
              go_wp2_with fail
              refine (CK.out _ (t7 :: T4) HR6.out).mono ?_
              by_cases hk8 : t7.kind = 7
              · obtain ⟨f2, rfl⟩ : ∃ f2, f' = f2 + 1 := ⟨f' - 1, by omega⟩
                have HK : Hid (takeK E 7 (t7 :: T4) = .ok (t7, T4)) := if_pos hk8
                have HA4 : Hid (A = takeL E f2 (had ++ [x]) T4) := by
                  show _ = _
                  have hE : takeE (t7 :: T4) = .ok (t7 :: T4) := if_pos hk8
                  rw [HA3.out, hE]
                  show takeL E (f2 + 1) (had ++ [x]) (t7 :: T4) = _
                  rw [takeL, if_pos hk8]
                have HW4 : Hid (WordT T4) := fun u hu => HW3.out u (by simp [hu])
                rw [HK.out]
                clear hk8 HA3
                rintro e w8 ⟨hg8, ⟨v, rfl, rfl⟩, R8⟩
                have HR8 : Hid (Rd W0 w8 g E T4) := R8
                have HG8 : Hid (w.grownBy w8 (some g)) := grown_trans HG6.out hg8
                have OWN8 := HOWN6.out.by hg8 hgl.2
                have HOWN8 : Hid (RawsOwn w.heap.size w8 (had ++ [x]) (.slice o6 (P ++ [(x, Value.slice o5 n5 m5)]).length cap6)) := OWN8
                clear hg8 R8 OWN8 c7
                go_wp2_with fail
                go_roundw
                case rel => exact ⟨f2, had ++ [x], T4, by omega, by simp; omega, by omega, HW4, HA4, HG8.out, HR8.out, by have := HOWN8.out; simpa using this⟩
                case measure => rw [HRest2.out, rest_is HR8.out]; omega
              · have HK : Hid (takeK E 7 (t7 :: T4) = .error (8, t7.pos)) := if_neg hk8
                have HA4 : Hid (A = .error (8, t7.pos)) := by
                  show _ = _
                  have hE : takeE (t7 :: T4) = .error (8, t7.pos) := if_neg hk8
                  rw [HA3.out, hE]
                  rfl
                rw [HK.out]
                clear hk8 HA3
                rintro e w8 ⟨hg8, rfl⟩
                go_wp2_with fail
                rw [HA4.out]
                exact ⟨rfl, grown_trans HG6.out hg8, rfl⟩
end Go.Proofs.YthddlchkbnmcaaaGreatDoor
