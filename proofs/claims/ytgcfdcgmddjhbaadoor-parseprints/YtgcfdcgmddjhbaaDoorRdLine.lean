import Derived.Test.YtgcfdcgmddjhbaaDoorRdClauses
namespace Go.Proofs.YtgcfdcgmddjhbaaDoor
open Go Go.RowKit
set_option maxRecDepth 20000

/-- A line up to what ends it. -/
def lineT (E : Nat) (T : List Tok) : Res (Raw × List Tok) :=
  (takeH E T).bind fun x => (takeK E 6 x.2).bind fun y => (takeA E y.2).map fun z => (⟨(posOf E T : Int), x.1.1, x.1.2.1, x.1.2.2, z.1.1, z.1.2⟩, z.2)
theorem takeR_line (E : Nat) (T : List Tok) : takeR E T = (lineT E T).bind fun x => (takeE x.2).map fun u => (x.1, u) := by
  unfold takeR lineT
  cases takeH E T with
  | error x => rfl
  | ok x =>
    show (takeK E 6 x.2).bind _ = ((takeK E 6 x.2).bind _).bind _
    cases takeK E 6 x.2 with
    | error y => rfl
    | ok y =>
      show (takeA E y.2).bind _ = ((takeA E y.2).map _).bind _
      cases takeA E y.2 with
      | error z => rfl
      | ok z => rfl
def RawR (B : Nat) (w : World) (x : Raw) (v : Value) : Prop := ∃ u, v = .agg (rawV x u) ∧ ClasOwn B w x.clauses u
theorem raw_fits (x : Raw) (u : Value) (hu : ∃ o n k, u = .slice o n k) : Fits RawE (rawV x u) := by
  obtain ⟨o, n, k, rfl⟩ := hu
  exact ⟨rfl, by simp [rawV, Value.oneCell']⟩
theorem store_fig (W : World) (p off : Nat) (cs : Array Value) (ty : TypeId) (hp : W.heap[p]? = some (.cells cs ty (0, 0))) (ho : off + 2 ≤ cs.size) (f : Fig) :
    (storeCells ⟨p, off, none⟩ (figV f).toList).run Tryd.prog W = .ok () ((W.setCell ⟨p, off, none⟩ (.int .i64 f.n)).setCell ⟨p, off + 1, none⟩ (.int .i64 f.pos)) := by
  obtain ⟨x, hx⟩ : ∃ x, W.cell? ⟨p, off, none⟩ = some x := ⟨cs[off], by rw [cell_of_row _ _ _ _ _ _ hp, Array.getElem?_eq_getElem (by omega)]⟩
  have hz : W.frozen? ⟨p, off, none⟩ = false := tc_frozen hp rfl
  have hp2 := tc_row (k := off) hp (.int .i64 f.n)
  obtain ⟨y, hy⟩ : ∃ y, (W.setCell ⟨p, off, none⟩ (.int .i64 f.n)).cell? ⟨p, off + 1, none⟩ = some y := ⟨_, by rw [cell_of_row _ _ _ _ _ _ hp2, Array.getElem?_setIfInBounds_ne (by omega), Array.getElem?_eq_getElem (by omega)]⟩
  have hz2 : (W.setCell ⟨p, off, none⟩ (.int .i64 f.n)).frozen? ⟨p, off + 1, none⟩ = false := tc_frozen hp2 rfl
  simp [figV, go_sem, hx, hz, hy, hz2]
theorem clas_set {w : World} {B : Nat} {C : List Cla} {v : Value} (h : ClasOwn B w C v) {p i : Nat} {cs : Array Value} {fr : Nat × Nat} (hp : w.heap[p]? = some (.cells cs 28 fr)) (y : Value) : ClasOwn B (w.setCell ⟨p, i, none⟩ y) C v := by
  obtain ⟨P, h1, h2, h3⟩ := h
  exact ⟨P, h1, own_set h2 hp (by decide) y, fun q hq => own_set (h3 q hq) hp (by decide) y⟩
theorem clas_setRow {w : World} {B : Nat} {C : List Cla} {v : Value} (h : ClasOwn B w C v) {p : Nat} {cs : Array Value} {fr : Nat × Nat} (hp : w.heap[p]? = some (.cells cs 28 fr)) (ys : Array Value) : ClasOwn B (w.setRow p ys) C v := by
  obtain ⟨P, h1, h2, h3⟩ := h
  exact ⟨P, h1, own_setRow h2 hp (by decide) ys, fun q hq => own_setRow (h3 q hq) hp (by decide) ys⟩
theorem clas_base {w : World} {B B' : Nat} {C : List Cla} {v : Value} (h : ClasOwn B w C v) (hB : B' ≤ B) : ClasOwn B' w C v := by
  obtain ⟨P, h1, h2, h3⟩ := h
  exact ⟨P, h1, gown_base h2 hB, fun q hq => gown_base (h3 q hq) hB⟩
theorem clas_slice {w : World} {B : Nat} {C : List Cla} {v : Value} (h : ClasOwn B w C v) : ∃ o n m, v = .slice o n m := by
  obtain ⟨P, _, h2, _⟩ := h
  obtain ⟨o, cap, e⟩ := gown_slice h2
  exact ⟨o, _, cap, e⟩
theorem clas_nil (w : World) (B : Nat) : ClasOwn B w [] (.slice none 0 0) := NOwn.nil _ _ _ _ _

set_option maxHeartbeats 8000000 in
set_option maxRecDepth 10000 in
theorem line_any (W0 w : World) (g E : Nat) (t : Tok) (T : List Tok) (hTl : (t :: T).length ≤ 5000) (hw : t.text = wDefault → t.kind = 1) (h : Rd W0 w g E (t :: T)) :
    Calls Tryd.prog 19 #[.pointer (some ⟨g, 0, none⟩)] w fun e w' => Took W0 w g E (RawR w.heap.size) (lineT E (t :: T)) e w' := by
  have CP : Hid (∀ W T, Rd W0 W g E T → Calls Tryd.prog 17 #[.pointer (some ⟨g, 0, none⟩)] W fun e w' => e = .returned (.agg (encT (hd E T))) ∧ Below W.heap.size W w') := fun W T h => peek_any W0 W g E T h
  have CF : Hid (∀ W T, Rd W0 W g E T → Calls Tryd.prog 27 #[.pointer (some ⟨g, 0, none⟩)] W fun e w' => Took W0 W g E (fun _ f v => v = .agg (figV f)) (takeF E T) e w') := fun W T h => figure_any W0 W g E T h
  have CK1 : Hid (∀ W T, Rd W0 W g E T → Calls Tryd.prog 18 #[.pointer (some ⟨g, 0, none⟩), .int .i64 1] W fun e w' => Took W0 W g E (fun _ t v => v = .agg (encT t)) (takeK E 1 T) e w') := fun W T h => take_any W0 W g E 1 (by decide) T h
  have CK6 : Hid (∀ W T, Rd W0 W g E T → Calls Tryd.prog 18 #[.pointer (some ⟨g, 0, none⟩), .int .i64 6] W fun e w' => Took W0 W g E (fun _ t v => v = .agg (encT t)) (takeK E 6 T) e w') := fun W T h => take_any W0 W g E 6 (by decide) T h
  have CC : Hid (∀ W T, T.length ≤ 5000 → Rd W0 W g E T → Calls Tryd.prog 28 #[.pointer (some ⟨g, 0, none⟩)] W fun e w' => Took W0 W g E (ClasOwn W.heap.size) (takeCs E T.length [] T) e w') := fun W T hl h => clauses_any W0 W g E T hl h
  have CA : Hid (∀ W T, Rd W0 W g E T → Calls Tryd.prog 29 #[.pointer (some ⟨g, 0, none⟩)] W fun e w' => Took W0 W g E (fun _ a v => ActV v a) (takeA E T) e w') := fun W T h => action_any W0 W g E T h
  have hgl := h.size
  have H : Hid (Rd W0 w g E (t :: T)) := h
  obtain ⟨A, hA⟩ : ∃ A, A = lineT E (t :: T) := ⟨_, rfl⟩
  rw [← hA]
  unfold lineT at hA
  have hwT : posOf E (t :: T) = t.pos := rfl
  rw [hwT] at hA
  clear h hwT
  go_enter Tryd.func19, Tryd.ntmps19
  go_wp2_with fail
  refine (CP.out _ (t :: T) (H.out.alloc _)).mono ?_
  rintro e w1 ⟨rfl, hb1⟩
  have B1 : Below w.heap.size w w1 := ((Below.refl _ _).alloc (Nat.le_refl _) _).trans (hb1.mono (by simp))
  have z1 : w.heap.size < w1.heap.size := by have := hb1.size; simp at this; omega
  have r0 : w1.heap[w.heap.size]? = some (.cells (rawV ⟨0, false, ⟨0, 0⟩, [], false, ⟨0, 0⟩⟩ (.slice none 0 0)) 28 (0, 0)) := (hb1.block _ (by simp)).trans (heap_new _ _ _ rfl)
  have HR1 : Hid (Rd W0 w1 g E (t :: T)) := H.out.below B1
  have HG1 : Hid (w.grownBy w1 (some g)) := grown_below B1
  have HR0 : Hid (w1.heap[w.heap.size]? = some (.cells (rawV ⟨0, false, ⟨0, 0⟩, [], false, ⟨0, 0⟩⟩ (.slice none 0 0)) 28 (0, 0))) := r0
  have q1 := tok_cells (heap_new w1 (.cells (encT t) 52) _ rfl)
  have q2 := fun x => tok_cells (heap_past _ x _ _ (heap_new w1 (.cells (encT t) 52) _ rfl))
  have t1 := q1.2.1
  have t2 := fun x => (q2 x).2.2.1
  clear q1 q2 hb1 B1 r0
  have hhd : hd E (t :: T) = t := rfl
  rw [hhd]
  clear hhd
  have LN : Hid (((w1.alloc (.cells (encT t) 52)).alloc (.cells (rawV ⟨(t.pos : Int), false, ⟨0, 0⟩, [], false, ⟨0, 0⟩⟩ (.slice none 0 0)) 28)).heap[w1.heap.size + 1]? = some (.cells (rawV ⟨(t.pos : Int), false, ⟨0, 0⟩, [], false, ⟨0, 0⟩⟩ (.slice none 0 0)) 28 (0, 0))) := heap_new _ _ _ (by simp)
  by_cases hd : t.text = wDefault
  · have e1 : (t.text == [100, 101, 102, 97, 117, 108, 116]) = true := by rw [hd]; rfl
    have hH : takeH E (t :: T) = .ok ((true, ⟨0, 0⟩, []), T) := if_pos ⟨hw hd, hd⟩
    have hK1 : takeK E 1 (t :: T) = .ok (t, T) := if_pos (hw hd)
    rw [hH] at hA
    have HA : Hid (A = (takeK E 6 T).bind fun y => (takeA E y.2).map fun z => (⟨(t.pos : Int), true, ⟨0, 0⟩, [], z.1.1, z.1.2⟩, z.2)) := hA
    clear hA hH hd hw
    go_wp2_with (first
      | (refine wl_storeE (E := TokE) TokOk rfl _ _ rfl w1.heap.size (encT t) (tv_fits _ _ _ _) rfl rfl _ (heap_new _ _ _ rfl) rfl _ (setRow_new _ _ _ _ _ rfl) ?_)
      | (refine wl_storeE (E := RawE) RawOk rfl _ _ rfl (w1.heap.size + 1) (rawV ⟨(t.pos : Int), false, ⟨0, 0⟩, [], false, ⟨0, 0⟩⟩ (.slice none 0 0)) (raw_fits _ _ ⟨_, _, _, rfl⟩) rfl rfl _ (heap_new _ _ _ (by simp)) rfl _ (setRow_new _ _ _ _ _ (by simp)) ?_))
    refine (CK1.out _ (t :: T) ((HR1.out.alloc _).alloc _)).mono ?_
    rw [hK1]
    clear hK1
    rintro e w2 ⟨hg2, ⟨v, rfl, rfl⟩, R2⟩
    have z2 : w1.heap.size + 2 ≤ w2.heap.size := by have := hg2.size; simp at this; omega
    have rP2 : w2.heap[w1.heap.size + 1]? = some (.cells (rawV ⟨(t.pos : Int), false, ⟨0, 0⟩, [], false, ⟨0, 0⟩⟩ (.slice none 0 0)) 28 (0, 0)) := (hg2.block _ (by simp) (by simp; omega)).trans LN.out
    have r02 : w2.heap[w.heap.size]? = some (.cells (rawV ⟨0, false, ⟨0, 0⟩, [], false, ⟨0, 0⟩⟩ (.slice none 0 0)) 28 (0, 0)) := (hg2.block _ (by simp; omega) (by simp; omega)).trans (heap_past _ _ _ _ (heap_past _ _ _ _ HR0.out))
    have c1 : w2.cell? ⟨w1.heap.size + 1, 1, none⟩ = some (.bool false) := by rw [cell_of_row _ _ _ _ _ _ rP2]; rfl
    have f1 : w2.frozen? ⟨w1.heap.size + 1, 1, none⟩ = false := tc_frozen rP2 rfl
    have K3 : Hid (Rd W0 (w2.setCell ⟨w1.heap.size + 1, 1, none⟩ (.bool true)) g E T ∧ w.grownBy (w2.setCell ⟨w1.heap.size + 1, 1, none⟩ (.bool true)) (some g) ∧ (w2.setCell ⟨w1.heap.size + 1, 1, none⟩ (.bool true)).heap[w1.heap.size + 1]? = some (.cells (rawV ⟨(t.pos : Int), true, ⟨0, 0⟩, [], false, ⟨0, 0⟩⟩ (.slice none 0 0)) 28 (0, 0)) ∧ (w2.setCell ⟨w1.heap.size + 1, 1, none⟩ (.bool true)).heap[w.heap.size]? = some (.cells (rawV ⟨0, false, ⟨0, 0⟩, [], false, ⟨0, 0⟩⟩ (.slice none 0 0)) 28 (0, 0)) ∧ ClasOwn w.heap.size (w2.setCell ⟨w1.heap.size + 1, 1, none⟩ (.bool true)) [] (.slice none 0 0)) :=
      ⟨rd_setCell R2 (by omega) (by omega) _ _, gb_setCell (grown_trans (gb_alloc (gb_alloc HG1.out _) _) hg2) (.inr (by omega)) _ _, tc_row rP2 _, (tc_far (by omega) _).trans r02, clas_nil _ _⟩
    clear hg2 R2 rP2 r02 LN HR1 HG1 HR0 t1 t2
    go_wp2_with fail
    refine (CK6.out _ T K3.out.1).mono ?_
    clear c1 f1
    obtain ⟨w3, hw3⟩ : ∃ w3, w3 = w2.setCell ⟨w1.heap.size + 1, 1, none⟩ (.bool true) := ⟨_, rfl⟩
    rw [← hw3] at K3 ⊢
    have z3 : w2.heap.size ≤ w3.heap.size := by rw [hw3, tc_size]; exact Nat.le_refl _
    clear hw3
    cases hK : takeK E 6 T with
    | error x =>
      obtain ⟨c, q⟩ := x
      rw [hK] at HA
      clear hK
      rintro e w4 ⟨hg4, rfl⟩
      go_wp2_with fail
      rw [HA.out]
      exact ⟨rfl, grown_trans K3.out.2.1 hg4, rfl⟩
    | ok x =>
      obtain ⟨t6, T3⟩ := x
      rw [hK] at HA
      clear hK
      rintro e w4 ⟨hg4, ⟨v, rfl, rfl⟩, R4⟩
      have z4 := hg4.size
      have K4 : Hid (Rd W0 w4 g E T3 ∧ w.grownBy w4 (some g) ∧ w4.heap[(w1.heap.size + 1)]? = some (.cells (rawV ⟨(t.pos : Int), true, ⟨0, 0⟩, [], false, ⟨0, 0⟩⟩ (.slice none 0 0)) 28 (0, 0)) ∧ w4.heap[w.heap.size]? = some (.cells (rawV ⟨0, false, ⟨0, 0⟩, [], false, ⟨0, 0⟩⟩ (.slice none 0 0)) 28 (0, 0)) ∧ ClasOwn w.heap.size w4 [] (.slice none 0 0)) :=
        ⟨R4, grown_trans K3.out.2.1 hg4, (hg4.block _ (by omega) (by simp; omega)).trans K3.out.2.2.1, (hg4.block _ (by omega) (by simp; omega)).trans K3.out.2.2.2.1, K3.out.2.2.2.2.by hg4 hgl.2⟩
      clear hg4 R4 K3
      go_wp2_with fail
      refine (CA.out _ T3 K4.out.1).mono ?_
      cases hAc : takeA E T3 with
      | error x =>
        obtain ⟨c, q⟩ := x
        have HA2 : Hid (A = .error (c, q)) := by show _ = _; rw [HA.out]; show (takeA E T3).map _ = _; rw [hAc]; rfl
        clear hAc HA
        rintro e w5 ⟨hg5, rfl⟩
        go_wp2_with fail
        rw [HA2.out]
        exact ⟨rfl, grown_trans K4.out.2.1 hg5, rfl⟩
      | ok x =>
        obtain ⟨⟨b, po⟩, T4⟩ := x
        have HA2 : Hid (A = .ok ((⟨(t.pos : Int), true, ⟨0, 0⟩, [], b, po⟩ : Raw), T4)) := by show _ = _; rw [HA.out]; show (takeA E T3).map _ = _; rw [hAc]; rfl
        clear hAc HA
        rintro e w5 ⟨hg5, ⟨v, rfl, hv⟩, R5⟩
        unfold ActV at hv
        subst hv
        have z5 := hg5.size
        have rP5 : w5.heap[(w1.heap.size + 1)]? = some (.cells (rawV ⟨(t.pos : Int), true, ⟨0, 0⟩, [], false, ⟨0, 0⟩⟩ (.slice none 0 0)) 28 (0, 0)) := (hg5.block _ (by omega) (by simp; omega)).trans K4.out.2.2.1
        have r05 : w5.heap[w.heap.size]? = some (.cells (rawV ⟨0, false, ⟨0, 0⟩, [], false, ⟨0, 0⟩⟩ (.slice none 0 0)) 28 (0, 0)) := (hg5.block _ (by omega) (by simp; omega)).trans K4.out.2.2.2.1
        have G5 : w.grownBy w5 (some g) := grown_trans K4.out.2.1 hg5
        have O5 := K4.out.2.2.2.2.by hg5 hgl.2
        have c5 : w5.cell? ⟨(w1.heap.size + 1), 5, none⟩ = some (.bool false) := by rw [cell_of_row _ _ _ _ _ _ rP5]; rfl
        have f5 : w5.frozen? ⟨(w1.heap.size + 1), 5, none⟩ = false := tc_frozen rP5 rfl
        have rP6 := tc_row (k := 5) rP5 (.bool b)
        have hst := store_fig (w5.setCell ⟨(w1.heap.size + 1), 5, none⟩ (.bool b)) (w1.heap.size + 1) 6 _ _ rP6 (by simp [rawV]) po
        have hex0 : ∀ W, (Instr.extract (.tuple #[.bool b, .agg (figV po)]) 0).run Tryd.prog W = .ok (.bool b) W := fun W => by kernel_rfl
        have hex1 : ∀ W, (Instr.extract (.tuple #[.bool b, .agg (figV po)]) 1).run Tryd.prog W = .ok (.agg (figV po)) W := fun W => by kernel_rfl
        have rP8 : Hid ((((w5.setCell ⟨(w1.heap.size + 1), 5, none⟩ (.bool b)).setCell ⟨(w1.heap.size + 1), 6, none⟩ (.int .i64 po.n)).setCell ⟨(w1.heap.size + 1), 6 + 1, none⟩ (.int .i64 po.pos)).heap[(w1.heap.size + 1)]? = some (.cells (rawV ⟨(t.pos : Int), true, ⟨0, 0⟩, [], b, po⟩ (.slice none 0 0)) 28 (0, 0))) := tc_row (tc_row rP6 _) _
        have r08 : Hid ((((w5.setCell ⟨(w1.heap.size + 1), 5, none⟩ (.bool b)).setCell ⟨(w1.heap.size + 1), 6, none⟩ (.int .i64 po.n)).setCell ⟨(w1.heap.size + 1), 6 + 1, none⟩ (.int .i64 po.pos)).heap[w.heap.size]? = some (.cells (rawV ⟨0, false, ⟨0, 0⟩, [], false, ⟨0, 0⟩⟩ (.slice none 0 0)) 28 (0, 0))) := (tc_far (by omega) _).trans ((tc_far (by omega) _).trans ((tc_far (by omega) _).trans r05))
        have O8 : Hid (ClasOwn w.heap.size (((w5.setCell ⟨(w1.heap.size + 1), 5, none⟩ (.bool b)).setCell ⟨(w1.heap.size + 1), 6, none⟩ (.int .i64 po.n)).setCell ⟨(w1.heap.size + 1), 6 + 1, none⟩ (.int .i64 po.pos)) [] (.slice none 0 0)) := clas_set (clas_set (clas_set O5 rP5 _) rP6 _) (tc_row rP6 _) _
        have G8 : Hid (w.grownBy (((w5.setCell ⟨(w1.heap.size + 1), 5, none⟩ (.bool b)).setCell ⟨(w1.heap.size + 1), 6, none⟩ (.int .i64 po.n)).setCell ⟨(w1.heap.size + 1), 6 + 1, none⟩ (.int .i64 po.pos)) (some g)) := gb_setCell (gb_setCell (gb_setCell G5 (.inr (by omega)) _ _) (.inr (by omega)) _ _) (.inr (by omega)) _ _
        have R8 : Hid (Rd W0 (((w5.setCell ⟨(w1.heap.size + 1), 5, none⟩ (.bool b)).setCell ⟨(w1.heap.size + 1), 6, none⟩ (.int .i64 po.n)).setCell ⟨(w1.heap.size + 1), 6 + 1, none⟩ (.int .i64 po.pos)) g E T4) := rd_setCell (rd_setCell (rd_setCell R5 (by omega) (by omega) _ _) (by omega) (by omega) _ _) (by omega) (by omega) _ _
        clear rP5 r05 rP6 G5 O5 R5 hg5 K4
        go_wp2_with (first
          | (refine wl_loadE (E := RawE) RawOk rfl _ rfl (w1.heap.size + 1) 0 rfl _ _ _ (rawV ⟨(t.pos : Int), true, ⟨0, 0⟩, [], b, po⟩ (.slice none 0 0)) rfl rP8.out (own_cells _ _) ?_)
          | (refine wl_storeE (E := RawE) RawOk rfl _ _ rfl w.heap.size (rawV ⟨(t.pos : Int), true, ⟨0, 0⟩, [], b, po⟩ (.slice none 0 0)) (raw_fits _ _ ⟨_, _, _, rfl⟩) rfl rfl _ r08.out rfl _ rfl ?_))
        refine retE (E := RawE) RawOk rfl rfl w.heap.size rfl (rawV ⟨(t.pos : Int), true, ⟨0, 0⟩, [], b, po⟩ (.slice none 0 0)) rfl (setRow_heap _ _ _ _ _ _ r08.out) ?_
        rw [HA2.out]
        exact ⟨gb_setRow G8.out (.inr (Nat.le_refl _)) _, ⟨_, rfl, _, rfl, clas_setRow O8.out r08.out _⟩, rd_setRow R8.out (by omega) (by omega) _⟩
  · have e1 : (t.text == [100, 101, 102, 97, 117, 108, 116]) = false := by rw [beq_eq_false_iff_ne]; exact hd
    have hH : takeH E (t :: T) = (takeF E (t :: T)).bind fun x => (takeCs E x.2.length [] x.2).map fun y => ((false, x.1, y.1), y.2) := if_neg fun hq => hd hq.2
    rw [hH] at hA
    clear hH hd hw
    go_wp2_with (first
      | (refine wl_storeE (E := TokE) TokOk rfl _ _ rfl w1.heap.size (encT t) (tv_fits _ _ _ _) rfl rfl _ (heap_new _ _ _ rfl) rfl _ (setRow_new _ _ _ _ _ rfl) ?_)
      | (refine wl_storeE (E := RawE) RawOk rfl _ _ rfl (w1.heap.size + 1) (rawV ⟨(t.pos : Int), false, ⟨0, 0⟩, [], false, ⟨0, 0⟩⟩ (.slice none 0 0)) (raw_fits _ _ ⟨_, _, _, rfl⟩) rfl rfl _ (heap_new _ _ _ (by simp)) rfl _ (setRow_new _ _ _ _ _ (by simp)) ?_))
    refine (CF.out _ (t :: T) ((HR1.out.alloc _).alloc _)).mono ?_
    cases hF : takeF E (t :: T) with
    | error x =>
      obtain ⟨c, q⟩ := x
      have HA : Hid (A = .error (c, q)) := by show _ = _; rw [hA, hF]; rfl
      clear hA hF
      rintro e w2 ⟨hg2, rfl⟩
      go_wp2_with fail
      rw [HA.out]
      exact ⟨rfl, grown_trans (gb_alloc (gb_alloc HG1.out _) _) hg2, rfl⟩
    | ok x =>
      obtain ⟨pr, T1⟩ := x
      have hT1 : T1.length ≤ 5000 := Nat.le_trans (eats_F hF).len hTl
      rw [hF] at hA
      have HA0 : Hid (A = ((takeCs E T1.length [] T1).map fun y => ((false, pr, y.1), y.2)).bind fun x => (takeK E 6 x.2).bind fun y => (takeA E y.2).map fun z => (⟨(t.pos : Int), x.1.1, x.1.2.1, x.1.2.2, z.1.1, z.1.2⟩, z.2)) := hA
      clear hA hF
      rintro e w2 ⟨hg2, ⟨v, rfl, rfl⟩, R2⟩
      have z2 : w1.heap.size + 2 ≤ w2.heap.size := by have := hg2.size; simp at this; omega
      have rP2 : w2.heap[w1.heap.size + 1]? = some (.cells (rawV ⟨(t.pos : Int), false, ⟨0, 0⟩, [], false, ⟨0, 0⟩⟩ (.slice none 0 0)) 28 (0, 0)) := (hg2.block _ (by simp) (by simp; omega)).trans LN.out
      have r02 : w2.heap[w.heap.size]? = some (.cells (rawV ⟨0, false, ⟨0, 0⟩, [], false, ⟨0, 0⟩⟩ (.slice none 0 0)) 28 (0, 0)) := (hg2.block _ (by simp; omega) (by simp; omega)).trans (heap_past _ _ _ _ (heap_past _ _ _ _ HR0.out))
      have hst := store_fig w2 (w1.heap.size + 1) 2 _ _ rP2 (by simp [rawV]) pr
      have K2 : Hid (Rd W0 ((w2.setCell ⟨(w1.heap.size + 1), 2, none⟩ (.int .i64 pr.n)).setCell ⟨(w1.heap.size + 1), 2 + 1, none⟩ (.int .i64 pr.pos)) g E T1 ∧ w.grownBy ((w2.setCell ⟨(w1.heap.size + 1), 2, none⟩ (.int .i64 pr.n)).setCell ⟨(w1.heap.size + 1), 2 + 1, none⟩ (.int .i64 pr.pos)) (some g) ∧ ((w2.setCell ⟨(w1.heap.size + 1), 2, none⟩ (.int .i64 pr.n)).setCell ⟨(w1.heap.size + 1), 2 + 1, none⟩ (.int .i64 pr.pos)).heap[(w1.heap.size + 1)]? = some (.cells (rawV ⟨(t.pos : Int), false, pr, [], false, ⟨0, 0⟩⟩ (.slice none 0 0)) 28 (0, 0)) ∧ ((w2.setCell ⟨(w1.heap.size + 1), 2, none⟩ (.int .i64 pr.n)).setCell ⟨(w1.heap.size + 1), 2 + 1, none⟩ (.int .i64 pr.pos)).heap[w.heap.size]? = some (.cells (rawV ⟨0, false, ⟨0, 0⟩, [], false, ⟨0, 0⟩⟩ (.slice none 0 0)) 28 (0, 0))) :=
        ⟨rd_setCell (rd_setCell R2 (by omega) (by omega) _ _) (by omega) (by omega) _ _, gb_setCell (gb_setCell (grown_trans (gb_alloc (gb_alloc HG1.out _) _) hg2) (.inr (by omega)) _ _) (.inr (by omega)) _ _, tc_row (tc_row rP2 _) _, (tc_far (by omega) _).trans ((tc_far (by omega) _).trans r02)⟩
      clear hg2 R2 rP2 r02 LN HR1 HG1 HR0 t1 t2
      go_wp2_with fail
      refine (CC.out _ T1 hT1 K2.out.1).mono ?_
      cases hC : takeCs E T1.length [] T1 with
      | error x =>
        obtain ⟨c, q⟩ := x
        have HA : Hid (A = .error (c, q)) := by show _ = _; rw [HA0.out, hC]; rfl
        clear hC HA0
        rintro e w3 ⟨hg3, rfl⟩
        go_wp2_with fail
        rw [HA.out]
        exact ⟨rfl, grown_trans K2.out.2.1 hg3, rfl⟩
      | ok x =>
        obtain ⟨C, T2⟩ := x
        have HA : Hid (A = (takeK E 6 T2).bind fun y => (takeA E y.2).map fun z => (⟨(t.pos : Int), false, pr, C, z.1.1, z.1.2⟩, z.2)) := by show _ = _; rw [HA0.out, hC]; rfl
        clear hC HA0 hst
        rintro e wc ⟨hgc, ⟨v, rfl, hclc⟩, Rc⟩
        have zc : w2.heap.size ≤ wc.heap.size := by have := hgc.size; rw [tc_size, tc_size] at this; exact this
        obtain ⟨o, n, m, rfl⟩ := clas_slice hclc
        have rPc : wc.heap[(w1.heap.size + 1)]? = some (.cells (rawV ⟨(t.pos : Int), false, pr, [], false, ⟨0, 0⟩⟩ (.slice none 0 0)) 28 (0, 0)) := (hgc.block _ (by rw [tc_size, tc_size]; omega) (by simp; omega)).trans K2.out.2.2.1
        have r0c : wc.heap[w.heap.size]? = some (.cells (rawV ⟨0, false, ⟨0, 0⟩, [], false, ⟨0, 0⟩⟩ (.slice none 0 0)) 28 (0, 0)) := (hgc.block _ (by rw [tc_size, tc_size]; omega) (by simp; omega)).trans K2.out.2.2.2
        have c4 : wc.cell? ⟨(w1.heap.size + 1), 4, none⟩ = some (.slice none 0 0) := by rw [cell_of_row _ _ _ _ _ _ rPc]; rfl
        have f4 : wc.frozen? ⟨(w1.heap.size + 1), 4, none⟩ = false := tc_frozen rPc rfl
        have K3 : Hid (Rd W0 (wc.setCell ⟨(w1.heap.size + 1), 4, none⟩ (.slice o n m)) g E T2 ∧ w.grownBy (wc.setCell ⟨(w1.heap.size + 1), 4, none⟩ (.slice o n m)) (some g) ∧ (wc.setCell ⟨(w1.heap.size + 1), 4, none⟩ (.slice o n m)).heap[(w1.heap.size + 1)]? = some (.cells (rawV ⟨(t.pos : Int), false, pr, C, false, ⟨0, 0⟩⟩ (.slice o n m)) 28 (0, 0)) ∧ (wc.setCell ⟨(w1.heap.size + 1), 4, none⟩ (.slice o n m)).heap[w.heap.size]? = some (.cells (rawV ⟨0, false, ⟨0, 0⟩, [], false, ⟨0, 0⟩⟩ (.slice none 0 0)) 28 (0, 0)) ∧ ClasOwn w.heap.size (wc.setCell ⟨(w1.heap.size + 1), 4, none⟩ (.slice o n m)) C (.slice o n m)) :=
          ⟨rd_setCell Rc (by omega) (by omega) _ _, gb_setCell (grown_trans K2.out.2.1 hgc) (.inr (by omega)) _ _, tc_row rPc _, (tc_far (by omega) _).trans r0c, clas_set (clas_base hclc (by rw [tc_size, tc_size]; omega)) rPc _⟩
        clear hgc hclc Rc rPc r0c K2
        go_wp2_with fail
        refine (CK6.out _ T2 K3.out.1).mono ?_
        clear c4 f4
        obtain ⟨w3, hw3⟩ : ∃ w3, w3 = wc.setCell ⟨(w1.heap.size + 1), 4, none⟩ (.slice o n m) := ⟨_, rfl⟩
        rw [← hw3] at K3 ⊢
        have z3 : wc.heap.size ≤ w3.heap.size := by rw [hw3, tc_size]; exact Nat.le_refl _
        clear hw3
        cases hK : takeK E 6 T2 with
        | error x =>
          obtain ⟨c, q⟩ := x
          rw [hK] at HA
          clear hK
          rintro e w4 ⟨hg4, rfl⟩
          go_wp2_with fail
          rw [HA.out]
          exact ⟨rfl, grown_trans K3.out.2.1 hg4, rfl⟩
        | ok x =>
          obtain ⟨t6, T3⟩ := x
          rw [hK] at HA
          clear hK
          rintro e w4 ⟨hg4, ⟨v, rfl, rfl⟩, R4⟩
          have z4 := hg4.size
          have K4 : Hid (Rd W0 w4 g E T3 ∧ w.grownBy w4 (some g) ∧ w4.heap[(w1.heap.size + 1)]? = some (.cells (rawV ⟨(t.pos : Int), false, pr, C, false, ⟨0, 0⟩⟩ (.slice o n m)) 28 (0, 0)) ∧ w4.heap[w.heap.size]? = some (.cells (rawV ⟨0, false, ⟨0, 0⟩, [], false, ⟨0, 0⟩⟩ (.slice none 0 0)) 28 (0, 0)) ∧ ClasOwn w.heap.size w4 C (.slice o n m)) :=
            ⟨R4, grown_trans K3.out.2.1 hg4, (hg4.block _ (by omega) (by simp; omega)).trans K3.out.2.2.1, (hg4.block _ (by omega) (by simp; omega)).trans K3.out.2.2.2.1, K3.out.2.2.2.2.by hg4 hgl.2⟩
          clear hg4 R4 K3
          go_wp2_with fail
          refine (CA.out _ T3 K4.out.1).mono ?_
          cases hAc : takeA E T3 with
          | error x =>
            obtain ⟨c, q⟩ := x
            have HA2 : Hid (A = .error (c, q)) := by show _ = _; rw [HA.out]; show (takeA E T3).map _ = _; rw [hAc]; rfl
            clear hAc HA
            rintro e w5 ⟨hg5, rfl⟩
            go_wp2_with fail
            rw [HA2.out]
            exact ⟨rfl, grown_trans K4.out.2.1 hg5, rfl⟩
          | ok x =>
            obtain ⟨⟨b, po⟩, T4⟩ := x
            have HA2 : Hid (A = .ok ((⟨(t.pos : Int), false, pr, C, b, po⟩ : Raw), T4)) := by show _ = _; rw [HA.out]; show (takeA E T3).map _ = _; rw [hAc]; rfl
            clear hAc HA
            rintro e w5 ⟨hg5, ⟨v, rfl, hv⟩, R5⟩
            unfold ActV at hv
            subst hv
            have z5 := hg5.size
            have rP5 : w5.heap[(w1.heap.size + 1)]? = some (.cells (rawV ⟨(t.pos : Int), false, pr, C, false, ⟨0, 0⟩⟩ (.slice o n m)) 28 (0, 0)) := (hg5.block _ (by omega) (by simp; omega)).trans K4.out.2.2.1
            have r05 : w5.heap[w.heap.size]? = some (.cells (rawV ⟨0, false, ⟨0, 0⟩, [], false, ⟨0, 0⟩⟩ (.slice none 0 0)) 28 (0, 0)) := (hg5.block _ (by omega) (by simp; omega)).trans K4.out.2.2.2.1
            have G5 : w.grownBy w5 (some g) := grown_trans K4.out.2.1 hg5
            have O5 := K4.out.2.2.2.2.by hg5 hgl.2
            have c5 : w5.cell? ⟨(w1.heap.size + 1), 5, none⟩ = some (.bool false) := by rw [cell_of_row _ _ _ _ _ _ rP5]; rfl
            have f5 : w5.frozen? ⟨(w1.heap.size + 1), 5, none⟩ = false := tc_frozen rP5 rfl
            have rP6 := tc_row (k := 5) rP5 (.bool b)
            have hst := store_fig (w5.setCell ⟨(w1.heap.size + 1), 5, none⟩ (.bool b)) (w1.heap.size + 1) 6 _ _ rP6 (by simp [rawV]) po
            have hex0 : ∀ W, (Instr.extract (.tuple #[.bool b, .agg (figV po)]) 0).run Tryd.prog W = .ok (.bool b) W := fun W => by kernel_rfl
            have hex1 : ∀ W, (Instr.extract (.tuple #[.bool b, .agg (figV po)]) 1).run Tryd.prog W = .ok (.agg (figV po)) W := fun W => by kernel_rfl
            have rP8 : Hid ((((w5.setCell ⟨(w1.heap.size + 1), 5, none⟩ (.bool b)).setCell ⟨(w1.heap.size + 1), 6, none⟩ (.int .i64 po.n)).setCell ⟨(w1.heap.size + 1), 6 + 1, none⟩ (.int .i64 po.pos)).heap[(w1.heap.size + 1)]? = some (.cells (rawV ⟨(t.pos : Int), false, pr, C, b, po⟩ (.slice o n m)) 28 (0, 0))) := tc_row (tc_row rP6 _) _
            have r08 : Hid ((((w5.setCell ⟨(w1.heap.size + 1), 5, none⟩ (.bool b)).setCell ⟨(w1.heap.size + 1), 6, none⟩ (.int .i64 po.n)).setCell ⟨(w1.heap.size + 1), 6 + 1, none⟩ (.int .i64 po.pos)).heap[w.heap.size]? = some (.cells (rawV ⟨0, false, ⟨0, 0⟩, [], false, ⟨0, 0⟩⟩ (.slice none 0 0)) 28 (0, 0))) := (tc_far (by omega) _).trans ((tc_far (by omega) _).trans ((tc_far (by omega) _).trans r05))
            have O8 : Hid (ClasOwn w.heap.size (((w5.setCell ⟨(w1.heap.size + 1), 5, none⟩ (.bool b)).setCell ⟨(w1.heap.size + 1), 6, none⟩ (.int .i64 po.n)).setCell ⟨(w1.heap.size + 1), 6 + 1, none⟩ (.int .i64 po.pos)) C (.slice o n m)) := clas_set (clas_set (clas_set O5 rP5 _) rP6 _) (tc_row rP6 _) _
            have G8 : Hid (w.grownBy (((w5.setCell ⟨(w1.heap.size + 1), 5, none⟩ (.bool b)).setCell ⟨(w1.heap.size + 1), 6, none⟩ (.int .i64 po.n)).setCell ⟨(w1.heap.size + 1), 6 + 1, none⟩ (.int .i64 po.pos)) (some g)) := gb_setCell (gb_setCell (gb_setCell G5 (.inr (by omega)) _ _) (.inr (by omega)) _ _) (.inr (by omega)) _ _
            have R8 : Hid (Rd W0 (((w5.setCell ⟨(w1.heap.size + 1), 5, none⟩ (.bool b)).setCell ⟨(w1.heap.size + 1), 6, none⟩ (.int .i64 po.n)).setCell ⟨(w1.heap.size + 1), 6 + 1, none⟩ (.int .i64 po.pos)) g E T4) := rd_setCell (rd_setCell (rd_setCell R5 (by omega) (by omega) _ _) (by omega) (by omega) _ _) (by omega) (by omega) _ _
            clear rP5 r05 rP6 G5 O5 R5 hg5 K4
            go_wp2_with (first
              | (refine wl_loadE (E := RawE) RawOk rfl _ rfl (w1.heap.size + 1) 0 rfl _ _ _ (rawV ⟨(t.pos : Int), false, pr, C, b, po⟩ (.slice o n m)) rfl rP8.out (own_cells _ _) ?_)
              | (refine wl_storeE (E := RawE) RawOk rfl _ _ rfl w.heap.size (rawV ⟨(t.pos : Int), false, pr, C, b, po⟩ (.slice o n m)) (raw_fits _ _ ⟨_, _, _, rfl⟩) rfl rfl _ r08.out rfl _ rfl ?_))
            refine retE (E := RawE) RawOk rfl rfl w.heap.size rfl (rawV ⟨(t.pos : Int), false, pr, C, b, po⟩ (.slice o n m)) rfl (setRow_heap _ _ _ _ _ _ r08.out) ?_
            rw [HA2.out]
            exact ⟨gb_setRow G8.out (.inr (Nat.le_refl _)) _, ⟨_, rfl, _, rfl, clas_setRow O8.out r08.out _⟩, rd_setRow R8.out (by omega) (by omega) _⟩
end Go.Proofs.YtgcfdcgmddjhbaaDoor
