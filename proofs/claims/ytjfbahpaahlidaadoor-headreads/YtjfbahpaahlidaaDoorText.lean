import Derived.Test.YtjfbahpaahlidaaDoorMake
import Derived.Laws.IdiomStrings
import Derived.Laws.AppendOwn
import Derived.Lib.LaidTab
namespace Go.Proofs.YtjfbahpaahlidaaDoor
open Go Go.RowKit

def partsF : List Int := [0, 1, 1, 1, 2, 1, 3, 1, 8, 2, 4, 1, 5, 1, 6, 1, 7, 1, 10, 2, 12, 1]
def P22 : Array Value := (partsF.map (Value.int .i64)).toArray
def pa (k : Nat) : Nat := (partsF.getD (2 * k) 0).toNat
def ps (k : Nat) : Nat := (partsF.getD (2 * k + 1) 0).toNat
def Parts (w : World) : Prop := ∀ k, k < 22 → w.cell? ⟨1, k, none⟩ = some (.int .i64 (partsF.getD k 0))
theorem Parts.later {w w' : World} (h : Parts w) {B : Nat} (hB : 1 < B) (hb : Below B w w') : Parts w' := fun k hk => by
  rw [hb.cell (p := ⟨1, k, none⟩) hB]; exact h k hk
def Pow (w : World) : Prop := Lib.TabIs Tryd.prog w "internal/strconv.uint64pow10" .u64 Lib.pow10Tab
theorem pow_global : Tryd.prog.globalNamed "internal/strconv.uint64pow10" = some 2 := by kernel_rfl
theorem Pow.later {w w' : World} (h : Pow w) {B : Nat} (hB : 2 < B) (hb : Below B w w') : Pow w' := var?_below hb pow_global hB h

theorem index61 (k : Nat) (hk : k < 11) (w : World) : (Instr.index 61 (.agg P22) (.int .i64 (k : Int))).run Tryd.prog w = .ok (.agg #[.int .i64 (pa k), .int .i64 (ps k)]) w := by
  rcases (show k = 0 ∨ k = 1 ∨ k = 2 ∨ k = 3 ∨ k = 4 ∨ k = 5 ∨ k = 6 ∨ k = 7 ∨ k = 8 ∨ k = 9 ∨ k = 10 by omega) with h | h | h | h | h | h | h | h | h | h | h <;> subst h <;> kernel_rfl
def signS : List UInt8 := [46, 46, 46, 58, 62, 46, 46, 46, 58, 47]
theorem index9 (k : Nat) (hk : k < 10) (w : World) : (Instr.index 9 (.string ⟨#[46, 46, 46, 58, 62, 46, 46, 46, 58, 47]⟩) (.int .i64 (k : Int))).run Tryd.prog w = .ok (.int .u8 ((signS.getD k 0).toNat : Int)) w := by
  rcases (show k = 0 ∨ k = 1 ∨ k = 2 ∨ k = 3 ∨ k = 4 ∨ k = 5 ∨ k = 6 ∨ k = 7 ∨ k = 8 ∨ k = 9 by omega) with h | h | h | h | h | h | h | h | h | h <;> subst h <;> kernel_rfl
theorem pa_ps (k : Nat) (hk : k < 11) : pa k + ps k ≤ 13 ∧ ps k ≤ 2 := by
  rcases (show k = 0 ∨ k = 1 ∨ k = 2 ∨ k = 3 ∨ k = 4 ∨ k = 5 ∨ k = 6 ∨ k = 7 ∨ k = 8 ∨ k = 9 ∨ k = 10 by omega) with h | h | h | h | h | h | h | h | h | h | h <;> subst h <;> decide

theorem run_loadVar_cells {P : Program} (w : World) (g : Nat) (ty : TypeId) (cs : List Value) (d : TypeDesc) (hc : ∀ j v, cs[j]? = some v → w.cell? ⟨g, j, none⟩ = some v)
    (hu : P.underlying ty = some d) (hd : (match d with | .struct _ | .array _ _ => true | _ => false) = true) (hi : (P.info? ty).map (·.size) = some cs.length) :
    (loadVar ty ⟨g, 0, none⟩).run P w = .ok (.agg cs.toArray) w := by
  have hl : (loadCells ⟨g, 0, none⟩ cs.length).run P w = .ok cs.toArray w :=
    run_loadCells_list (P := P) w ⟨g, 0, none⟩ cs (fun j v hv => by
      have hadd : (⟨g, 0, none⟩ : Addr).add j = ⟨g, j, none⟩ := by unfold Addr.add; split <;> simp_all
      rw [hadd]; exact hc j v hv)
  cases hq : P.info? ty with
  | none => simp [hq] at hi
  | some i =>
    have hs : i.size = cs.length := by simpa [hq] using hi
    have hagg : (isAgg ty).run P w = .ok true w := by
      unfold isAgg
      rw [Sem.run_bind, run_underlying hu w]
      cases d <;> simp_all
    simp [loadVar, Sem.run_bind, hagg, sizeOf, typeInfo, hq, hs, hl]

theorem wl_load61 {ops : Array Oper} {rest : List Oper} {o : Oper} {a : Act} {w : World} {Q : Exit → Act → World → Prop} (hgd : o.guard = none) (x : Operand) (ho : o.op = .load 61 x)
    (hx : a.eval x = .pointer (some ⟨1, 0, none⟩)) (hP : Parts w)
    (h : wpList Tryd.prog ops Q rest (a.put o.dst (.agg P22)) w) : wpList Tryd.prog ops Q (o :: rest) a w := by
  refine wpList_plain hgd fun K hK => ?_
  have hl := run_loadVar_cells (P := Tryd.prog) w 1 61 (partsF.map (Value.int .i64)) _ (fun j v hv => by
    have hj : j < 22 := by
      have := (List.getElem?_eq_some_iff.1 hv).1
      simpa [partsF] using this
    rw [hP j hj]
    rw [List.getElem?_map, List.getElem?_eq_getElem (show j < partsF.length from hj)] at hv
    simp only [Option.map_some, Option.some.injEq] at hv
    rw [← hv, List.getD, List.getElem?_eq_getElem (show j < partsF.length from hj)]; rfl) Tryd.underlying61 rfl (by kernel_rfl)
  unfold Oper.wp execOp
  simp only [ho, hx, Instr.loadAt, Instr.sureAddr, Sem.run_bind, Sem.run_pure, Result.andThen_ok, hl]
  exact hK _ _ h

theorem appendUint_any (B n u : Nat) (hu64 : u < 18446744073709551616) (sv : Value) (xs : List Value) (w : World) (hown : w.ownsRow B 5 1 sv n xs) (hBw : B ≤ w.heap.size) (hlim : n + 20 ≤ 140737488355328) (hpw : Pow w) :
    Calls Tryd.prog 34 #[sv, .int .u64 u, .int .i64 10] w fun e w' => ∃ v', e = .returned v' ∧ w'.ownsRow B 5 1 v' (n + (Lib.decDigits u).length) (xs ++ Lib.byteCells (Lib.decDigits u)) ∧ Below B w w' := by
  have H := Tryd.internal_strconv_AppendUint_10 B n u hu64 sv xs w hown hBw hlim hpw
  have HH : Hid (Calls Tryd.prog 39 #[sv, .int .u64 u, .int .i64 10] w fun e w' => ∃ v', e = .returned v' ∧ w'.ownsRow B 5 1 v' (n + (Lib.decDigits u).length) (xs ++ Lib.byteCells (Lib.decDigits u)) ∧ Below B w w' ∧ Lib.OthersKept 5 none w w') := H
  clear H hown hBw hlim hpw hu64
  go_enter Tryd.func34, Tryd.ntmps34
  go_wp2_with fail
  refine HH.out.mono ?_
  rintro e w' ⟨v', rfl, h1, h2, _⟩
  go_wp2_with fail
  go_ret
  exact ⟨v', rfl, h1, h2⟩

def numAt (L : List Int) (k : Nat) : Nat := (getN L (pa k) (ps k)).toNat
def txt (L : List Int) : Nat → List UInt8
  | 0 => []
  | k + 1 => txt L k ++ Lib.decDigits (numAt L k) ++ (if k < 10 then [signS.getD k 0] else [])

theorem getN_small (L : List Int) (hL : Byt L) (k : Nat) (hk : k < 11) : getN L (pa k) (ps k) = (numAt L k : Int) ∧ numAt L k < 65536 := by
  have h := getN_bd L hL (pa k) (ps k)
  have h2 := (pa_ps k hk).2
  have h3 : (256 : Int) ^ (ps k) ≤ 65536 := by
    rcases (show ps k = 0 ∨ ps k = 1 ∨ ps k = 2 by omega) with e | e | e <;> rw [e] <;> decide
  unfold numAt
  omega

theorem get_num (L : List Int) (hL : Byt L) (k : Nat) (hk : k < 11) (w : World) :
    Calls Tryd.prog 29 #[.agg (hv L), .int .i64 (pa k), .int .i64 (ps k)] w fun e w' => e = .returned (.int .u32 (numAt L k : Int)) ∧ w' = w.alloc (.cells (hv L) 26) := by
  rw [← (getN_small L hL k hk).1]
  exact get_any L hL (pa k) (ps k) w (pa_ps k hk).1 (by have := (pa_ps k hk).2; omega)

theorem dec_len (n : Nat) (h : n < 65536) : (Lib.decDigits n).length ≤ 5 := by
  by_cases h1 : n < 10
  · rw [Lib.decDigits, dif_pos h1]; simp
  rw [Lib.decDigits, dif_neg h1]
  by_cases h2 : n / 10 < 10
  · rw [Lib.decDigits, dif_pos h2]; simp
  rw [Lib.decDigits, dif_neg h2]
  by_cases h3 : n / 10 / 10 < 10
  · rw [Lib.decDigits, dif_pos h3]; simp
  rw [Lib.decDigits, dif_neg h3]
  by_cases h4 : n / 10 / 10 / 10 < 10
  · rw [Lib.decDigits, dif_pos h4]; simp
  rw [Lib.decDigits, dif_neg h4, Lib.decDigits, dif_pos (by omega)]
  simp

theorem info5 : ∃ i, Tryd.prog.info? 5 = some i ∧ i.zero = some (.int .u8 0) ∧ i.size = 1 ∧ i.bytes = 1 := by
  cases h : Tryd.prog.info? 5 with
  | none => exact absurd (show (Tryd.prog.info? 5).isSome = true by kernel_rfl) (by rw [h]; simp)
  | some i =>
    have h1 : (Tryd.prog.info? 5).map (fun i => (i.zero, i.size, i.bytes)) = some (some (.int .u8 0), 1, 1) := by kernel_rfl
    rw [h] at h1
    simp only [Option.map_some, Option.some.injEq, Prod.mk.injEq] at h1
    exact ⟨i, rfl, h1.1, h1.2.1, h1.2.2⟩

set_option maxHeartbeats 1000000 in
theorem text_any (L : List Int) (hL : Byt L) (w : World) (hP : Parts w) (hpw : Pow w) (hsz : 3 ≤ w.heap.size) :
    Calls Tryd.prog 24 #[.agg (hv L)] w fun e w' => e = .returned (.string ⟨(txt L 11).toArray⟩) ∧ Below w.heap.size w w' := by
  have hl := hL.1
  go_enter Tryd.func24, Tryd.ntmps24
  go_wp2_with (refine wl_load61 rfl _ rfl rfl (hP.later (B := w.heap.size) (by omega) ((Below.refl _ _).alloc (Nat.le_refl _) _)) ?_)
  go_loopw [3, 7] (fun v i wr => ∃ k : Nat, k ≤ 11 ∧ i = .int .i64 k ∧ (txt L k).length ≤ 6 * k ∧ wr.ownsRow (w.heap.size + 1) 5 1 v (txt L k).length (Lib.byteCells (txt L k)) ∧ wr.heap[w.heap.size]? = some (.cells (hv L) 26 (0, 0)) ∧ Below w.heap.size w wr) (fun _ i _ => 11 - (intOf i).toNat)
  case atStart =>
    exact ⟨0, Nat.zero_le _, rfl, by simp [txt], ⟨rfl, Or.inl ⟨rfl, rfl⟩⟩, heap_new _ _ _ rfl, (Below.refl _ _).alloc (Nat.le_refl _) _⟩
  case round =>
    obtain ⟨k, hk, rfl, hlen, hown, hg, hbw⟩ := hrel
    have hzw := (Array.getElem?_eq_some_iff.1 hg).1
    by_cases hlt : k < 11
    · have hi := index61 k hlt
      have hnb := (getN_small L hL k hlt).2
      have hgn := get_num L hL k hlt
      go_wp2_with (first | (refine wl_load26 rfl _ rfl w.heap.size rfl L (heap_past _ _ _ _ hg) hl ?_) | (go_at_call 29; refine (hgn _).mono ?_; rintro e w' ⟨rfl, rfl⟩))
      have hW : Below w.heap.size w ((wr.alloc (Obj.cells #[Value.int IntKind.i64 ↑(pa k), Value.int IntKind.i64 ↑(ps k)] 60)).alloc (Obj.cells (hv L) 26)) := (hbw.alloc hbw.size _).alloc (by have := hbw.size; simp; omega) _
      have hb64 : numAt L k < 18446744073709551616 := by omega
      have HB : Hid (numAt L k < 18446744073709551616) := hb64
      clear hb64
      refine (appendUint_any (w.heap.size + 1) (txt L k).length (numAt L k) HB.out u3 (Lib.byteCells (txt L k)) _ ((hown.alloc _).alloc _) (by simp; omega) (by omega) (hpw.later (by omega) hW)).mono ?_
      rintro e w2 ⟨v2, rfl, hown2, hb2⟩
      have hdl : (Lib.decDigits (numAt L k)).length ≤ 5 := dec_len _ hnb
      have hz2 : w.heap.size + 1 ≤ w2.heap.size := by have := hb2.size; simp at this; omega
      have hg2 : w2.heap[w.heap.size]? = some (.cells (hv L) 26 (0, 0)) := by
        rw [hb2.block _ (by omega)]; exact heap_past _ _ _ _ (heap_past _ _ _ _ hg)
      have hbw2 : Below w.heap.size w w2 := hW.trans (hb2.mono (by omega))
      clear HB hW hb2 hown hg hbw hgn hi
      by_cases hlt2 : k < 10
      · have hi9 := index9 k hlt2
        obtain ⟨i0, hi, hz0, hz1, hz2'⟩ := info5
        go_wp2_with (first
          | (at_builtin; refine wpList_append_own _ rfl _ _ 58 rfl (w.heap.size + 1) 5 i0 (.int .u8 0) 1 1 Tryd.underlying58 hi hz0 hz1 hz2' rfl (by decide) _ _ _ rfl (hown2.alloc _) ⟨w2.heap.size, 0, none⟩ 1 1 [.int .u8 ((signS.getD k 0).toNat : Int)] rfl rfl (cell_one_new _ _ _) (fun x hx => by simp at hx; subst hx; rfl) (by unfold maxLen; omega) (by omega) (by simp; omega) ?_; intro v' w3 hown' hgrow3 hnil3))
        have hB2 : ∀ g, v2.ownBlock = some g → w.heap.size + 1 ≤ g := fun g hg => (hown2.lt _ hg).1
        go_roundw
        case rel =>
          refine ⟨k + 1, by omega, by go_num, ?_, ?_, ?_, ?_⟩
          · simp only [txt, hlt2, if_true, List.length_append, List.length_cons, List.length_nil]; omega
          · have e : txt L (k + 1) = txt L k ++ Lib.decDigits (numAt L k) ++ [signS.getD k 0] := by simp only [txt, hlt2, if_true]
            rw [e]
            simpa only [Lib.byteCells, List.map_append, List.length_append, List.length_cons, List.length_nil, List.map_cons, List.map_nil] using hown'
          · have h3 : w3.heap[w.heap.size]? = (w2.alloc _).heap[w.heap.size]? := hgrow3.block _ (by simp; omega) (fun h => by have := hB2 _ h.symm; omega)
            rw [h3]; exact heap_past _ _ _ _ hg2
          · exact (hbw2.alloc hbw2.size _).grown hgrow3 (by simp; omega) (fun g hg => by have := hB2 g hg; omega)
        case measure => simp [intOf]; omega
      · go_wp2_with fail
        go_roundw
        case rel =>
          have e : txt L (k + 1) = txt L k ++ Lib.decDigits (numAt L k) := by simp only [txt, hlt2, if_false, List.append_nil]
          refine ⟨k + 1, by omega, by go_num, ?_, ?_, hg2, hbw2⟩
          · rw [e, List.length_append]; omega
          · rw [e]
            simpa only [Lib.byteCells, List.map_append, List.length_append] using hown2
        case measure => simp [intOf]; omega
    · obtain rfl : k = 11 := by omega
      have hne : 1 ≤ (txt L 11).length := by
        have e : txt L 11 = txt L 10 ++ Lib.decDigits (numAt L 10) := by simp [txt]
        have e2 : txt L 10 = txt L 9 ++ Lib.decDigits (numAt L 9) ++ [signS.getD 9 0] := by simp [txt]
        rw [e, e2]; simp; omega
      obtain ⟨_, ⟨rfl, h0⟩ | ⟨g, cap, cur, rfl, hB, hcur, h1, h2, h3, h4⟩⟩ := hown
      · omega
      have hcv : (convert 58 9 (.slice (some ⟨g, 0, none⟩) (txt L 11).length cap)).run Tryd.prog wr = .ok (.string ⟨(txt L 11).toArray⟩) wr :=
        run_convert_bytes_back wr 58 9 5 ⟨g, 0, none⟩ cap (txt L 11) Tryd.underlying58 Tryd.underlying5 Tryd.underlying9 (fun j hj => by
          have hadd : (⟨g, 0, none⟩ : Addr).add j = ⟨g, j, none⟩ := by unfold Addr.add; split <;> simp_all
          rw [hadd, cell_of_row wr g j cur 5 (0, 0) hcur]
          have : (cur.toList.take ((txt L 11).length * 1))[j]? = (Lib.byteCells (txt L 11))[j]? := by rw [h4]
          rw [List.getElem?_take_of_lt (by omega)] at this
          rw [← Array.getElem?_toList, this]
          simp [Lib.byteCells, hj])
      clear hcur h4
      go_wp2
      go_ret
      exact ⟨rfl, hbw⟩
end Go.Proofs.YtjfbahpaahlidaaDoor
