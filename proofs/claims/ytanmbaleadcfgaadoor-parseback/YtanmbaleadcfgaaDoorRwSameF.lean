import Derived.Test.YtanmbaleadcfgaaDoorRwBase
namespace Go.Proofs.YtanmbaleadcfgaaDoor
open Go Go.RowKit

/-- The same number, and place, if places count. -/
def SameF (p : Bool) (f f' : Fig) : Prop := f.n = f'.n ∧ (p = true → f.pos = f'.pos)
def SameC (p : Bool) (c d : Cla) : Prop := c.word = d.word ∧ (p = true → c.pos = d.pos) ∧ c.slash = d.slash ∧ c.dash = d.dash ∧ c.nums.length = d.nums.length ∧ ∀ (j : Nat) (f f' : Fig), c.nums[j]? = some f → d.nums[j]? = some f' → SameF p f f'
def SameR (p : Bool) (x y : Raw) : Prop := (p = true → x.pos = y.pos) ∧ x.dflt = y.dflt ∧ SameF p x.prio y.prio ∧ x.drop = y.drop ∧ SameF p x.port y.port ∧ x.clauses.length = y.clauses.length ∧ ∀ (k : Nat) (c d : Cla), x.clauses[k]? = some c → y.clauses[k]? = some d → SameC p c d

set_option maxHeartbeats 2000000 in
theorem figure_false (f f' : Fig) (h : SameF false f f') (w : World) : Calls Tryd.prog 14 #[.agg (figV f), .agg (figV f'), .bool false] w fun e w' => e = .returned (.bool true) ∧ Below w.heap.size w w' := by
  obtain ⟨n, q⟩ := f
  obtain ⟨n', q'⟩ := f'
  obtain ⟨h1, h2⟩ := h
  obtain rfl : n = n' := h1
  clear h2
  have e1 : (n == n) = true := by simp
  go_enter Tryd.func14, Tryd.ntmps14
  unfold figV
  go_wp2_with fail
  go_ret
  exact ⟨rfl, ((Below.refl _ _).alloc (Nat.le_refl _) _).alloc (by simp) _⟩

set_option maxHeartbeats 8000000 in
set_option maxRecDepth 10000 in
theorem same_false (va vb : Value) (L M : List Raw) (w : World) (ha : RawsAt w va L) (hb : RawsAt w vb M) (hl : L.length = M.length) (hs : ∀ (i : Nat) (x y : Raw), L[i]? = some x → M[i]? = some y → SameR false x y) :
    Calls Tryd.prog 8 #[va, vb, .bool false] w fun e w' => e = .returned (.bool true) ∧ Below w.heap.size w w' := by
  have CF : Hid (∀ (f f' : Fig), SameF false f f' → ∀ W, Calls Tryd.prog 14 #[.agg (figV f), .agg (figV f'), .bool false] W fun e w' => e = .returned (.bool true) ∧ Below W.heap.size W w') := fun f f' h W => figure_false f f' h W
  obtain ⟨oa, capa, rfl, ha1, ha2⟩ := NSl.slice ha
  obtain ⟨ob, capb, rfl, hb1, hb2⟩ := NSl.slice hb
  rw [← hl] at hb1 hb ⊢
  unfold maxLen at ha2 hb2
  obtain ⟨n, hn⟩ : ∃ n, n = L.length := ⟨_, rfl⟩
  rw [← hn] at ha1 hb1 ha hb ⊢
  have HA : Hid (RawsAt w (.slice oa n capa) L) := ha
  have HB : Hid (RawsAt w (.slice ob n capb) M) := hb
  have HS : Hid (∀ (i : Nat) (x y : Raw), L[i]? = some x → M[i]? = some y → SameR false x y) := hs
  have en : ((n : Int) != (n : Int)) = false := by simp
  clear ha hb hs hl hn
  go_enter Tryd.func8, Tryd.ntmps8
  go_wp2_with fail
  go_loopw [7] (fun x wr => ∃ i : Nat, i ≤ n ∧ x = .int .i64 (i : Int) ∧ Below w.heap.size w wr) (fun x _ => n - (intOf x).toNat)
  case atStart => exact ⟨0, Nat.zero_le _, rfl, Below.refl _ _⟩
  case round =>
    obtain ⟨i, hi, rfl, hbr⟩ := hrel
    obtain ⟨wo, hwo⟩ : ∃ wo : World, wo = wr := ⟨_, rfl⟩
    rw [← hwo] at hbr ⊢
    clear hwo wr
    by_cases hlt : i < n
    · obtain ⟨g1, off1, cur1, ty1, fr1, x, u1, rfl, hg1, hc1, hx, hcl1⟩ := NSl.at (raws_below HA.out hbr) i hlt
      obtain ⟨g2, off2, cur2, ty2, fr2, y, u2, rfl, hg2, hc2, hy, hcl2⟩ := NSl.at (raws_below HB.out hbr) i hlt
      obtain ⟨s0, s1, s2, s3, s4, s5, s6⟩ := HS.out i x y hx hy
      obtain ⟨o3, cap3, rfl, hd1, hd2⟩ := NSl.slice hcl1
      obtain ⟨o4, cap4, rfl, he1, he2⟩ := NSl.slice hcl2
      have F1 : Hid (SameF false x.prio y.prio) := s2
      have F2 : Hid (SameF false x.port y.port) := s4
      have HCC : Hid (∀ (k : Nat) (c d : Cla), x.clauses[k]? = some c → y.clauses[k]? = some d → SameC false c d) := s6
      rw [← s5] at he1 hcl2 hc2
      obtain ⟨nc, hnc⟩ : ∃ nc, nc = x.clauses.length := ⟨_, rfl⟩
      rw [← hnc] at hd1 he1 hcl1 hcl2 hc1 hc2
      unfold maxLen at hd2 he2
      have enc : ((nc : Int) != (nc : Int)) = false := by simp
      have ed : (x.dflt != x.dflt) = false := by simp
      have edr : (x.drop != x.drop) = false := by simp
      have ep := trivial
      have k1 : Hid (wo.heap[g1]? = some (.cells cur1 ty1 fr1)) := hg1
      have H1 : Hid (∀ j, j < 8 → cur1[off1 + i * 8 + j]? = (rawV x (.slice o3 nc cap3))[j]?) := hc1
      have k2 : Hid ((wo.alloc (.cells (rawV x (.slice o3 nc cap3)) 34)).heap[g2]? = some (.cells cur2 ty2 fr2)) := heap_past _ _ _ _ hg2
      have H2 : Hid (∀ j, j < 8 → cur2[off2 + i * 8 + j]? = (rawV y (.slice o4 nc cap4))[j]?) := hc2
      obtain ⟨wA, hwA⟩ : ∃ wA, wA = ((wo.alloc (.cells (rawV x (.slice o3 nc cap3)) 34)).alloc (.cells (rawV y (.slice o4 nc cap4)) 34)) := ⟨_, rfl⟩
      have BA : Below wo.heap.size wo wA := by rw [hwA]; exact ((Below.refl _ _).alloc (Nat.le_refl _) _).alloc (by simp) _
      have KA : wA.heap[wo.heap.size]? = some (.cells (rawV x (.slice o3 nc cap3)) 34 (0, 0)) := by rw [hwA]; exact heap_past _ _ _ _ (heap_new _ _ _ rfl)
      have KB : wA.heap[wo.heap.size + 1]? = some (.cells (rawV y (.slice o4 nc cap4)) 34 (0, 0)) := by rw [hwA]; exact heap_new _ _ _ (by simp)
      have HKA : Hid (_ ∧ _) := ⟨KA, KB⟩
      have HWA : Hid (wA = ((wo.alloc (.cells (rawV x (.slice o3 nc cap3)) 34)).alloc (.cells (rawV y (.slice o4 nc cap4)) 34))) := hwA
      have HC1 : Hid (ClasAt wA x (.slice o3 nc cap3)) := clas_below _ _ _ _ BA hcl1
      have HC2 : Hid (ClasAt wA y (.slice o4 nc cap4)) := clas_below _ _ _ _ BA hcl2
      have HBA : Hid (Below w.heap.size w wA) := hbr.trans (BA.mono hbr.size)
      have cells : ∀ W, Below wA.heap.size wA W → (W.cell? ⟨wo.heap.size, 0, none⟩ = some (.int .i64 x.pos) ∧ W.cell? ⟨wo.heap.size, 1, none⟩ = some (.bool x.dflt) ∧ W.cell? ⟨wo.heap.size, 4, none⟩ = some (.slice o3 nc cap3) ∧ W.cell? ⟨wo.heap.size, 5, none⟩ = some (.bool x.drop)) ∧ (W.cell? ⟨wo.heap.size + 1, 0, none⟩ = some (.int .i64 y.pos) ∧ W.cell? ⟨wo.heap.size + 1, 1, none⟩ = some (.bool y.dflt) ∧ W.cell? ⟨wo.heap.size + 1, 4, none⟩ = some (.slice o4 nc cap4) ∧ W.cell? ⟨wo.heap.size + 1, 5, none⟩ = some (.bool y.drop)) := fun W hW => by
        have a1 := (hW.block _ (Array.getElem?_eq_some_iff.1 KA).1).trans KA
        have a2 := (hW.block _ (Array.getElem?_eq_some_iff.1 KB).1).trans KB
        refine ⟨⟨?_, ?_, ?_, ?_⟩, ?_, ?_, ?_, ?_⟩ <;> first | (rw [cell_of_row _ _ _ _ _ _ a1]; rfl) | (rw [cell_of_row _ _ _ _ _ _ a2]; rfl)
      rw [← s1, ← s3] at cells
      have HCE : Hid _ := cells
      obtain ⟨⟨ca0, ca1, ca4, ca5⟩, cb0, cb1, cb4, cb5⟩ := cells wA (Below.refl _ _)
      have rows : ∀ W, Below wA.heap.size wA W → W.heap[wo.heap.size]? = some (.cells (rawV x (.slice o3 nc cap3)) 34 (0, 0)) ∧ W.heap[wo.heap.size + 1]? = some (.cells (rawV y (.slice o4 nc cap4)) 34 (0, 0)) := fun W hW => ⟨(hW.block _ (Array.getElem?_eq_some_iff.1 KA).1).trans KA, (hW.block _ (Array.getElem?_eq_some_iff.1 KB).1).trans KB⟩
      have HROW : Hid _ := rows
      have hlt' : (i : Int) < (n : Int) := by omega
      rw [hwA] at ca0 ca1 ca4 ca5 cb0 cb1 cb4 cb5
      clear hg1 hg2 hc1 hc2 hx hy hcl1 hcl2 s0 s1 s2 s3 s4 s5 s6 hnc cells rows KA KB BA hwA
      go_wp2_with (first
        | (refine wl_loadE (E := RawE) RawOk rfl _ rfl g1 (off1 + i * 8) rfl cur1 ty1 fr1 (rawV x (.slice o3 nc cap3)) rfl k1.out H1.out ?_)
        | (refine wl_storeE (E := RawE) RawOk rfl _ _ rfl wo.heap.size (rawV x (.slice o3 nc cap3)) ⟨rfl, by simp [rawV, Value.oneCell']⟩ rfl rfl _ (heap_new _ _ _ rfl) rfl _ (setRow_new _ _ _ _ _ rfl) ?_)
        | (refine wl_loadE (E := RawE) RawOk rfl _ rfl g2 (off2 + i * 8) rfl cur2 ty2 fr2 (rawV y (.slice o4 nc cap4)) rfl k2.out H2.out ?_)
        | (refine wl_storeE (E := RawE) RawOk rfl _ _ rfl (wo.heap.size + 1) (rawV y (.slice o4 nc cap4)) ⟨rfl, by simp [rawV, Value.oneCell']⟩ rfl rfl _ (heap_new _ _ _ (by simp)) rfl _ (setRow_new _ _ _ _ _ (by simp)) ?_)
        | (refine wl_loadE (E := FigE) FigOk rfl _ rfl wo.heap.size 2 rfl _ _ _ (figV x.prio) rfl (by rw [← HWA.out]; exact HKA.out.1) (by intro j hj; match j, hj with | 0, _ => rfl | 1, _ => rfl) ?_)
        | (refine wl_loadE (E := FigE) FigOk rfl _ rfl (wo.heap.size + 1) 2 rfl _ _ _ (figV y.prio) rfl (by rw [← HWA.out]; exact HKA.out.2) (by intro j hj; match j, hj with | 0, _ => rfl | 1, _ => rfl) ?_))
      rw [← HWA.out]
      refine (CF.out _ _ F1.out wA).mono ?_
      rintro e w3 ⟨rfl, hb3⟩
      obtain ⟨⟨da0, da1, da4, da5⟩, db0, db1, db4, db5⟩ := HCE.out w3 hb3
      have R3 := HROW.out w3 hb3
      have HR3 : Hid (_ ∧ _) := R3
      have HB3 : Hid (Below wA.heap.size wA w3) := hb3
      clear R3 hb3 ca0 ca1 ca4 ca5 cb0 cb1 cb4 cb5
      go_wp2_with (first
        | (refine wl_loadE (E := FigE) FigOk rfl _ rfl wo.heap.size 6 rfl _ _ _ (figV x.port) rfl HR3.out.1 (by intro j hj; match j, hj with | 0, _ => rfl | 1, _ => rfl) ?_)
        | (refine wl_loadE (E := FigE) FigOk rfl _ rfl (wo.heap.size + 1) 6 rfl _ _ _ (figV y.port) rfl HR3.out.2 (by intro j hj; match j, hj with | 0, _ => rfl | 1, _ => rfl) ?_))
      refine (CF.out _ _ F2.out w3).mono ?_
      rintro e w4 ⟨rfl, hb4⟩
      have B4 := HB3.out.trans (hb4.mono HB3.out.size)
      obtain ⟨⟨ea0, ea1, ea4, ea5⟩, eb0, eb1, eb4, eb5⟩ := HCE.out w4 B4
      have HB4 : Hid (Below wA.heap.size wA w4) := B4
      clear B4 hb4 da0 da1 da4 da5 db0 db1 db4 db5
      go_wp2_with fail
      clear ea0 ea1 ea4 ea5 eb0 eb1 eb4 eb5
      go_loopw [10] (fun x wr => ∃ k : Nat, k ≤ nc ∧ x = .int .i64 (k : Int) ∧ Below wA.heap.size wA wr) (fun x _ => nc - (intOf x).toNat)
      case atStart => exact ⟨0, Nat.zero_le _, rfl, HB4.out⟩
      case round =>
        obtain ⟨kk, hkk, rfl, hbm⟩ := hrel
        obtain ⟨wm, hwm⟩ : ∃ wm : World, wm = wr := ⟨_, rfl⟩
        rw [← hwm] at hbm ⊢
        clear hwm wr
        obtain ⟨⟨ea0, ea1, ea4, ea5⟩, eb0, eb1, eb4, eb5⟩ := HCE.out wm hbm
        by_cases hltk : kk < nc
        · obtain ⟨g5, off5, cur5, ty5, fr5, c, u5, rfl, hg5, hc5, hxc, hf5⟩ := NSl.at (clas_below _ _ _ _ hbm HC1.out) kk hltk
          obtain ⟨g6, off6, cur6, ty6, fr6, d, u6, rfl, hg6, hc6, hyd, hf6⟩ := NSl.at (clas_below _ _ _ _ hbm HC2.out) kk hltk
          obtain ⟨q0, q1, q2, q3, q4, q5⟩ := HCC.out kk c d hxc hyd
          obtain ⟨o7, cap7, rfl, hm1, hm2⟩ := GSl.slice hf5
          obtain ⟨o8, cap8, rfl, hm3, hm4⟩ := GSl.slice hf6
          have HFF : Hid (∀ (j : Nat) (f f' : Fig), c.nums[j]? = some f → d.nums[j]? = some f' → SameF false f f') := q5
          rw [← q4] at hm3 hf6 hc6
          obtain ⟨nn, hnn⟩ : ∃ nn, nn = c.nums.length := ⟨_, rfl⟩
          rw [← hnn] at hm1 hm3 hf5 hf6 hc5 hc6
          unfold maxLen at hm2 hm4
          have enn : ((nn : Int) != (nn : Int)) = false := by simp
          have ew : (c.word != c.word) = false := by simp
          have es : (c.slash != c.slash) = false := by simp
          have eh : (c.dash != c.dash) = false := by simp
          have epc := trivial
          have k5 : Hid (wm.heap[g5]? = some (.cells cur5 ty5 fr5)) := hg5
          have H5 : Hid (∀ j, j < 5 → cur5[off5 + kk * 5 + j]? = (claV c (.slice o7 nn cap7))[j]?) := hc5
          have k6 : Hid ((wm.alloc (.cells (claV c (.slice o7 nn cap7)) 37)).heap[g6]? = some (.cells cur6 ty6 fr6)) := heap_past _ _ _ _ hg6
          have H6 : Hid (∀ j, j < 5 → cur6[off6 + kk * 5 + j]? = (claV d (.slice o8 nn cap8))[j]?) := hc6
          obtain ⟨wB, hwB⟩ : ∃ wB, wB = ((wm.alloc (.cells (claV c (.slice o7 nn cap7)) 37)).alloc (.cells (claV d (.slice o8 nn cap8)) 37)) := ⟨_, rfl⟩
          have BB : Below wm.heap.size wm wB := by rw [hwB]; exact ((Below.refl _ _).alloc (Nat.le_refl _) _).alloc (by simp) _
          have KC : wB.heap[wm.heap.size]? = some (.cells (claV c (.slice o7 nn cap7)) 37 (0, 0)) := by rw [hwB]; exact heap_past _ _ _ _ (heap_new _ _ _ rfl)
          have KD : wB.heap[wm.heap.size + 1]? = some (.cells (claV d (.slice o8 nn cap8)) 37 (0, 0)) := by rw [hwB]; exact heap_new _ _ _ (by simp)
          have HWB : Hid (wB = ((wm.alloc (.cells (claV c (.slice o7 nn cap7)) 37)).alloc (.cells (claV d (.slice o8 nn cap8)) 37))) := hwB
          have HF5 : Hid (GSl FigE figV wB (.slice o7 nn cap7) c.nums) := GSl.below hf5 BB
          have HF6 : Hid (GSl FigE figV wB (.slice o8 nn cap8) d.nums) := GSl.below hf6 BB
          have HBB : Hid (Below wA.heap.size wA wB) := hbm.trans (BB.mono hbm.size)
          have ebx := heap_past wm (.cells (claV c (.slice o7 nn cap7)) 37) _ _ (HROW.out wm hbm).2
          have fb4 : (wm.alloc (.cells (claV c (.slice o7 nn cap7)) 37)).cell? ⟨wo.heap.size + 1, 4, none⟩ = some (.slice (some ⟨g6, off6, none⟩) nc cap4) := by rw [cell_of_row _ _ _ _ _ _ ebx]; rfl
          have cellc : ∀ W, Below wB.heap.size wB W → (W.cell? ⟨wm.heap.size, 0, none⟩ = some (.string ⟨c.word.toArray⟩) ∧ W.cell? ⟨wm.heap.size, 1, none⟩ = some (.int .i64 c.pos) ∧ W.cell? ⟨wm.heap.size, 2, none⟩ = some (.slice o7 nn cap7) ∧ W.cell? ⟨wm.heap.size, 3, none⟩ = some (.bool c.slash) ∧ W.cell? ⟨wm.heap.size, 4, none⟩ = some (.bool c.dash)) ∧ (W.cell? ⟨wm.heap.size + 1, 0, none⟩ = some (.string ⟨d.word.toArray⟩) ∧ W.cell? ⟨wm.heap.size + 1, 1, none⟩ = some (.int .i64 d.pos) ∧ W.cell? ⟨wm.heap.size + 1, 2, none⟩ = some (.slice o8 nn cap8) ∧ W.cell? ⟨wm.heap.size + 1, 3, none⟩ = some (.bool d.slash) ∧ W.cell? ⟨wm.heap.size + 1, 4, none⟩ = some (.bool d.dash)) := fun W hW => by
            have a1 := (hW.block _ (Array.getElem?_eq_some_iff.1 KC).1).trans KC
            have a2 := (hW.block _ (Array.getElem?_eq_some_iff.1 KD).1).trans KD
            refine ⟨⟨?_, ?_, ?_, ?_, ?_⟩, ?_, ?_, ?_, ?_, ?_⟩ <;> first | (rw [cell_of_row _ _ _ _ _ _ a1]; rfl) | (rw [cell_of_row _ _ _ _ _ _ a2]; rfl)
          rw [← q0, ← q2, ← q3] at cellc
          have HCL : Hid _ := cellc
          obtain ⟨⟨va0, va1, va2, va3, va4⟩, vb0, vb1, vb2, vb3, vb4⟩ := cellc wB (Below.refl _ _)
          rw [hwB] at va0 va1 va2 va3 va4 vb0 vb1 vb2 vb3 vb4
          have hltk' : (kk : Int) < (nc : Int) := by omega
          clear hg5 hg6 hc5 hc6 hxc hyd hf5 hf6 q0 q1 q2 q3 q4 q5 hnn cellc KC KD BB hwB ebx
          go_wp2_with (first
            | (refine wl_loadE (E := ClaE) ClaOk rfl _ rfl g5 (off5 + kk * 5) rfl cur5 ty5 fr5 (claV c (.slice o7 nn cap7)) rfl k5.out H5.out ?_)
            | (refine wl_storeE (E := ClaE) ClaOk rfl _ _ rfl wm.heap.size (claV c (.slice o7 nn cap7)) ⟨rfl, by simp [claV, Value.oneCell']⟩ rfl rfl _ (heap_new _ _ _ rfl) rfl _ (setRow_new _ _ _ _ _ rfl) ?_)
            | (refine wl_loadE (E := ClaE) ClaOk rfl _ rfl g6 (off6 + kk * 5) rfl cur6 ty6 fr6 (claV d (.slice o8 nn cap8)) rfl k6.out H6.out ?_)
            | (refine wl_storeE (E := ClaE) ClaOk rfl _ _ rfl (wm.heap.size + 1) (claV d (.slice o8 nn cap8)) ⟨rfl, by simp [claV, Value.oneCell']⟩ rfl rfl _ (heap_new _ _ _ (by simp)) rfl _ (setRow_new _ _ _ _ _ (by simp)) ?_))
          rw [← HWB.out]
          clear va0 va1 va2 va3 va4 vb0 vb1 vb2 vb3 vb4 ea0 ea1 ea4 ea5 eb0 eb1 eb4 eb5 fb4
          go_loopw [13] (fun x wr => ∃ j : Nat, j ≤ nn ∧ x = .int .i64 (j : Int) ∧ Below wB.heap.size wB wr) (fun x _ => nn - (intOf x).toNat)
          case atStart => exact ⟨0, Nat.zero_le _, rfl, Below.refl _ _⟩
          case round =>
            obtain ⟨j, hj, rfl, hbj⟩ := hrel
            obtain ⟨⟨va0, va1, va2, va3, va4⟩, vb0, vb1, vb2, vb3, vb4⟩ := HCL.out wr hbj
            by_cases hltj : j < nn
            · obtain ⟨g9, off9, cur9, ty9, fr9, f, rfl, hg9, hc9, hcf⟩ := (HF5.out.below hbj).at j hltj
              obtain ⟨gx, offx, curx, tyx, frx, f', rfl, hgx, hcx, hdf⟩ := (HF6.out.below hbj).at j hltj
              have FF := HFF.out j f f' hcf hdf
              have HFS : Hid (SameF false f f') := FF
              have H9 : Hid (∀ q, q < 2 → cur9[off9 + j * 2 + q]? = (figV f)[q]?) := hc9
              have HX : Hid (∀ q, q < 2 → curx[offx + j * 2 + q]? = (figV f')[q]?) := hcx
              have HBJ : Hid (Below wB.heap.size wB wr) := hbj
              have l2 : ∀ u : Later wr, u.world.cell? ⟨wm.heap.size, 2, none⟩ = some (.slice (some ⟨g9, off9, none⟩) nn cap7) := fun u => (HCL.out u.world (hbj.trans (u.below.mono hbj.size))).1.2.2.1
              have l3 : ∀ u : Later wr, u.world.cell? ⟨wm.heap.size + 1, 2, none⟩ = some (.slice (some ⟨gx, offx, none⟩) nn cap8) := fun u => (HCL.out u.world (hbj.trans (u.below.mono hbj.size))).2.2.2.1
              have hltj' : (j : Int) < (nn : Int) := by omega
              have K9 : Hid (wr.heap[g9]? = some (.cells cur9 ty9 fr9)) := hg9
              have KX : Hid (wr.heap[gx]? = some (.cells curx tyx frx)) := hgx
              clear hg9 hc9 hcf hgx hcx hdf FF hbj va0 va1 va3 va4 vb0 vb1 vb2 vb3 vb4
              go_wp2_with fail
              have ne1 := Later.ne wr
              refine wp_region_later (by kernel_rfl) (by kernel_rfl) ?_
              iterate 4 (go_big_quiet_step (rfl))
              refine qlE (E := FigE) FigOk rfl _ rfl g9 (off9 + j * 2) rfl cur9 ty9 fr9 (figV f) rfl (later_block K9.out) H9.out ?_
              simp only [Act.put, List.setIfInBounds_toArray, List.set_cons_succ, List.set_cons_zero]
              iterate 4 (go_big_quiet_step (rfl))
              refine qlE (E := FigE) FigOk rfl _ rfl gx (offx + j * 2) rfl curx tyx frx (figV f') rfl (later_block KX.out) HX.out ?_
              simp only [Act.put, List.setIfInBounds_toArray, List.set_cons_succ, List.set_cons_zero]
              go_big_quiet_step (rfl)
              go_big_quiet_want; go_big_quiet_op
              refine ⟨_, fun u => Calls.later_of (CF.out _ _ HFS.out u.world), ?_⟩
              go_big_quiet_on
              go_big_quiet_step (rfl)
              refine wpQuiet_nil ?_
              rintro w' ⟨u, rfl⟩
              have hb8 := HBJ.out.trans (u.below.mono HBJ.out.size)
              clear l2 l3 ne1
              go_wp2_with fail
              go_roundw
              case rel => exact ⟨j + 1, by omega, by go_num, hb8⟩
              case measure => simp [intOf]; omega
            · have hltj' : (nn : Int) ≤ (j : Int) := by omega
              have hb8 := HBB.out.trans (hbj.mono HBB.out.size)
              clear hltj
              go_wp2_with fail
              go_roundw
              case rel => exact ⟨kk + 1, by omega, by go_num, hb8⟩
              case measure => simp [intOf]; omega
        · have hltk' : (nc : Int) ≤ (kk : Int) := by omega
          have hb8 := HBA.out.trans (hbm.mono HBA.out.size)
          clear hltk
          go_wp2_with fail
          go_roundw
          case rel => exact ⟨i + 1, by omega, by go_num, hb8⟩
          case measure => simp [intOf]; omega
    · have hlt' : (n : Int) ≤ (i : Int) := by omega
      clear hlt
      go_wp2_with fail
      go_ret
      exact ⟨rfl, hbr⟩
end Go.Proofs.YtanmbaleadcfgaaDoor
