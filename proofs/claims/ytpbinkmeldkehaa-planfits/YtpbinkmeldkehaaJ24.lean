import Derived.Test.YtpbinkmeldkehaaJ7
import Derived.Test.YtpbinkmeldkehaaJ8
import Derived.Test.YtpbinkmeldkehaaJ23
import Derived.BigRegion
namespace Go.Proofs.Ytpbinkmeldkehaa
open Go.ChangeShapes Go.WideShapes Go.ChangeAt Go.WideMaps Go.WideElems Go.RowKit
set_option maxRecDepth 20000

theorem field_int14 {P : Program} {H : Type} {enc : TypeId × Value → H} {W : World} {base : Nat} {spare : Nat → Bool} {held : Bool} {n : Nat} {t : TypeId} {cs : List Value} {y : Option (DataW H × List MemPlace)} {i : Nat} {k : IntKind} (ht : P.underlying t = some (.int k)) (hc : P.cellsOf t = 1)
    (h : DataW.trod enc P W base spare held n t ((cs.drop i).take (P.cellsOf t)) = y) (hy : y.isSome = true) : ∃ z : Int, cs[i]? = some (.int k z) ∧ (Lit.int k z).wf = true := by
  obtain ⟨y', rfl⟩ := Option.isSome_iff_exists.1 hy
  obtain ⟨z, h1, _, h3⟩ := DataW.trod_int ht h
  rw [hc] at h1
  exact ⟨z, take_one12 h1, h3⟩
theorem field_float14 {H : Type} {enc : TypeId × Value → H} {W : World} {base : Nat} {spare : Nat → Bool} {held : Bool} {n : Nat} {cs : List Value} {y : Option (DataW H × List MemPlace)} {i : Nat} (hc : Try.prog.cellsOf 22 = 1)
    (h : DataW.trod enc Try.prog W base spare held n 22 ((cs.drop i).take (Try.prog.cellsOf 22)) = y) (hy : y.isSome = true) : ∃ z : Nat, cs[i]? = some (.float .f64 z) ∧ Wd z := by
  obtain ⟨y', rfl⟩ := Option.isSome_iff_exists.1 hy
  obtain ⟨z, h1, h3⟩ := trod_floatF h
  rw [hc] at h1
  exact ⟨z, take_one12 h1, wd_wf h3⟩
def inI64 (n : Int) : Prop := -9223372036854775808 ≤ n ∧ n ≤ 9223372036854775807
def okS (s : Stp) : Prop := inI64 s.au ∧ inI64 s.ro ∧ inI64 s.pa ∧ Wd s.bi
theorem open_setup {H : Type} {enc : TypeId × Value → H} {W : World} {r : Reach} {b0 base : Nat} {spare : Nat → Bool} {held : Bool} {v : Value} {d : DataW H} {p : List MemPlace}
    (hok : Value.okWide Try.prog W r b0 24 v) (h : DataW.Trod enc Try.prog W base spare held 24 v d p) : ∃ s : Stp, v = .agg (stA s) ∧ okS s := by
  have c3 : Try.prog.cellsOf 3 = 1 := by kernel_rfl
  have cf : Try.prog.cellsOf 22 = 1 := by kernel_rfl
  have c5 : Try.prog.cellsOf 24 = 17 := by kernel_rfl
  simp only [Value.okWide, Try.underlying24] at hok
  obtain ⟨cs, rfl, hsz, _⟩ := hok
  rw [c5] at hsz
  obtain ⟨fuel, hf⟩ := h
  simp only [Value.cells] at hf
  obtain ⟨xs, n, _, _, _, hxl, hf⟩ := DataW.trod_struct Try.underlying24 hf
  obtain ⟨n0, h0, _⟩ := field_int14 Try.underlying3 c3 (hf 0 _ rfl) (xs_some12 hxl (by decide))
  obtain ⟨n1, h1, w1⟩ := field_int14 Try.underlying3 c3 (hf 1 _ rfl) (xs_some12 hxl (by decide))
  obtain ⟨n2, h2, _⟩ := field_int14 Try.underlying3 c3 (hf 2 _ rfl) (xs_some12 hxl (by decide))
  obtain ⟨n3, h3, w3⟩ := field_int14 Try.underlying3 c3 (hf 3 _ rfl) (xs_some12 hxl (by decide))
  obtain ⟨n4, h4, w4⟩ := field_int14 Try.underlying3 c3 (hf 4 _ rfl) (xs_some12 hxl (by decide))
  obtain ⟨n5, h5, _⟩ := field_int14 Try.underlying3 c3 (hf 5 _ rfl) (xs_some12 hxl (by decide))
  obtain ⟨n6, h6, _⟩ := field_int14 Try.underlying3 c3 (hf 6 _ rfl) (xs_some12 hxl (by decide))
  obtain ⟨n7, h7, _⟩ := field_int14 Try.underlying3 c3 (hf 7 _ rfl) (xs_some12 hxl (by decide))
  obtain ⟨n8, h8, w8⟩ := field_float14 cf (hf 8 _ rfl) (xs_some12 hxl (by decide))
  obtain ⟨n9, h9, _⟩ := field_int14 Try.underlying3 c3 (hf 9 _ rfl) (xs_some12 hxl (by decide))
  obtain ⟨n10, h10, _⟩ := field_int14 Try.underlying3 c3 (hf 10 _ rfl) (xs_some12 hxl (by decide))
  obtain ⟨n11, h11, _⟩ := field_int14 Try.underlying3 c3 (hf 11 _ rfl) (xs_some12 hxl (by decide))
  obtain ⟨n12, h12, _⟩ := field_int14 Try.underlying3 c3 (hf 12 _ rfl) (xs_some12 hxl (by decide))
  obtain ⟨n13, h13, _⟩ := field_int14 Try.underlying3 c3 (hf 13 _ rfl) (xs_some12 hxl (by decide))
  obtain ⟨n14, h14, _⟩ := field_int14 Try.underlying3 c3 (hf 14 _ rfl) (xs_some12 hxl (by decide))
  obtain ⟨n15, h15, _⟩ := field_int14 Try.underlying3 c3 (hf 15 _ rfl) (xs_some12 hxl (by decide))
  obtain ⟨n16, h16, _⟩ := field_int14 Try.underlying3 c3 (hf 16 _ rfl) (xs_some12 hxl (by decide))
  refine ⟨⟨n0, n1, n2, n3, n4, n5, n6, n7, n8, n9, n10, n11, n12, n13, n14, n15, n16⟩, ?_, bounds_i64 w1, bounds_i64 w3, bounds_i64 w4, w8⟩
  congr 1
  apply Array.ext_getElem?
  intro k
  rw [← Array.getElem?_toList]
  rcases (show k = 0 ∨ k = 1 ∨ k = 2 ∨ k = 3 ∨ k = 4 ∨ k = 5 ∨ k = 6 ∨ k = 7 ∨ k = 8 ∨ k = 9 ∨ k = 10 ∨ k = 11 ∨ k = 12 ∨ k = 13 ∨ k = 14 ∨ k = 15 ∨ k = 16 ∨ 17 ≤ k by omega) with rfl | rfl | rfl | rfl | rfl | rfl | rfl | rfl | rfl | rfl | rfl | rfl | rfl | rfl | rfl | rfl | rfl | hk
  · exact h0
  · exact h1
  · exact h2
  · exact h3
  · exact h4
  · exact h5
  · exact h6
  · exact h7
  · exact h8
  · exact h9
  · exact h10
  · exact h11
  · exact h12
  · exact h13
  · exact h14
  · exact h15
  · exact h16
  · rw [List.getElem?_eq_none (by simpa using by omega), Array.getElem?_eq_none (by simpa [stA] using hk)]
end Go.Proofs.Ytpbinkmeldkehaa
namespace Go.Proofs.Ytpbinkmeldkehaa
open Go Go.Lib Go.RowKit
set_option maxRecDepth 20000

/-- Those that count. -/
def cntL (a : Int) (live : List Int) : List Int := live.filter fun x => inT x 1 a
theorem cntL_take {a : Int} {live : List Int} {k : Nat} {x : Int} (h : live[k]? = some x) : cntL a (live.take (k + 1)) = if inT x 1 a = true then cntL a (live.take k) ++ [x] else cntL a (live.take k) := by
  unfold cntL
  rw [List.take_add_one, h, List.filter_append]
  simp only [Option.toList_some, List.filter_cons, List.filter_nil]
  split <;> simp
theorem cntL_len (a : Int) (live : List Int) : (cntL a live).length ≤ live.length := List.length_filter_le _ _
theorem inI_snoc14 (z : List Int) (x : Int) : inI z ++ [.int .i64 x] = inI (z ++ [x]) := by simp [inI]
set_option maxHeartbeats 8000000 in
set_option maxRecDepth 100000 in
theorem counting_any (live : List Int) (hn : live.length ≤ 1000) (a : Int) (vl : Value) (w : World) (hl : ISl w vl live) :
    Calls Try.prog 27 #[vl, .int .i64 a] w fun e w' => (∃ v, e = .returned v ∧ VOwn 3 w.heap.size w' v (inI (cntL a live))) ∧ Below w.heap.size w w' := by
  have BW : Hid (∀ n a b W, Calls Try.prog 25 #[.int .i64 n, .int .i64 a, .int .i64 b] W fun e w' => e = .returned (.bool (inT n a b)) ∧ Below W.heap.size W w') := fun n a b W => between_any n a b W
  obtain ⟨o, cap, rfl, hc1, hc2⟩ := hl.slice
  obtain ⟨n, hn0⟩ : ∃ n, n = live.length := ⟨_, rfl⟩
  rw [← hn0] at hl hc1 hn ⊢
  have HN : Hid (n = live.length) := hn0
  have HL : Hid (ISl w (.slice o n cap) live) := hl
  have HLEN : Hid (∀ k, (cntL a (live.take k)).length ≤ 1000) := fun k => Nat.le_trans (cntL_len _ _) (by rw [List.length_take]; omega)
  unfold maxLen at hc2
  clear hl hn0
  go_enter Try.func27, Try.ntmps27
  go_wp2_with fail
  go_loopw [5, 10] (fun v i wr => ∃ k : Nat, k ≤ n ∧ i = .int .i64 (k : Int) ∧ Hid (VOwn 3 w.heap.size wr v (inI (cntL a (live.take k)))) ∧ Hid (Below w.heap.size w wr)) (fun _ i _ => n - (intOf i).toNat)
  case atStart => exact ⟨0, Nat.zero_le _, rfl, VOwn.nil _ _ _, Below.refl _ _⟩
  case round =>
    obtain ⟨k, hk, rfl, HO, HB⟩ := hrel
    by_cases hlt : k < n
    · have hlt' : (k : Int) < (n : Int) := by omega
      obtain ⟨g, off, x, rfl, hx, hzk⟩ := ISl.cell (VSl.below HL.out HB.out) k hlt
      have HT : Hid (cntL a (live.take (k + 1)) = if inT x 1 a = true then cntL a (live.take k) ++ [x] else cntL a (live.take k)) := cntL_take hzk
      have hle := HLEN.out k
      clear hzk
      go_wp2_with fail
      refine (BW.out _ _ _ _).mono ?_
      rintro e w2 ⟨rfl, hb2⟩
      have B2 : Hid (Below w.heap.size w w2) := HB.out.trans (hb2.mono HB.out.size)
      have O2 : Hid (VOwn 3 w.heap.size w2 u5 (inI (cntL a (live.take k)))) := HO.out.below hb2
      clear hb2 HO HB hx
      cases hin : inT x 1 a with
      | true =>
        have HT2 : Hid (cntL a (live.take (k + 1)) = cntL a (live.take k) ++ [x]) := by show _ = _; rw [HT.out, if_pos hin]
        clear hin HT
        obtain ⟨wa, hwa⟩ : ∃ wa, wa = w2.alloc (.cells #[.int .i64 x] 3) := ⟨_, rfl⟩
        obtain ⟨q, hq⟩ : ∃ q, q = w2.heap.size := ⟨_, rfl⟩
        have ba : Below w2.heap.size w2 wa := by rw [hwa]; exact (Below.refl _ _).alloc (Nat.le_refl _) _
        have OA : Hid (VOwn 3 w.heap.size wa u5 (inI (cntL a (live.take k)))) := O2.out.below ba
        have BA : Hid (Below w.heap.size w wa) := B2.out.trans (ba.mono B2.out.size)
        have GA : Hid (wa.heap[q]? = some (.cells #[.int .i64 x] 3 (0, 0))) := by show _ = _; rw [hwa, hq]; exact heap_new _ _ _ rfl
        clear ba O2 B2
        go_wp2_with (at_builtin; refine of_stopT ?_)
        unfold StopT
        rw [← hwa, ← hq]
        clear hwa hq
        refine wl_app1V scI rfl _ _ rfl w.heap.size u5 (inI (cntL a (live.take k))) (.int .i64 x) rfl rfl OA.out q 1 rfl GA.out (by rw [inI_len]; omega) BA.out.size ?_
        intro v3 w3 ho3 hg3 hb3
        have O3 : Hid (VOwn 3 w.heap.size w3 v3 (inI (cntL a (live.take (k + 1))))) := by show VOwn _ _ _ _ _; rw [HT2.out, ← inI_snoc14]; exact ho3
        have B3 : Hid (Below w.heap.size w w3) := BA.out.grown hg3 BA.out.size fun j hj => (OA.out.ge j hj).1
        clear ho3 hg3 hb3 OA BA GA HT2
        simp only [Act.put, List.setIfInBounds_toArray, List.set_cons_succ, List.set_cons_zero]
        go_wp2_with fail
        go_roundw
        case rel => exact ⟨k + 1, by omega, by go_num, O3, B3⟩
        case measure => simp [intOf]; omega
      | false =>
        have O3 : Hid (VOwn 3 w.heap.size w2 u5 (inI (cntL a (live.take (k + 1))))) := by show VOwn _ _ _ _ _; rw [HT.out, if_neg (by rw [hin]; simp)]; exact O2.out
        clear hin HT
        go_wp2_with fail
        go_roundw
        case rel => exact ⟨k + 1, by omega, by go_num, O3, B2⟩
        case measure => simp [intOf]; omega
    · have hlt' : ¬ (k : Int) < (n : Int) := by omega
      obtain rfl : n = k := by omega
      have O3 : Hid (VOwn 3 w.heap.size wr u5 (inI (cntL a live))) := by
        have h := HO.out
        rw [HN.out, List.take_length] at h
        exact h
      go_wp2_with fail
      go_ret
      exact ⟨⟨_, rfl, O3.out⟩, HB.out⟩
end Go.Proofs.Ytpbinkmeldkehaa
namespace Go.Proofs.Ytpbinkmeldkehaa
open Go Go.Lib Go.RowKit
set_option maxRecDepth 20000

def szL (C : List LeafM) : List Int := C.map fun x => (x.rules.length : Int)
theorem szL_len (C : List LeafM) : (szL C).length = C.length := by simp [szL]
theorem szL_take {C : List LeafM} {k : Nat} {x : LeafM} (h : C[k]? = some x) : szL (C.take (k + 1)) = szL (C.take k) ++ [(x.rules.length : Int)] := by
  unfold szL
  rw [List.take_add_one, h]
  simp
/-- The first k leaves with whom they are given to. -/
def givL (C : List LeafM) (out : Nat → Nat × Nat) (k : Nat) : List LeafM := C.mapIdx fun i x => if i < k then ⟨x.cube, ((out i).1 : Int), ((out i).2 : Int), x.rules⟩ else x
theorem givL_len (C : List LeafM) (out : Nat → Nat × Nat) (k : Nat) : (givL C out k).length = C.length := by simp [givL]
theorem givL_zero (C : List LeafM) (out : Nat → Nat × Nat) : givL C out 0 = C := by
  unfold givL
  apply List.ext_getElem?
  intro i
  rw [List.getElem?_mapIdx]
  cases C[i]? <;> simp
theorem givL_at {C : List LeafM} {out : Nat → Nat × Nat} {k i : Nat} {x : LeafM} (h : (givL C out k)[i]? = some x) : ∃ y, C[i]? = some y ∧ x = if i < k then ⟨y.cube, ((out i).1 : Int), ((out i).2 : Int), y.rules⟩ else y := by
  unfold givL at h
  rw [List.getElem?_mapIdx] at h
  cases hc : C[i]? with
  | none => rw [hc] at h; simp at h
  | some y => rw [hc] at h; exact ⟨y, rfl, by simpa using h.symm⟩
theorem givL_set {C : List LeafM} {out : Nat → Nat × Nat} {k : Nat} {x : LeafM} (h : (givL C out k)[k]? = some x) : (givL C out k).set k ⟨x.cube, ((out k).1 : Int), ((out k).2 : Int), x.rules⟩ = givL C out (k + 1) := by
  obtain ⟨y, hy, hx⟩ := givL_at h
  rw [if_neg (by omega)] at hx
  subst hx
  apply List.ext_getElem?
  intro i
  rw [List.getElem?_set]
  by_cases hi : k = i
  · subst hi
    rw [if_pos rfl, if_pos (List.getElem?_eq_some_iff.1 h).1]
    unfold givL
    rw [List.getElem?_mapIdx, hy]
    simp
  · rw [if_neg hi]
    unfold givL
    rw [List.getElem?_mapIdx, List.getElem?_mapIdx]
    cases C[i]? with
    | none => rfl
    | some z =>
      simp only [Option.map_some]
      by_cases h2 : i < k
      · rw [if_pos h2, if_pos (by omega)]
      · rw [if_neg h2, if_neg (by omega)]
theorem leafV_sets (x : LeafM) (hx : okL x) (u : Value) (a b : Int) : ((leafV x u).setIfInBounds 26 (.int .i64 a)).setIfInBounds 27 (.int .i64 b) = leafV ⟨x.cube, a, b, x.rules⟩ u := by
  have hs := cv_size _ _ hx.1.1 hx.2.1.1
  have hv := leafV_size hx u
  have hx' : okL ⟨x.cube, a, b, x.rules⟩ := hx
  apply Array.ext_getElem?
  intro j
  by_cases hj : j < 29
  · rcases (show j < 26 ∨ j = 26 ∨ j = 27 ∨ j = 28 by omega) with h | h | h | h
    · rw [Array.getElem?_setIfInBounds_ne (by omega), Array.getElem?_setIfInBounds_ne (by omega), (leaf_at hx u).1 j h, (leaf_at hx' u).1 j h]
    · subst h
      rw [Array.getElem?_setIfInBounds_ne (by omega), Array.getElem?_setIfInBounds_self_of_lt (by omega), (leaf_at hx' u).2.1]
    · subst h
      rw [Array.getElem?_setIfInBounds_self_of_lt (by simp; omega), (leaf_at hx' u).2.2.1]
    · subst h
      rw [Array.getElem?_setIfInBounds_ne (by omega), Array.getElem?_setIfInBounds_ne (by omega), (leaf_at hx u).2.2.2, (leaf_at hx' u).2.2.2]
  · rw [Array.getElem?_eq_none (by simp; omega), Array.getElem?_eq_none (by rw [leafV_size hx']; omega)]
theorem gcells_sets : ∀ (P : List (LeafM × Value)) (i : Nat) (x : LeafM) (u : Value) (a b : Int), (∀ p ∈ P, okL p.1) → P[i]? = some (x, u) → ((gcells (fun p : LeafM × Value => leafV p.1 p.2) P).set (i * 29 + 26) (.int .i64 a)).set (i * 29 + 27) (.int .i64 b) = gcells (fun p : LeafM × Value => leafV p.1 p.2) (P.set i (⟨x.cube, a, b, x.rules⟩, u))
  | [], i, x, u, a, b, _, h => by simp at h
  | p :: P, 0, x, u, a, b, hok, h => by
    obtain rfl : p = (x, u) := by simpa using h
    have hx := hok _ (by simp : ((x, u) : LeafM × Value) ∈ (x, u) :: P)
    rw [gcells_cons, List.set_cons_zero, gcells_cons, ← leafV_sets x hx u a b, List.set_append_left _ _ (by rw [Array.length_toList, leafV_size hx]; omega), List.set_append_left _ _ (by rw [List.length_set, Array.length_toList, leafV_size hx]; omega)]
    simp
  | p :: P, i + 1, x, u, a, b, hok, h => by
    have hp := leafV_size (hok p (by simp)) p.2
    have ih := gcells_sets P i x u a b (fun q hq => hok q (by simp [hq])) (by simpa using h)
    rw [gcells_cons, List.set_cons_succ, gcells_cons, List.set_append_right _ _ (by rw [Array.length_toList, hp]; omega), List.set_append_right _ _ (by rw [Array.length_toList, hp]; omega), Array.length_toList, hp, show (i + 1) * 29 + 26 - 29 = i * 29 + 26 by omega, show (i + 1) * 29 + 27 - 29 = i * 29 + 27 by omega, ih]
/-- A leaf's holders written in its place. -/
theorem leaves_set {B : Nat} {w : World} {g n cap : Nat} {C : List LeafM} (h : LeavesOwn B w (.slice (some ⟨g, 0, none⟩) n cap) C) {i : Nat} {x : LeafM} (hi : C[i]? = some x) (a b : Int) :
    LeavesOwn B ((w.setCell ⟨g, i * 29 + 26, none⟩ (.int .i64 a)).setCell ⟨g, i * 29 + 27, none⟩ (.int .i64 b)) (.slice (some ⟨g, 0, none⟩) n cap) (C.set i ⟨x.cube, a, b, x.rules⟩) ∧ w.grownBy ((w.setCell ⟨g, i * 29 + 26, none⟩ (.int .i64 a)).setCell ⟨g, i * 29 + 27, none⟩ (.int .i64 b)) (some g) := by
  obtain ⟨P, hP1, hP2, hP3⟩ := h
  obtain rfl : n = P.length := by
    obtain ⟨o', cap', e⟩ := gown_slice hP2
    simp only [Value.slice.injEq] at e
    exact e.2.1
  obtain ⟨h1, g1⟩ := World.ownsRow.stored hP2 (i * 29 + 26) (.int .i64 a)
  obtain ⟨h2, g2⟩ := World.ownsRow.stored h1 (i * 29 + 27) (.int .i64 b)
  have hgr : w.grownBy ((w.setCell ⟨g, i * 29 + 26, none⟩ (.int .i64 a)).setCell ⟨g, i * 29 + 27, none⟩ (.int .i64 b)) (some g) := g1.trans g2
  obtain ⟨u, hu⟩ : ∃ u, P[i]? = some (x, u) := by
    rw [← hP1, List.getElem?_map] at hi
    cases hp : P[i]? with
    | none => rw [hp] at hi; simp at hi
    | some p => rw [hp] at hi; obtain rfl : p.1 = x := by simpa using hi
                exact ⟨p.2, rfl⟩
  rw [gcells_sets P i x u a b (fun p hp => (hP3 p hp).1) hu] at h2
  refine ⟨⟨P.set i (⟨x.cube, a, b, x.rules⟩, u), by rw [List.map_set, hP1], by rw [List.length_set]; exact h2, fun p hp => ?_⟩, hgr⟩
  have hx := hP3 _ (List.mem_of_getElem? hu)
  have key : ∀ q ∈ P, LfR B ((w.setCell ⟨g, i * 29 + 26, none⟩ (.int .i64 a)).setCell ⟨g, i * 29 + 27, none⟩ (.int .i64 b)) q.1 q.2 := fun q hq => LfR.grown hP2 hgr (hP3 q hq)
  rcases List.mem_or_eq_of_mem_set hp with h | h
  · exact key p h
  · rw [h]
    have h9 := key _ (List.mem_of_getElem? hu)
    exact ⟨h9.1, h9.2⟩
end Go.Proofs.Ytpbinkmeldkehaa
namespace Go.Proofs.Ytpbinkmeldkehaa
open Go Go.Lib Go.RowKit
set_option maxRecDepth 20000

/-- What comes of leaves that are dealt. -/
def dealtR (B : Nat) (w' : World) (vc : Value) (C : List LeafM) (r : Option ((Nat → Int) × (Nat → Nat × Nat))) (e : Ending) : Prop :=
  match r with
  | none => e = .returned (.tuple #[.slice none 0 0, .int .i64 15])
  | some st => e = .returned (.tuple #[vc, .int .i64 0]) ∧ LeavesOwn B w' vc (givL C st.2 C.length)
theorem leaves_cell {B : Nat} {w : World} {o : Option Addr} {n cap : Nat} {C : List LeafM} (h : LeavesOwn B w (.slice o n cap) C) (k : Nat) (hk : k < n) : ∃ g x, o = some ⟨g, 0, none⟩ ∧ B ≤ g ∧ C[k]? = some x ∧ w.cell? ⟨g, k * 29 + 26, none⟩ = some (.int .i64 x.one) ∧ w.cell? ⟨g, k * 29 + 27, none⟩ = some (.int .i64 x.two) ∧ w.frozen? ⟨g, k * 29 + 26, none⟩ = false ∧ w.frozen? ⟨g, k * 29 + 27, none⟩ = false := by
  have hs := leaves_sl h
  obtain ⟨g, off, cur, t, fr, x, u, rfl, hg, hc, hxk, hxu⟩ := NSl.at hs k hk
  obtain ⟨P, hP1, hP2, hP3⟩ := h
  obtain ⟨_, ⟨e, _⟩ | ⟨g', cap', cur', e, hB, hcur, _⟩⟩ := hP2
  · cases e
  · simp only [Value.slice.injEq, Option.some.injEq, Addr.mk.injEq, and_true] at e
    obtain ⟨⟨rfl, rfl⟩, _⟩ := e
    have h26 := hc 26 (by show 26 < 29; omega)
    have h27 := hc 27 (by show 27 < 29; omega)
    rw [(leaf_at hxu.1 u).2.1] at h26
    rw [(leaf_at hxu.1 u).2.2.1] at h27
    have hL : LeafE.size = 29 := rfl
    rw [hL, Nat.zero_add] at h26 h27
    exact ⟨g, x, rfl, hB, hxk, (cell_of_row _ _ _ _ _ _ hg).trans h26, (cell_of_row _ _ _ _ _ _ hg).trans h27, by simp [World.frozen?, hcur], by simp [World.frozen?, hcur]⟩
set_option maxHeartbeats 16000000 in
set_option maxRecDepth 100000 in
theorem dealt_any (C : List LeafM) (hn1 : C.length ≤ 1000) (hr1 : ∀ x ∈ C, x.rules.length ≤ 100000) (live : List Int) (l : List Nat) (hW : AllW l) (room : Int) (hm1 : -9223372036854775808 ≤ room) (hm2 : room ≤ 9223372036854775807) (B : Nat) (vc vl vw : Value) (w : World) (hB : B ≤ w.heap.size) (hc : LeavesOwn B w vc C) (hl : ISl w vl live) (hw : FSl w vw l) :
    Calls Try.prog 28 #[vc, vl, vw, .int .i64 room] w fun e w' => (∃ o, IsOrd (keyZ (szL C)) C.length o ∧ dealtR B w' vc C (dealF (thT live) (wtT l) room (cntT (thT live)) (fun i => max ((szL C).getD i 0) 0) o (fun _ => 0) (fun _ => (0, 0))) e) ∧ Below B w w' := by
  obtain ⟨oc, capc, rfl, hc1, hc2⟩ := leaves_own_slice hc
  obtain ⟨n, hn0⟩ : ∃ n, n = C.length := ⟨_, rfl⟩
  have HN : Hid (n = C.length) := hn0
  have DE : Hid (∀ W vz, Below w.heap.size w W → ISl W vz (szL C) → Calls Try.prog 35 #[vz, vl, vw, .int .i64 room] W fun e w' => (∃ o, IsOrd (keyZ (szL C)) C.length o ∧ dealR W w' C.length (dealF (thT live) (wtT l) room (cntT (thT live)) (fun i => max ((szL C).getD i 0) 0) o (fun _ => 0) (fun _ => (0, 0))) e) ∧ Below W.heap.size W w') := fun W vz hb hz => by
    have := deal_any (szL C) live (by rw [szL_len]; omega) l hW room hm1 hm2 (fun x hx => by
      unfold szL at hx
      obtain ⟨y, hy, rfl⟩ := List.mem_map.1 hx
      have := hr1 y hy
      omega) vz vl vw W hz (VSl.below hl hb) (VSl.below hw hb)
    rw [szL_len] at this
    exact this
  rw [← hn0] at hc hc1 hn1 DE ⊢
  obtain ⟨DF, hDF⟩ : ∃ DF : List Nat → Option ((Nat → Int) × (Nat → Nat × Nat)), DF = fun o => dealF (thT live) (wtT l) room (cntT (thT live)) (fun i => max ((szL C).getD i 0) 0) o (fun _ => 0) (fun _ => (0, 0)) := ⟨_, rfl⟩
  have hDF' : ∀ o, dealF (thT live) (wtT l) room (cntT (thT live)) (fun i => max ((szL C).getD i 0) 0) o (fun _ => 0) (fun _ => (0, 0)) = DF o := fun o => by rw [hDF]
  simp only [hDF'] at DE ⊢
  have HC : Hid (LeavesOwn B w (.slice oc n capc) C) := hc
  have HR1 : Hid (∀ x ∈ C, x.rules.length ≤ 100000) := hr1
  unfold maxLen at hc2
  clear hc hr1 hDF hDF' hl hw hW hn0
  go_enter Try.func28, Try.ntmps28
  go_wp2_with fail
  go_loopw [10, 19] (fun v i wr => ∃ k : Nat, k ≤ n ∧ i = .int .i64 (k : Int) ∧ Hid (VOwn 3 w.heap.size wr v (inI (szL (C.take k)))) ∧ Hid (Below w.heap.size w wr)) (fun _ i _ => n - (intOf i).toNat)
  case atStart => exact ⟨0, Nat.zero_le _, rfl, VOwn.nil _ _ _, Below.refl _ _⟩
  case round =>
    obtain ⟨k, hk, rfl, HO, HB⟩ := hrel
    by_cases hlt : k < n
    · have hlt' : (k : Int) < (n : Int) := by omega
      obtain ⟨g, off, cur, ty, fr, x, u, rfl, hg, hc, hxk, hxu⟩ := (NSl.below LfR.below (leaves_sl HC.out) HB.out).at k hlt
      obtain ⟨o2, cap2, rfl⟩ := hxu.slice
      have hfit := leaf_fits hxu.1 (u := .slice o2 x.rules.length cap2) ⟨_, _, _, rfl⟩
      have hsz := leafV_size hxu.1 (.slice o2 x.rules.length cap2)
      have HT : Hid (szL (C.take (k + 1)) = szL (C.take k) ++ [(x.rules.length : Int)]) := szL_take hxk
      have hrl : x.rules.length ≤ 100000 := HR1.out x (List.mem_of_getElem? hxk)
      have hrc := (leaf_at hxu.1 (.slice o2 x.rules.length cap2)).2.2.2
      have K1 : Hid (wr.heap[g]? = some (.cells cur ty fr)) := hg
      have H1 : Hid (∀ j, j < 29 → cur[off + k * 29 + j]? = (leafV x (.slice o2 x.rules.length cap2))[j]?) := hc
      obtain ⟨w1, hw1⟩ : ∃ w1, w1 = wr.alloc (.cells (leafV x (.slice o2 x.rules.length cap2)) 48) := ⟨_, rfl⟩
      have b1 : Below wr.heap.size wr w1 := by rw [hw1]; exact (Below.refl _ _).alloc (Nat.le_refl _) _
      have B1 : Hid (Below w.heap.size w w1) := HB.out.trans (b1.mono HB.out.size)
      have O1 : Hid (VOwn 3 w.heap.size w1 u10 (inI (szL (C.take k)))) := HO.out.below b1
      have c28 : w1.cell? ⟨wr.heap.size, 28, none⟩ = some (.slice o2 x.rules.length cap2) := (cell_of_row _ _ _ _ _ _ (show w1.heap[wr.heap.size]? = some (.cells (leafV x (.slice o2 x.rules.length cap2)) 48 (0, 0)) by rw [hw1]; exact heap_new _ _ _ rfl)).trans hrc
      clear hg hc hxk hxu hrc b1 HO HB
      go_wp2_with (first | (refine wl_loadE (E := LeafE) LeafOk rfl _ rfl g (off + k * 29) rfl cur ty fr (leafV x (.slice o2 x.rules.length cap2)) hsz K1.out H1.out ?_) | (refine wl_storeE (E := LeafE) LeafOk rfl _ _ rfl wr.heap.size (leafV x (.slice o2 x.rules.length cap2)) hfit rfl rfl _ (heap_new _ _ _ rfl) rfl _ (setRow_new _ _ _ _ _ rfl) ?_; refine of_stopT ?_))
      unfold StopT
      rw [← hw1]
      clear hw1 K1 H1 hfit hsz
      generalize wr.heap.size = q at c28
      generalize x.rules.length = r at c28 HT hrl
      obtain ⟨wa, hwa⟩ : ∃ wa, wa = w1.alloc (.cells #[.int .i64 (r : Int)] 3) := ⟨_, rfl⟩
      obtain ⟨q2, hq⟩ : ∃ q, q = w1.heap.size := ⟨_, rfl⟩
      have ba : Below w1.heap.size w1 wa := by rw [hwa]; exact (Below.refl _ _).alloc (Nat.le_refl _) _
      have OA : Hid (VOwn 3 w.heap.size wa u10 (inI (szL (C.take k)))) := O1.out.below ba
      have BA : Hid (Below w.heap.size w wa) := B1.out.trans (ba.mono B1.out.size)
      have GA : Hid (wa.heap[q2]? = some (.cells #[.int .i64 (r : Int)] 3 (0, 0))) := by show _ = _; rw [hwa, hq]; exact heap_new _ _ _ rfl
      have hle : (inI (szL (C.take k))).length ≤ 1000000 := by rw [inI_len, szL_len, List.length_take]; omega
      clear ba O1 B1
      go_wp2_with (at_builtin; refine of_stopT ?_)
      unfold StopT
      rw [← hwa, ← hq]
      clear hwa hq c28
      refine wl_app1V scI rfl _ _ rfl w.heap.size u10 (inI (szL (C.take k))) (.int .i64 (r : Int)) rfl rfl OA.out q2 1 rfl GA.out hle BA.out.size ?_
      intro v3 w3 ho3 hg3 hb3
      have O3 : Hid (VOwn 3 w.heap.size w3 v3 (inI (szL (C.take (k + 1))))) := by show VOwn _ _ _ _ _; rw [HT.out, ← inI_snoc14]; exact ho3
      have B3 : Hid (Below w.heap.size w w3) := BA.out.grown hg3 BA.out.size fun j hj => (OA.out.ge j hj).1
      clear ho3 hg3 hb3 OA BA GA HT
      simp only [Act.put, List.setIfInBounds_toArray, List.set_cons_succ, List.set_cons_zero]
      go_wp2_with fail
      go_roundw
      case rel => exact ⟨k + 1, by omega, by go_num, O3, B3⟩
      case measure => simp [intOf]; omega
    · have hlt' : ¬ (k : Int) < (n : Int) := by omega
      obtain rfl : n = k := by omega
      have Z3 : Hid (ISl wr u10 (szL C)) := by
        have h := HO.out.sl
        rw [HN.out, List.take_length] at h
        exact h
      have C3 : Hid (LeavesOwn B wr (.slice oc n capc) C) := NOwn.below LfR.below HC.out HB.out
      have HBB : Hid (B ≤ w.heap.size) := hB
      clear HO
      go_wp2_with fail
      refine (DE.out wr u10 HB.out Z3.out).mono ?_
      rintro e w4 ⟨⟨o, ho, hr⟩, hb4⟩
      have HO : Hid (IsOrd (keyZ (szL C)) n o) := ho
      have C4 : Hid (LeavesOwn B w4 (.slice oc n capc) C) := NOwn.below LfR.below C3.out hb4
      have B4 : Hid (Below w.heap.size w w4) := HB.out.trans (hb4.mono HB.out.size)
      cases hd : DF o with
      | none =>
        rw [hd] at hr
        obtain rfl : e = .returned (.tuple #[.slice none 0 0, .int .i64 15]) := hr
        have HD : Hid (DF o = none) := hd
        clear hd ho hb4 C3 Z3 HB
        go_wp2_with fail
        go_ret2
        refine ⟨⟨o, HO.out, ?_⟩, B4.out.mono HBB.out⟩
        rw [HD.out]
        rfl
      | some st =>
        rw [hd] at hr
        obtain ⟨v, rfl, hv⟩ := hr
        have HD : Hid (DF o = some st) := hd
        have hv0 := hv
        have hv := POwn.at_ hv
        obtain ⟨ol, cl, rfl, hl1, hl2⟩ := GSl.slice hv
        rw [pairs_len] at hv hv0 hl1 ⊢
        unfold maxLen at hl2
        have P4 : Hid (POwn B w4 (.slice ol n cl) (pairsT st.2 n)) := own_base hv0 (Nat.le_trans HBB.out HB.out.size)
        clear hd ho hb4 C3 Z3 HB hv hv0
        go_wp2_with fail
        go_loopw [43] (fun i wr => ∃ k : Nat, k ≤ n ∧ i = .int .i64 (k : Int) ∧ Hid (LeavesOwn B wr (.slice oc n capc) (givL C st.2 k)) ∧ Hid (POwn B wr (.slice ol n cl) (pairsT st.2 n)) ∧ Hid (Below B w wr)) (fun i _ => n - (intOf i).toNat)
        case atStart => exact ⟨0, Nat.zero_le _, rfl, by show LeavesOwn _ _ _ _; rw [givL_zero]; exact C4.out, P4, B4.out.mono HBB.out⟩
        case round =>
          clear C4 P4 B4
          obtain ⟨k, hk, rfl, HC, HP, HB⟩ := hrel
          by_cases hlt : k < n
          · have hlt' : (k : Int) < (n : Int) := by omega
            obtain ⟨g2, off2, cur2, t2, fr2, p, rfl, hg2, hc2', hlk⟩ := (POwn.at_ HP.out).at k (by first | exact hlt | (rw [pairs_len]; exact hlt))
            have p0 : wr.cell? ⟨g2, off2 + k * 2, none⟩ = some (.int .i64 p.1) := (cell_of_row _ _ _ _ _ _ hg2).trans (hc2' 0 (by show 0 < 2; omega))
            have p1 : wr.cell? ⟨g2, off2 + k * 2 + 1, none⟩ = some (.int .i64 p.2) := (cell_of_row _ _ _ _ _ _ hg2).trans (hc2' 1 (by show 1 < 2; omega))
            have hpk : p = (((st.2 k).1 : Int), ((st.2 k).2 : Int)) := by
              unfold pairsT at hlk
              rw [List.getElem?_map, List.getElem?_range hlt] at hlk
              exact (Option.some.inj hlk).symm
            rw [hpk] at p0 p1
            simp only at p0 p1
            clear hpk hlk hg2 hc2'
            obtain ⟨g, x, rfl, hBg, hxk, l26, l27, f26, f27⟩ := leaves_cell HC.out k hlt
            have SET : Hid ((givL C st.2 k).set k ⟨x.cube, ((st.2 k).1 : Int), ((st.2 k).2 : Int), x.rules⟩ = givL C st.2 (k + 1)) := givL_set hxk
            have HX : Hid ((givL C st.2 k)[k]? = some x) := hxk
            generalize ((st.2 k).1 : Int) = a at p0 p1 SET
            generalize ((st.2 k).2 : Int) = b at p0 p1 SET
            obtain ⟨wp, hwp⟩ : ∃ wp, wp = wr.alloc (.cells #[.int .i64 a, .int .i64 b] 75) := ⟨_, rfl⟩
            have bp : Below wr.heap.size wr wp := by rw [hwp]; exact (Below.refl _ _).alloc (Nat.le_refl _) _
            have HCp : Hid (LeavesOwn B wp (.slice (some ⟨g, 0, none⟩) n capc) (givL C st.2 k)) := NOwn.below LfR.below HC.out bp
            have HPp : Hid (POwn B wp (.slice (some ⟨g2, off2, none⟩) n cl) (pairsT st.2 n)) := gown_below HP.out bp
            have HBp : Hid (Below B w wp) := HB.out.trans (bp.mono (Nat.le_trans HBB.out HB.out.size))
            obtain ⟨q, hq⟩ : ∃ q, q = wr.heap.size := ⟨_, rfl⟩
            have cq : wp.heap[q]? = some (.cells #[.int .i64 a, .int .i64 b] 75 (0, 0)) := by rw [hwp, hq]; exact heap_new _ _ _ rfl
            have q0 : wp.cell? ⟨q, 0, none⟩ = some (.int .i64 a) := (cell_of_row _ _ _ _ _ _ cq).trans rfl
            have q1 : wp.cell? ⟨q, 1, none⟩ = some (.int .i64 b) := (cell_of_row _ _ _ _ _ _ cq).trans rfl
            have hgq : g ≠ q := by
              have hw := World.ownsRow.lt HC.out.choose_spec.2.1 g rfl
              omega
            clear l26 l27 f26 f27 bp HC HP HB cq hxk
            obtain ⟨g', x', e', _, hx', l26, l27, f26, f27⟩ := leaves_cell HCp.out k hlt
            obtain rfl : g = g' := by simpa using e'
            clear e' hx'
            have s1 : (wp.setCell ⟨g, k * 29 + 26, none⟩ (.int .i64 a)).cell? ⟨q, 1, none⟩ = some (.int .i64 b) := (World.cell?_setCell_other _ _ _ _ (fun h => hgq (congrArg Addr.block h))).trans q1
            have s27 : (wp.setCell ⟨g, k * 29 + 26, none⟩ (.int .i64 a)).cell? ⟨g, k * 29 + 27, none⟩ = some (.int .i64 x'.two) := (World.cell?_setCell_other _ _ _ _ (fun h => by have := congrArg Addr.off h; simp at this)).trans l27
            have z27 : (wp.setCell ⟨g, k * 29 + 26, none⟩ (.int .i64 a)).frozen? ⟨g, k * 29 + 27, none⟩ = false := (World.frozen?_setCell _ _ _ _).trans f27
            obtain ⟨HC2, hgr⟩ := leaves_set HCp.out HX.out a b
            rw [SET.out] at HC2
            have HC3 : Hid (LeavesOwn B ((wp.setCell ⟨g, k * 29 + 26, none⟩ (.int .i64 a)).setCell ⟨g, k * 29 + 27, none⟩ (.int .i64 b)) (.slice (some ⟨g, 0, none⟩) n capc) (givL C st.2 (k + 1))) := HC2
            have HP3 : Hid (POwn B ((wp.setCell ⟨g, k * 29 + 26, none⟩ (.int .i64 a)).setCell ⟨g, k * 29 + 27, none⟩ (.int .i64 b)) (.slice (some ⟨g2, off2, none⟩) n cl) (pairsT st.2 n)) := own_grown hgr HPp.out (own_apart HCp.out.choose_spec.2.1 HPp.out (by decide))
            have HB3 : Hid (Below B w ((wp.setCell ⟨g, k * 29 + 26, none⟩ (.int .i64 a)).setCell ⟨g, k * 29 + 27, none⟩ (.int .i64 b))) := HBp.out.grown hgr (Nat.le_trans HBB.out HBp.out.size) (fun j hj => by cases hj; exact hBg)
            clear HC2 hgr HCp HPp HBp SET HX
            obtain ⟨w9, hw9⟩ : ∃ w9, w9 = (wp.setCell ⟨g, k * 29 + 26, none⟩ (.int .i64 a)).setCell ⟨g, k * 29 + 27, none⟩ (.int .i64 b) := ⟨_, rfl⟩
            rw [← hw9] at HC3 HP3 HB3
            go_upto_region 13 with fail
            rw [← hwp, ← hq]
            clear hwp hq p0 p1
            go_region
            rw [← hw9]
            clear hw9 s1 s27 z27 q0 q1 l26 l27 f26 f27 wp
            go_wp2_with fail
            go_roundw
            case rel => exact ⟨k + 1, by omega, by go_num, NOwn.below LfR.below HC3.out (Below.refl _ _).drew, gown_below HP3.out (Below.refl _ _).drew, HB3.out.drew⟩
            case measure => simp [intOf]; omega
          · have hlt' : ¬ (k : Int) < (n : Int) := by omega
            obtain rfl : n = k := by omega
            have HC2 : Hid (LeavesOwn B wr (.slice oc n capc) (givL C st.2 C.length)) := by
              have h := HC.out
              rw [HN.out] at h
              rw [← HN.out] at h
              rw [← HN.out]
              exact h
            clear HC HP
            go_wp2_with fail
            go_ret2
            refine ⟨⟨o, HO.out, ?_⟩, HB.out⟩
            rw [HD.out]
            exact ⟨rfl, HC2.out⟩
end Go.Proofs.Ytpbinkmeldkehaa
namespace Go.Proofs.Ytpbinkmeldkehaa
open Go Go.Lib Go.RowKit
set_option maxRecDepth 20000

/-- The bounds, as they are gone through. -/
def bdT (s : Stp) : List (Int × Int × Int) := [(s.sw, 2, 6), (s.au, 2, s.sw), (s.ca, 0, 2048), (s.ro, 2, 2048), (s.pa, 2, 64), (s.idl, 0, 1000), (s.hd, 0, 1000), (s.gr, 1, 512), (s.wi, 1, 64), (s.wa, 1, 64), (s.tr, 1, 8), (s.ti, 2, 100), (s.be, 1, 20), (s.le, wrap64 (3 * s.be), 200), (s.lo, wrap64 (3 * s.be), 200), (s.qu, wrap64 (wrap64 (wrap64 (2 * s.wa) + s.wi) + 8), 512)]
def bdA (s : Stp) : Array Value := #[.int .i64 s.sw, .int .i64 2, .int .i64 6, .int .i64 s.au, .int .i64 2, .int .i64 s.sw, .int .i64 s.ca, .int .i64 0, .int .i64 2048, .int .i64 s.ro, .int .i64 2, .int .i64 2048, .int .i64 s.pa, .int .i64 2, .int .i64 64, .int .i64 s.idl, .int .i64 0, .int .i64 1000, .int .i64 s.hd, .int .i64 0, .int .i64 1000, .int .i64 s.gr, .int .i64 1, .int .i64 512, .int .i64 s.wi, .int .i64 1, .int .i64 64, .int .i64 s.wa, .int .i64 1, .int .i64 64, .int .i64 s.tr, .int .i64 1, .int .i64 8, .int .i64 s.ti, .int .i64 2, .int .i64 100, .int .i64 s.be, .int .i64 1, .int .i64 20, .int .i64 s.le, .int .i64 (wrap64 (3 * s.be)), .int .i64 200, .int .i64 s.lo, .int .i64 (wrap64 (3 * s.be)), .int .i64 200, .int .i64 s.qu, .int .i64 (wrap64 (wrap64 (wrap64 (2 * s.wa) + s.wi) + 8)), .int .i64 512]
def inP (p : Int × Int × Int) : Bool := inT p.1 p.2.1 p.2.2
def rightT (s : Stp) : Bool := (bdT s).all inP
theorem bd_index (s : Stp) (k : Nat) (hk : k < 16) : ∃ x a b, (bdT s)[k]? = some (x, a, b) ∧ ∀ W, (Instr.index 60 (.agg (bdA s)) (.int .i64 (k : Int))).run Try.prog W = .ok (.agg #[.int .i64 x, .int .i64 a, .int .i64 b]) W := by
  rcases (show k = 0 ∨ k = 1 ∨ k = 2 ∨ k = 3 ∨ k = 4 ∨ k = 5 ∨ k = 6 ∨ k = 7 ∨ k = 8 ∨ k = 9 ∨ k = 10 ∨ k = 11 ∨ k = 12 ∨ k = 13 ∨ k = 14 ∨ k = 15 by omega) with rfl | rfl | rfl | rfl | rfl | rfl | rfl | rfl | rfl | rfl | rfl | rfl | rfl | rfl | rfl | rfl <;> exact ⟨_, _, _, rfl, fun W => by kernel_rfl⟩
theorem all_take16 {s : Stp} (h : ∀ j, j < 16 → ∀ p, (bdT s)[j]? = some p → inP p = true) : rightT s = true := by
  unfold rightT
  rw [List.all_eq_true]
  intro p hp
  obtain ⟨j, hj⟩ := List.mem_iff_getElem?.1 hp
  exact h j ((List.getElem?_eq_some_iff.1 hj).1) p hj
theorem not_all16 {s : Stp} {k : Nat} {p : Int × Int × Int} (h : (bdT s)[k]? = some p) (hn : inP p = false) : rightT s = false := by
  unfold rightT
  rw [List.all_eq_false]
  exact ⟨p, List.mem_of_getElem? h, by rw [hn]; simp⟩
set_option maxHeartbeats 8000000 in
set_option maxRecDepth 100000 in
theorem right_any (s : Stp) (w : World) : Calls Try.prog 10 #[.agg (stA s)] w fun e w' => e = .returned (.bool (rightT s)) ∧ Below w.heap.size w w' := by
  have BW : Hid (∀ n a b W, Calls Try.prog 25 #[.int .i64 n, .int .i64 a, .int .i64 b] W fun e w' => e = .returned (.bool (inT n a b)) ∧ Below W.heap.size W w') := fun n a b W => between_any n a b W
  have HALL : Hid ((∀ j, j < 16 → ∀ p, (bdT s)[j]? = some p → inP p = true) → rightT s = true) := all_take16
  have HNOT : Hid (∀ (k : Nat) p, (bdT s)[k]? = some p → inP p = false → rightT s = false) := fun k p h hn => not_all16 h hn
  have HIX : Hid (∀ k : Nat, k < 16 → ∃ x a b, (bdT s)[k]? = some (x, a, b) ∧ ∀ W, (Instr.index 60 (.agg (bdA s)) (.int .i64 (k : Int))).run Try.prog W = .ok (.agg #[.int .i64 x, .int .i64 a, .int .i64 b]) W) := bd_index s
  obtain ⟨RES, hRES⟩ : ∃ R, R = rightT s := ⟨_, rfl⟩
  rw [← hRES] at HALL HNOT ⊢
  clear hRES
  obtain ⟨c0, c1, c2, c3, c4, c5, c6, c7, c8, c9, c10, c11, c12, c13, c14, c15, c16⟩ := st_cells (st_new s w 24)
  have B0 : Hid (Below w.heap.size w (w.alloc (.cells (stA s) 24))) := (Below.refl _ _).alloc (Nat.le_refl _) _
  go_enter Try.func10, Try.ntmps10
  go_wp2_with fail
  clear c0 c1 c2 c3 c4 c5 c6 c7 c8 c9 c10 c11 c12 c13 c14 c15 c16
  obtain ⟨A, hA⟩ : ∃ A, A = bdA s := ⟨_, rfl⟩
  rw [← hA] at HIX
  unfold bdA at hA
  rw [← hA]
  clear hA
  go_loopw [69] (fun vi wr => ∃ k : Nat, k ≤ 16 ∧ vi = .int .i64 (k : Int) ∧ Hid (∀ j, j < k → ∀ p, (bdT s)[j]? = some p → inP p = true) ∧ Hid (Below w.heap.size w wr)) (fun vi _ => 16 - (intOf vi).toNat)
  case atStart => exact ⟨0, by omega, rfl, (fun j hj => by omega), B0⟩
  case round =>
    clear B0
    obtain ⟨k, hk, rfl, HK, HB⟩ := hrel
    by_cases hlt : k < 16
    · have hlt' : (k : Int) < 16 := by omega
      obtain ⟨x, a, b, hp, hix⟩ := HIX.out k hlt
      have HP : Hid ((bdT s)[k]? = some (x, a, b)) := hp
      clear hp
      have BA : Hid (Below w.heap.size w (wr.alloc (.cells #[.int .i64 x, .int .i64 a, .int .i64 b] 59))) := HB.out.alloc HB.out.size _
      go_wp2_with fail
      refine (BW.out _ _ _ _).mono ?_
      rintro e w2 ⟨rfl, hb2⟩
      have B2 : Hid (Below w.heap.size w w2) := BA.out.trans (hb2.mono BA.out.size)
      clear hb2 BA
      cases hin : inT x a b with
      | true =>
        have HN : Hid (∀ j, j < k + 1 → ∀ p, (bdT s)[j]? = some p → inP p = true) := fun j hj p hp => by
          by_cases hjk : j = k
          · subst hjk
            rw [HP.out] at hp
            cases hp
            exact hin
          · exact HK.out j (by omega) p hp
        clear hin
        go_wp2_with fail
        go_roundw
        case rel => exact ⟨k + 1, by omega, by go_num, HN, B2⟩
        case measure => simp [intOf]; omega
      | false =>
        have HR : Hid (RES = false) := HNOT.out k _ HP.out hin
        clear hin
        go_wp2_with fail
        go_ret
        exact ⟨by rw [HR.out]; rfl, B2.out⟩
    · have hlt' : ¬ (k : Int) < 16 := by omega
      obtain rfl : k = 16 := by omega
      have HR : Hid (RES = true) := HALL.out HK.out
      go_wp2_with fail
      go_ret
      exact ⟨by rw [HR.out]; rfl, HB.out⟩
end Go.Proofs.Ytpbinkmeldkehaa
