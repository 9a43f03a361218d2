import Derived.Test.YtnppfibojcgkmaaScSort
import Derived.Test.YtnppfibojcgkmaaScShare
namespace Go.Proofs.Ytnppfibojcgkmaa
open Go Go.Lib Go.RowKit Go.Sort Go.Shelf
set_option maxRecDepth 20000

def inV (o : List Nat) : List Value := o.map fun i : Nat => Value.int .i64 (i : Int)
theorem inV_len (o : List Nat) : (inV o).length = o.length := by simp [inV]
set_option maxHeartbeats 4000000 in
set_option maxRecDepth 1000000 in
theorem sort_none (g cap : Nat) (f : Value) (w : World) :
    Calls Try.prog 41 #[.slice (some ⟨g, 0, none⟩) 0 cap, f] w fun e w' => e = .returned (.tuple #[]) ∧ w' = w := by
  have HS : Hid (∀ W, Calls Try.prog 43 #[.slice (some ⟨g, 0, none⟩) 0 cap, .int .i64 0, f] W fun e w' => e = .returned (.tuple #[]) ∧ w' = W) := fun W => by
    have HI : Hid (∀ W, Calls Try.prog 44 #[.slice (some ⟨g, 0, none⟩) 0 cap, .int .i64 0, .int .i64 0, f] W fun e w' => e = .returned (.tuple #[]) ∧ w' = W) := fun W => by
      go_enter Try.func44, Try.ntmps44
      go_wp2
      go_loopg [8] 0 (fun kx s wr => s = .int .i64 1 ∧ wr = W)
      case atStart => exact ⟨rfl, rfl⟩
      case round =>
        obtain ⟨rfl, rfl⟩ := hrel
        go_wp2
        go_end0
        exact ⟨rfl, rfl⟩
    go_enter Try.func43, Try.ntmps43
    go_wp2
    go_loopg [7, 8] 0 (fun kx s7 s8 wr => s7 = .int .i64 0 ∧ s8 = .int .i64 20 ∧ wr = W)
    case atStart => exact ⟨rfl, rfl, rfl⟩
    case round =>
      obtain ⟨rfl, rfl, rfl⟩ := hrel
      go_wp2_with (go_at_call 44; refine (HI.out _).mono ?_; rintro e w' ⟨rfl, rfl⟩)
      go_loopg [6, 7, 8, 9] 0 (fun kx s6 s7 s8 s9 wr2 => ∃ a b c : Value, s6 = .int .i64 20 ∧ s7 = a ∧ s8 = b ∧ s9 = c ∧ wr2 = w')
      case atStart => exact ⟨_, _, _, rfl, rfl, rfl, rfl, rfl⟩
      case round =>
        obtain ⟨a, b, c, rfl, rfl, rfl, rfl, rfl⟩ := hrel
        go_wp2
        go_end0
        exact ⟨rfl, rfl⟩
  go_enter Try.func41, Try.ntmps41
  go_wp2_with (go_at_call 43; refine (HS.out _).mono ?_; rintro e w' ⟨rfl, rfl⟩)
  go_end0
  exact ⟨rfl, rfl⟩
theorem fin_pair (n : Nat) : (Array.ofFn (fun i : Fin n => i)).toList.Pairwise fun a b => a.val < b.val := by
  rw [Array.toList_ofFn, List.pairwise_iff_getElem]
  intro i j hi hj hij
  simp
  exact hij
set_option maxHeartbeats 4000000 in
set_option maxRecDepth 1000000 in
/-- The places are sorted. -/
theorem sort_any (l : List Nat) (hw : AllW l) (hn : l.length ≤ 1000) (vl : Value) (B c d g : Nat) (w : World) (tc td : TypeId) (fc fd : Nat × Nat)
    (hrow : VOwn 3 B w (.slice (some ⟨g, 0, none⟩) l.length l.length) (inV (List.range l.length)))
    (hc : w.heap[c]? = some (.cells #[vl] tc fc)) (hd : w.heap[d]? = some (.cells #[.func (.func 37) #[] #[.pointer (some ⟨c, 0, none⟩)]] td fd)) (hcg : c ≠ g) (hdg : d ≠ g)
    (hL : FSl w vl l) (hlg : 0 < l.length → ∀ b, vl.ownBlock = some b → b ≠ g) :
    Calls Try.prog 41 #[.slice (some ⟨g, 0, none⟩) l.length l.length, .func (.func 42) #[] #[.pointer (some ⟨d, 0, none⟩)]] w fun e w' => e = .returned (.tuple #[]) ∧ ∃ o, IsOrd (keyT l) l.length o ∧ VOwn 3 B w' (.slice (some ⟨g, 0, none⟩) l.length l.length) (inV o) ∧ w.grownBy w' (some g) := by
  rcases Nat.eq_zero_or_pos l.length with h0 | h0
  · rw [h0] at hrow ⊢
    refine (sort_none g 0 _ w).mono ?_
    rintro e w' ⟨rfl, rfl⟩
    exact ⟨rfl, [], ⟨fun i => by simp, List.Pairwise.nil⟩, by simpa using hrow, ⟨rfl, rfl, rfl, Nat.le_refl _, fun k _ _ => rfl⟩⟩
  · letI : Inhabited (Fin l.length) := ⟨⟨0, h0⟩⟩
    have hg : g < w.heap.size := (hrow.ge g rfl).2
    obtain ⟨D, hD⟩ : ∃ D : Array (Fin l.length), D = Array.ofFn (fun i : Fin l.length => i) := ⟨_, rfl⟩
    have hDs : D.size = l.length := by rw [hD]; simp
    have hDj : ∀ j, (hj : j < l.length) → D[j]! = (⟨j, hj⟩ : Fin l.length) := fun j hj => by
      rw [getElem!_pos D j (by omega)]
      subst hD
      simp
    have hH : Holds (fun i : Fin l.length => Value.int .i64 (i.val : Int)) w g 0 D := fun j hj => by
      obtain ⟨cc, h1, h2, h3⟩ := hrow.cell j (by omega)
      rw [Nat.zero_add]
      refine ⟨?_, h3⟩
      rw [h1, ← h2, hDj j (by omega)]
      unfold inV
      rw [List.getElem?_map, List.getElem?_range (by omega)]; rfl
    have hR : Row1 (fun i : Fin l.length => Value.int .i64 (i.val : Int)) w g 0 D := ⟨fun _ => rfl, hH, hg⟩
    have hcmp : CmpReads Try.prog 42 #[.pointer (some ⟨d, 0, none⟩)] (fun i : Fin l.length => Value.int .i64 (i.val : Int)) (fun i j => cmpK (keyT l) i.val j.val) g 0 D.size w := fun m os dk hs x y => by
      have e1 := (sw_heap (enc := fun i : Fin l.length => Value.int .i64 (i.val : Int)) (w := w) (blk := g) (off := 0) (m := m) (dk := dk) (os := os) c (Array.getElem?_eq_some_iff.1 hc).1 hcg).trans hc
      have e2 := (sw_heap (enc := fun i : Fin l.length => Value.int .i64 (i.val : Int)) (w := w) (blk := g) (off := 0) (m := m) (dk := dk) (os := os) d (Array.getElem?_eq_some_iff.1 hd).1 hdg).trans hd
      have := cmp_any l hw vl c d x.val y.val x.2 y.2 (sortWorld (fun i : Fin l.length => Value.int .i64 (i.val : Int)) w g 0 m dk os) (by rw [cell_of_row _ _ _ _ _ _ e1]; rfl) (VSl.of_heap hL fun b ob h1 h2 => (sw_heap b (Array.getElem?_eq_some_iff.1 h1).1 (hlg h0 b h2)).trans h1) (by rw [cell_of_row _ _ _ _ _ _ e2]; rfl)
      simpa using this
    have hs := stableI stI (fun i : Fin l.length => Value.int .i64 (i.val : Int)) (fun i => -(keyT l i.val)) (fun i j => cmpK (keyT l) i.val j.val) (fun x y => cmpK_lt (keyT l) x.val y.val) 42 #[.pointer (some ⟨d, 0, none⟩)] g 0 l.length D w (enters_of Try.func42 (by kernel_rfl) rfl) hcmp.lays hR (by omega)
    have HF : Hid (∀ w' (d' : Array (Fin l.length)), d'.size = D.size → SW (fun i : Fin l.length => Value.int .i64 (i.val : Int)) w g 0 d' w' → DescF (fun i : Fin l.length => -(keyT l i.val)) (arrF d') 0 D.size → Alike (fun i : Fin l.length => -(keyT l i.val)) (segF (arrF d') 0 D.size) (segF (arrF D) 0 D.size) → ∃ o, IsOrd (keyT l) l.length o ∧ VOwn 3 B w' (.slice (some ⟨g, 0, none⟩) l.length l.length) (inV o) ∧ w.grownBy w' (some g)) := fun w' d' q1 q2 q3 q4 => by
      have e1 := segI_all d'
      rw [q1] at e1
      have hdesc : Desc (fun i : Fin l.length => -(keyT l i.val)) d'.toList := by
        have := DescF.seg (p := fun i : Fin l.length => -(keyT l i.val)) (f := arrF d') (a := 0) (n := D.size) (by rw [Nat.zero_add]; exact q3)
        rw [e1] at this
        exact this
      rw [e1, segI_all D] at q4
      refine ⟨d'.toList.map Fin.val, ord_of_sorted (by rw [hD]; exact fin_pair _) (fun i => by rw [hD]; simp) hdesc q4, ?_, SW.grownBy q2⟩
      have h3 := own_of_sw (ty := 3) (B := B) (cap := l.length) (L := inV (List.range l.length)) q2 (by rw [q1, hDs]; exact hrow)
      rw [q1, hDs] at h3
      have e3 : inV (d'.toList.map Fin.val) = d'.toList.map (fun i : Fin l.length => Value.int .i64 (i.val : Int)) := by unfold inV; rw [List.map_map]; rfl
      rw [e3]; exact h3
    rw [hDs] at hs HF
    have HS : Hid (∀ W, W = w → Calls Try.prog 43 #[.slice (some ⟨g, 0, none⟩) l.length l.length, .int .i64 (l.length : Int), .func (.func 42) #[] #[.pointer (some ⟨d, 0, none⟩)]] W fun e w' => e = .returned (.tuple #[]) ∧ ∃ o, IsOrd (keyT l) l.length o ∧ VOwn 3 B w' (.slice (some ⟨g, 0, none⟩) l.length l.length) (inV o) ∧ w.grownBy w' (some g)) := fun W hW => by
      subst hW
      refine hs.mono ?_
      rintro e w' ⟨rfl, d', q1, q2, q3, q4⟩
      exact ⟨rfl, HF.out w' d' q1 q2 q3 q4⟩
    clear hs HF hcmp hR hH hDj hDs hD hrow hc hd hL hlg
    generalize l.length = n at HS hn h0 ⊢
    go_enter Try.func41, Try.ntmps41
    go_wp2_with (go_at_call 43; refine (HS.out _ rfl).mono ?_; rintro e w' ⟨rfl, ho⟩)
    go_end0
    exact ⟨rfl, ho⟩
theorem inV_range_at (n k : Nat) (h : k < n) : (inV (List.range n))[k]? = some (Value.int .i64 (k : Int)) := by
  unfold inV
  rw [List.getElem?_map, List.getElem?_range h]; rfl
set_option maxHeartbeats 8000000 in
set_option maxRecDepth 100000 in
theorem sorted_any (l : List Nat) (hw : AllW l) (hn : l.length ≤ 1000) (vl : Value) (c : Nat) (w : World) (tc : TypeId) (fc : Nat × Nat)
    (hc : w.heap[c]? = some (.cells #[vl] tc fc)) (hL : FSl w vl l) :
    Calls Try.prog 36 #[.int .i64 (l.length : Int), .func (.func 37) #[] #[.pointer (some ⟨c, 0, none⟩)]] w fun e w' => ∃ v o, e = .returned v ∧ IsOrd (keyT l) l.length o ∧ VOwn 3 w.heap.size w' v (inV o) ∧ Below w.heap.size w w' := by
  obtain ⟨f, hf⟩ : ∃ f, f = Value.func (.func 37) #[] #[.pointer (some ⟨c, 0, none⟩)] := ⟨_, rfl⟩
  have HS : Hid (∀ W, Below w.heap.size w W → W.heap[w.heap.size]? = some (.cells #[f] 48 (0, 0)) → VOwn 3 w.heap.size W (.slice (some ⟨w.heap.size + 1, 0, none⟩) l.length l.length) (inV (List.range l.length)) → Calls Try.prog 41 #[.slice (some ⟨w.heap.size + 1, 0, none⟩) l.length l.length, .func (.func 42) #[] #[.pointer (some ⟨w.heap.size, 0, none⟩)]] W fun e w' => e = .returned (.tuple #[]) ∧ ∃ o, IsOrd (keyT l) l.length o ∧ VOwn 3 w.heap.size w' (.slice (some ⟨w.heap.size + 1, 0, none⟩) l.length l.length) (inV o) ∧ W.grownBy w' (some (w.heap.size + 1))) := fun W hb hd ho => by
    have hcl := (Array.getElem?_eq_some_iff.1 hc).1
    refine sort_any l hw hn vl w.heap.size c w.heap.size (w.heap.size + 1) W tc _ fc (0, 0) ho ((hb.block c hcl).trans hc) (by rw [hd, hf]) (by omega) (by omega) (VSl.below hL hb) (fun h0 b hvb e => ?_)
    subst e
    obtain ⟨o, cap, rfl, h1, h2, h3, h4⟩ := hL
    obtain ⟨g, off, cur, t, fr, rfl, h5, _⟩ := h4 0 (by rw [flV_len]; exact h0)
    have e1 : g = w.heap.size + 1 := by simpa [Value.ownBlock] using hvb
    have e2 := (Array.getElem?_eq_some_iff.1 h5).1
    omega
  rw [← hf]
  have HFe : Hid (f = Value.func (.func 37) #[] #[.pointer (some ⟨c, 0, none⟩)]) := hf
  obtain ⟨n, hn0⟩ : ∃ n, n = l.length := ⟨_, rfl⟩
  rw [← hn0] at HS hn ⊢
  have HP : Hid ((inV (List.range n)).length = n ∧ ∀ k, k < n → (inV (List.range n))[k]? = some (Value.int .i64 (k : Int))) := ⟨by rw [inV_len]; simp, fun k hk => inV_range_at n k hk⟩
  have hc1 : f.cells = #[f] := by rw [hf]; rfl
  have R0 : Hid ((w.alloc (.cells #[f] 48)).heap[w.heap.size]? = some (.cells #[f] 48 (0, 0))) := heap_new _ _ _ rfl
  have B0 : Hid (Below w.heap.size w (w.alloc (.cells #[f] 48))) := (Below.refl _ _).alloc (Nat.le_refl _) _
  clear hn0 hc hL hw
  generalize inV (List.range n) = L at HP HS
  rw [hf]
  go_enter Try.func36, Try.ntmps36
  go_wp2_with (refine wl_makeV scI rfl _ _ rfl n rfl rfl (by omega) ?_; intro w1 ho hb)
  rw [← HFe.out] at hb ho ⊢
  simp only [World.size_alloc] at ho hb ⊢
  have HO : Hid (VOwn 3 w.heap.size w1 (.slice (some ⟨w.heap.size + 1, 0, none⟩) n n) (fillP L (.int .i64 0) 0)) := by
    show VOwn _ _ _ _ _
    rw [fill_zero, HP.out.1]; exact ho.base (by omega)
  have hb' : Below (w.alloc (.cells #[f] 48)).heap.size (w.alloc (.cells #[f] 48)) w1 := by simpa only [World.size_alloc] using hb
  have HB : Hid (Below w.heap.size w w1) := B0.out.trans (hb'.mono (by simp))
  have HR : Hid (w1.heap[w.heap.size]? = some (.cells #[f] 48 (0, 0))) := (hb'.block w.heap.size (by simp)).trans R0.out
  clear ho hb hb' B0 R0
  go_loopw [11] (fun i wr => ∃ k : Nat, k ≤ n ∧ i = .int .i64 (k : Int) ∧ VOwn 3 w.heap.size wr (.slice (some ⟨w.heap.size + 1, 0, none⟩) n n) (fillP L (.int .i64 0) k) ∧ Below w.heap.size w wr ∧ wr.heap[w.heap.size]? = some (.cells #[f] 48 (0, 0))) (fun i _ => n - (intOf i).toNat)
  case atStart => exact ⟨0, Nat.zero_le _, rfl, HO.out, HB.out, HR.out⟩
  case round =>
    clear HO HB HR
    obtain ⟨k, hk, rfl, ho, hb, hr⟩ := hrel
    have HO : Hid (VOwn 3 w.heap.size wr (.slice (some ⟨w.heap.size + 1, 0, none⟩) n n) (fillP L (.int .i64 0) k)) := ho
    have HB : Hid (Below w.heap.size w wr) := hb
    have HR : Hid (wr.heap[w.heap.size]? = some (.cells #[f] 48 (0, 0))) := hr
    by_cases hlt : k < n
    · have hlt' : (k : Int) < (n : Int) := by omega
      obtain ⟨cc, hcc, _, hfr⟩ := ho.cell k hlt
      have NO : Hid (VOwn 3 w.heap.size (wr.setCell ⟨w.heap.size + 1, k, none⟩ (.int .i64 (k : Int))) (.slice (some ⟨w.heap.size + 1, 0, none⟩) n n) (fillP L (.int .i64 0) (k + 1))) := by
        show VOwn _ _ _ _ _
        rw [fill_succ L _ _ k (HP.out.2 k hlt)]; exact ho.set k _
      have hgr := ho.setBelow k (.int .i64 (k : Int))
      have NB : Hid (Below w.heap.size w (wr.setCell ⟨w.heap.size + 1, k, none⟩ (.int .i64 (k : Int)))) := hb.grown hgr hb.size (fun j hj => by cases hj; omega)
      have NR : Hid ((wr.setCell ⟨w.heap.size + 1, k, none⟩ (.int .i64 (k : Int))).heap[w.heap.size]? = some (.cells #[f] 48 (0, 0))) := (hgr.block _ (Array.getElem?_eq_some_iff.1 hr).1 (fun e => by simp at e)).trans hr
      clear ho hb hr hgr
      go_wp2_with fail
      go_roundw
      case rel => exact ⟨k + 1, by omega, by go_num, NO.out, NB.out, NR.out⟩
      case measure => simp [intOf]; omega
    · have hlt' : ¬ (k : Int) < (n : Int) := by omega
      obtain rfl : k = n := by omega
      have hO := HO.out
      rw [← HP.out.1, fill_all, HP.out.1] at hO
      have HC := HS.out wr HB.out HR.out hO
      have HC' : Hid _ := HC
      clear ho hb hr hO HC HS HO HR
      go_wp2_with (go_at_call 41; refine Calls.mono HC'.out ?_; rintro e w' ⟨rfl, o, ho, hv, hg⟩)
      go_ret
      exact ⟨_, o, rfl, ho, hv, HB.out.grown hg HB.out.size (fun j hj => by cases hj; omega)⟩
set_option maxHeartbeats 8000000 in
set_option maxRecDepth 100000 in
/-- Order. -/
theorem order_any (l : List Nat) (hw : AllW l) (hn : l.length ≤ 1000) (v : Value) (w : World) (hL : FSl w v l) :
    Calls Try.prog 18 #[v] w fun e w' => ∃ v' o, e = .returned v' ∧ IsOrd (keyT l) l.length o ∧ VOwn 3 w.heap.size w' v' (inV o) ∧ Below w.heap.size w w' := by
  obtain ⟨o, cap, rfl, h1, h2⟩ := hL.slice
  have HS : Hid (Calls Try.prog 36 #[.int .i64 (l.length : Int), .func (.func 37) #[] #[.pointer (some ⟨w.heap.size, 0, none⟩)]] (w.alloc (.cells #[.slice o l.length cap] 29)) fun e w' => ∃ v o, e = .returned v ∧ IsOrd (keyT l) l.length o ∧ VOwn 3 w.heap.size w' v (inV o) ∧ Below w.heap.size w w') := by
    refine (sorted_any l hw hn _ w.heap.size _ _ (0, 0) (heap_new _ _ _ rfl) (VSl.alloc hL _)).mono ?_
    rintro e w' ⟨v', o', rfl, h3, h4, h5⟩
    exact ⟨v', o', rfl, h3, h4.base (by simp), (((Below.refl _ _).alloc (Nat.le_refl _) _).trans (h5.mono (by simp)))⟩
  generalize l.length = n at HS h1 ⊢
  clear hL hw hn
  unfold maxLen at h2
  go_enter Try.func18, Try.ntmps18
  go_wp2_with (go_at_call 36; refine HS.out.mono ?_; rintro e w' ⟨v', o', rfl, h3, h4, h5⟩)
  go_ret
  exact ⟨_, o', rfl, h3, h4, h5⟩
end Go.Proofs.Ytnppfibojcgkmaa
