import Derived.Test.YtojhckjdkafpmaaJ12
namespace Go.Proofs.Ytojhckjdkafpmaa
open Go Go.RowKit
set_option maxRecDepth 20000

theorem era_here {l : List Slt} {k : Nat} {x : Slt} (hx : l[k]? = some x) : (l.take (k + 1)).eraseIdx k = (l.take k).eraseIdx k := by
  have hl : k < l.length := (List.getElem?_eq_some_iff.1 hx).1
  rw [List.take_add_one, hx]
  have h1 : (l.take k).length = k := by rw [List.length_take]; omega
  have e2 : (l.take k).eraseIdx k = l.take k := List.eraseIdx_of_length_le (by omega)
  rw [e2, List.eraseIdx_append_of_length_le (by omega), h1]
  simp
theorem era_else {l : List Slt} {k a : Nat} {x : Slt} (hx : l[k]? = some x) (ha : k ≠ a) : (l.take (k + 1)).eraseIdx a = (l.take k).eraseIdx a ++ [x] := by
  have hl : k < l.length := (List.getElem?_eq_some_iff.1 hx).1
  rw [List.take_add_one, hx]
  have h1 : (l.take k).length = k := by rw [List.length_take]; omega
  by_cases h : a < k
  · rw [List.eraseIdx_append_of_lt_length (by omega)]; rfl
  · have e2 : (l.take k).eraseIdx a = l.take k := List.eraseIdx_of_length_le (by omega)
    rw [e2]
    exact List.eraseIdx_of_length_le (by simp; omega)
theorem era_len (l : List Slt) (k a : Nat) : ((l.take k).eraseIdx a).length ≤ l.length := by
  have h1 := List.length_eraseIdx_le (l.take k) a
  have h2 : (l.take k).length ≤ l.length := by rw [List.length_take]; omega
  omega
set_option maxHeartbeats 8000000 in
theorem rout_any (B : Nat) (w : World) (r gr : Nat) (R : Rm) (L : List Slt) (vl : Value) (h : RTabV B w r gr R L vl) (a : Nat) (hn : L.length ≤ 1000000) :
    Calls Try.prog 58 #[.pointer (some ⟨r, 0, none⟩), .int .i64 (a : Int)] w fun e w' => e = .returned (.tuple #[]) ∧ RTabTo B w w' r gr R (L.eraseIdx a) vl := by
  obtain ⟨o, cap, ev, hc1, hc2⟩ := h.own.slice
  have hl := h.own.sl
  rw [ev] at hl
  obtain ⟨n, hn0⟩ : ∃ n, n = L.length := ⟨_, rfl⟩
  have HN : Hid (n = L.length) := hn0
  have HF : Hid (∀ W, Below w.heap.size w W → W.cell? ⟨r, 0, none⟩ = some (.slice o n cap) ∧ W.frozen? ⟨r, 0, none⟩ = false) := by intro W hb; have h9 := (h.below hb).f; have h8 := h9.c0; rw [ev, ← hn0] at h8; exact ⟨h8, h9.fz 0⟩
  have FT : Hid (∀ w' u, Below w.heap.size w w' → SlotsAt w.heap.size w' u (L.eraseIdx a) → RTabTo B w (w'.setCell ⟨r, 0, none⟩ u) r gr R (L.eraseIdx a) vl) := by
    intro w' u hb hu
    exact h.put hb hu
  rw [← hn0] at hl hc1 hn
  have HL : Hid (GSl SlotE slotV w (.slice o n cap) L) := hl
  unfold maxLen at hc2
  have S0 : Hid (SlotsAt w.heap.size (w.alloc (.cells #[] 38)) (.slice (some ⟨w.heap.size, 0, none⟩) 0 0) []) := slots0 w
  clear hl hn0 h ev
  go_enter Try.func58, Try.ntmps58
  go_wp2_with (first | ((with_reducible refine wl_gE rfl ?_); refine wl_build0S rfl rfl ?_; try rw [sz_alloc]))
  go_loopw [4, 5] (fun s5 i wr => ∃ k : Nat, k ≤ n ∧ i = .int .i64 (k : Int) ∧ Hid (SlotsAt w.heap.size wr s5 ((L.take k).eraseIdx a)) ∧ Hid (Below w.heap.size w wr)) (fun _ i _ => n - (intOf i).toNat)
  case atStart => exact ⟨0, Nat.zero_le _, rfl, by show SlotsAt _ _ _ _; simpa using S0.out, (Below.refl _ _).alloc (Nat.le_refl _) _⟩
  case round =>
    obtain ⟨k, hk, rfl, HO, HB⟩ := hrel
    have c0 := (HF.out wr HB.out).1
    by_cases hlt : k < n
    · have hlt' : (k : Int) < (n : Int) := by omega
      obtain ⟨g', off, cur, ty, fr, x, rfl, hg, hcc, hxk⟩ := (GSl.below HL.out HB.out).at k hlt
      have K1 : Hid (wr.heap[g']? = some (.cells cur ty fr)) := hg
      have H1 : Hid (∀ j, j < 36 → cur[off + k * 36 + j]? = (slotV x)[j]?) := hcc
      have HX : Hid (L[k]? = some x) := hxk
      have ML : Hid (((L.take k).eraseIdx a).length ≤ 1000000) := by show _ ≤ _; have := era_len L k a; have := HN.out; omega
      have BW : Hid (Below w.heap.size w (wr.alloc (.cells (slotV x) 38))) := HB.out.alloc HB.out.size _
      have O2 : Hid (SlotsAt w.heap.size (wr.alloc (.cells (slotV x) 38)) u4 ((L.take k).eraseIdx a)) := HO.out.below ((Below.refl _ _).alloc (Nat.le_refl _) _)
      clear hg hcc hxk
      by_cases he1 : k = a
      · subst he1
        go_wp2_with fail
        go_roundw
        case rel =>
          refine ⟨k + 1, by omega, by go_num, ?_, HB⟩
          show SlotsAt _ _ _ _
          rw [era_here HX.out]
          exact HO.out
        case measure => simp [intOf]; omega
      · have hd1 : ((k : Int) == (a : Int)) = false := by simp; omega
        have hd2 : ¬ (k : Int) = (a : Int) := by omega
        have HE : Hid (k ≠ a) := he1
        clear he1
        go_wp2_with (first | ((with_reducible refine wl_gL _ rfl ?_); refine wl_loadS rfl _ rfl g' (off + k * 36) rfl x (ld_row K1.out H1.out) ?_) | ((with_reducible refine wl_gB _ rfl ?_); refine wl_build1S rfl _ rfl x rfl ?_; try rw [sz_alloc]) | (at_builtin; refine of_stopS ?_))
        unfold StopS
        refine wl_appendS rfl _ _ rfl w.heap.size u4 ((L.take k).eraseIdx a) x rfl O2.out wr.heap.size 1 rfl (heap_new _ _ _ rfl) ML.out BW.out.size ?_
        intro v' w3 hown3 hgr3 _
        have B3 : Hid (Below w.heap.size w w3) := BW.out.trans ((Below.refl _ _).grown hgr3 BW.out.size fun k hk => (O2.out.lt k hk).1)
        have O3 : Hid (SlotsAt w.heap.size w3 v' ((L.take (k + 1)).eraseIdx a)) := by show SlotsAt _ _ _ _; rw [era_else HX.out HE.out]; exact hown3
        clear hown3 hgr3
        simp only [Act.put, List.setIfInBounds_toArray, List.set_cons_succ, List.set_cons_zero]
        go_wp2_with fail
        go_roundw
        case rel => exact ⟨k + 1, by omega, by go_num, O3, B3⟩
        case measure => simp [intOf]; omega
    · have hlt' : ¬ (k : Int) < (n : Int) := by omega
      have hkn : k = n := by omega
      have EL : Hid (SlotsAt w.heap.size wr u4 (L.eraseIdx a)) := by
        have := HO.out
        rw [hkn, HN.out, List.take_length] at this
        exact this
      have FX : Hid _ := FT.out wr u4 HB.out EL.out
      obtain ⟨o7, cap7, e7, _, _⟩ := EL.out.slice
      have f0 := (HF.out wr HB.out).2
      rw [e7] at FX
      clear HO hkn EL
      subst e7
      go_wp2_with fail
      go_end0
      exact ⟨rfl, FX.out⟩
end Go.Proofs.Ytojhckjdkafpmaa
