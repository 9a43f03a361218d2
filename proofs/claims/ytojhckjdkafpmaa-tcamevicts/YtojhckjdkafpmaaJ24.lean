import Derived.Test.YtojhckjdkafpmaaJ23
import Derived.Test.YtojhckjdkafpmaaJ21
import Derived.Test.YtojhckjdkafpmaaJ11
import Derived.Test.YtojhckjdkafpmaaJ15
namespace Go.Proofs.Ytojhckjdkafpmaa
open Go Go.RowKit
set_option maxRecDepth 20000

/-- An epoch's slots by the rising order. -/
def RulesR (S : Bks) (e : Int) (m : List Slt) : Prop := SortedT (S.a.filter fun x => x.epoch == e) m
theorem rulesR_one {S : Bks} {e : Int} {m m' : List Slt} (h : RulesR S e m) (h' : RulesR S e m') : m = m' := sorted_one h.desc h'.desc (h.alike.trans h'.alike.symm)
set_option maxHeartbeats 16000000 in
theorem rules_any (B : Nat) (w : World) (g : Nat) (R : Rm) (S : Bks) (v1 v2 v3 : Value) (h : TabV B w g R S v1 v2 v3) (e : Int) (hn : S.a.length ≤ 1000000) :
    Calls Try.prog 33 #[.pointer (some ⟨g, 0, none⟩), .int .i64 e] w fun r w' => (∃ u m, r = .returned u ∧ RulesR S e m ∧ SlotsAt w.heap.size w' u m) ∧ Below w.heap.size w w' := by
  have c6 := h.f.c6
  obtain ⟨o, cap, ev, hc1, hc2⟩ := h.o2.slice
  rw [ev] at c6
  have hl := h.o2.sl
  rw [ev] at hl
  obtain ⟨C, hCC⟩ : ∃ C, C = S.a := ⟨_, rfl⟩
  have HR : Hid (∀ m, SortedT (C.filter fun x => x.epoch == e) m → RulesR S e m) := by intro m hm; rw [hCC] at hm; exact hm
  rw [← hCC] at hl hc1 hn c6
  obtain ⟨n, hn0⟩ : ∃ n, n = C.length := ⟨_, rfl⟩
  have HN : Hid (n = C.length) := hn0
  rw [← hn0] at hl hc1 hn c6
  have HL : Hid (GSl SlotE slotV w (.slice o n cap) C) := hl
  have ST : Hid (∀ (m : List Slt) v W, SlotsAt w.heap.size W v m → m.length ≤ 1000000 → Calls Try.prog 60 #[v, .func (.func 61) #[] #[]] W fun e w' => e = .returned (.tuple #[]) ∧ ∃ m', SortedT m m' ∧ SlotsAt w.heap.size w' v m' ∧ W.grownBy w' v.ownBlock) := by
    intro m v W h1 h2
    exact sortT_any _ m v W h1 h2
  unfold maxLen at hc2
  clear hl hn0 h hCC ev
  go_enter Try.func33, Try.ntmps33
  go_wp2_with fail
  go_loopw [5, 16] (fun s5 i wr => ∃ k : Nat, k ≤ n ∧ i = .int .i64 (k : Int) ∧ Hid (SlotsAt w.heap.size wr s5 ((C.take k).filter fun x => x.epoch == e)) ∧ Hid (Below w.heap.size w wr)) (fun _ i _ => n - (intOf i).toNat)
  case atStart => exact ⟨0, Nat.zero_le _, rfl, SlotsAt.nil _ _, Below.refl _ _⟩
  case round =>
    obtain ⟨k, hk, rfl, HO, HB⟩ := hrel
    by_cases hlt : k < n
    · have hlt' : (k : Int) < (n : Int) := by omega
      obtain ⟨g', off, cur, ty, fr, x, rfl, hg, hcc, hxk⟩ := (GSl.below HL.out HB.out).at k hlt
      have K1 : Hid (wr.heap[g']? = some (.cells cur ty fr)) := hg
      have H1 : Hid (∀ j, j < 36 → cur[off + k * 36 + j]? = (slotV x)[j]?) := hcc
      have HX : Hid (C[k]? = some x) := hxk
      have KN : Hid ((wr.alloc (.cells (slotV x) 38)).heap[wr.heap.size]? = some (.cells (slotV x) 38 (0, 0))) := heap_new _ _ _ rfl
      have c1 := (new_slf wr x 38).c1
      rw [Nat.zero_add] at c1
      have ML : Hid (((C.take k).filter fun x => x.epoch == e).length ≤ 1000000) := by show _ ≤ _; have := filt_len (l := C) k fun x => x.epoch == e; omega
      have BW : Hid (Below w.heap.size w ((wr.alloc (.cells (slotV x) 38)).alloc (.cells (slotV x) 38))) := (HB.out.alloc HB.out.size _).alloc (by have := HB.out.size; simp; omega) _
      have B1 : Hid (Below w.heap.size w (wr.alloc (.cells (slotV x) 38))) := HB.out.alloc HB.out.size _
      have O1 : Hid (SlotsAt w.heap.size (wr.alloc (.cells (slotV x) 38)) u5 ((C.take k).filter fun x => x.epoch == e)) := HO.out.below ((Below.refl _ _).alloc (Nat.le_refl _) _)
      have O2 : Hid (SlotsAt w.heap.size ((wr.alloc (.cells (slotV x) 38)).alloc (.cells (slotV x) 38)) u5 ((C.take k).filter fun x => x.epoch == e)) := O1.out.below ((Below.refl _ _).alloc (Nat.le_refl _) _)
      clear hg hcc hxk
      by_cases he : x.epoch = e
      · have HE : Hid ((x.epoch == e) = true) := by show _ = _; simpa using he
        go_wp2_with (first | ((with_reducible refine wl_gL _ rfl ?_); refine wl_loadS rfl _ rfl g' (off + k * 36) rfl x (ld_row K1.out H1.out) ?_) | ((with_reducible refine wl_gL _ rfl ?_); refine wl_loadS rfl _ rfl wr.heap.size 0 rfl x (ld_own KN.out) ?_) | ((with_reducible refine wl_gA rfl ?_); refine wl_allocS rfl rfl ?_; try rw [sz_alloc]) | ((with_reducible refine wl_gS _ _ rfl ?_); refine wl_storeS rfl _ _ rfl wr.heap.size x zeroS rfl rfl (heap_new _ _ _ rfl) _ (setRow_new _ _ _ _ _ rfl) ?_) | ((with_reducible refine wl_gB _ rfl ?_); refine wl_build1S rfl _ rfl x rfl ?_; try rw [sz_alloc]) | (at_builtin; refine of_stopS ?_))
        unfold StopS
        refine wl_appendS rfl _ _ rfl w.heap.size u5 ((C.take k).filter fun x => x.epoch == e) x rfl O2.out (wr.heap.size + 1) 1 rfl (heap_new _ _ _ (by simp)) ML.out BW.out.size ?_
        intro v' w3 hown3 hgr3 _
        have B3 : Hid (Below w.heap.size w w3) := BW.out.trans ((Below.refl _ _).grown hgr3 BW.out.size fun k hk => (O2.out.lt k hk).1)
        have O3 : Hid (SlotsAt w.heap.size w3 v' ((C.take (k + 1)).filter fun x => x.epoch == e)) := by show SlotsAt _ _ _ _; rw [filt_yes HX.out HE.out]; exact hown3
        clear hown3 hgr3
        simp only [Act.put, List.setIfInBounds_toArray, List.set_cons_succ, List.set_cons_zero]
        go_wp2_with fail
        go_roundw
        case rel => exact ⟨k + 1, by omega, by go_num, O3, B3⟩
        case measure => simp [intOf]; omega
      · have HE : Hid ((x.epoch == e) = false) := by show _ = _; simpa using he
        go_wp2_with (first | ((with_reducible refine wl_gL _ rfl ?_); refine wl_loadS rfl _ rfl g' (off + k * 36) rfl x (ld_row K1.out H1.out) ?_) | ((with_reducible refine wl_gA rfl ?_); refine wl_allocS rfl rfl ?_; try rw [sz_alloc]) | ((with_reducible refine wl_gS _ _ rfl ?_); refine wl_storeS rfl _ _ rfl wr.heap.size x zeroS rfl rfl (heap_new _ _ _ rfl) _ (setRow_new _ _ _ _ _ rfl) ?_))
        go_roundw
        case rel =>
          refine ⟨k + 1, by omega, by go_num, ?_, B1⟩
          show SlotsAt _ _ _ _
          rw [filt_no HX.out HE.out]
          exact O1.out
        case measure => simp [intOf]; omega
    · have hlt' : ¬ (k : Int) < (n : Int) := by omega
      have hkn : k = n := by omega
      have EL : Hid (SlotsAt w.heap.size wr u5 (C.filter fun x => x.epoch == e)) := by
        have := HO.out
        rw [hkn, HN.out, List.take_length] at this
        exact this
      have ML : Hid ((C.filter fun x => x.epoch == e).length ≤ 1000000) := by show _ ≤ _; have := List.length_filter_le (fun x : Slt => x.epoch == e) C; have := HN.out; omega
      clear HO hkn
      go_wp2_with fail
      refine (ST.out _ u5 _ EL.out ML.out).mono ?_
      rintro r w1 ⟨rfl, m', hs, ho, hg3⟩
      have B1 : Hid (Below w.heap.size w w1) := HB.out.trans ((Below.refl _ _).grown hg3 HB.out.size fun k hk => (EL.out.lt k hk).1)
      have S1 : Hid (SortedT (C.filter fun x => x.epoch == e) m') := hs
      have O1 : Hid (SlotsAt w.heap.size w1 u5 m') := ho
      clear hs ho hg3
      go_wp2_with fail
      go_ret
      exact ⟨⟨_, m', rfl, HR.out m' S1.out, O1.out⟩, B1.out⟩
end Go.Proofs.Ytojhckjdkafpmaa
namespace Go.Proofs.Ytojhckjdkafpmaa
open Go Go.RowKit
set_option maxRecDepth 20000

theorem sortedT_nil : SortedT [] [] := ⟨rfl, List.Pairwise.nil, fun _ => rfl⟩
theorem insT {D m : List Slt} {x : Slt} {p : Nat} (h : SortedT D m) (hp : p ≤ m.length) (h1 : ∀ j y, p ≤ j → m[j]? = some y → x.order < y.order) (h2 : p = 0 ∨ ∃ y, m[p - 1]? = some y ∧ y.order ≤ x.order) : SortedT (D ++ [x]) (m.take p ++ x :: m.drop p) := by
  have hd := h.desc
  have hA : ∀ y ∈ m.take p, y.order ≤ x.order := fun y hy => by
    rcases h2 with rfl | ⟨z, hz, hzo⟩
    · simp at hy
    · by_cases hp0 : p = 0
      · subst hp0; simp at hy
      · obtain ⟨j, hj⟩ := List.mem_iff_getElem?.1 hy
        have hj' := (List.getElem?_eq_some_iff.1 hj).1
        rw [List.length_take] at hj'
        rw [List.getElem?_take_of_lt (by omega)] at hj
        by_cases hjp : j = p - 1
        · subst hjp; rw [hz] at hj; cases hj; exact hzo
        · have := (List.pairwise_iff_getElem.1 hd) j (p - 1) (by omega) (by omega) (by omega)
          have e1 := (List.getElem?_eq_some_iff.1 hj).2
          have e2 := (List.getElem?_eq_some_iff.1 hz).2
          rw [e1, e2] at this
          unfold ordK at this
          omega
  have hB : ∀ y ∈ m.drop p, x.order < y.order := fun y hy => by
    obtain ⟨j, hj⟩ := List.mem_iff_getElem?.1 hy
    rw [List.getElem?_drop] at hj
    exact h1 (p + j) y (by omega) hj
  have hs := sorted_insert (A := m.take p) (B := m.drop p) (x := x) (by rw [List.take_append_drop]; exact hd) hA hB
  refine ⟨by have := h.len; simp; omega, hs.1, fun k => ?_⟩
  rw [hs.2 k, List.take_append_drop, List.filter_append, List.filter_append, h.alike k]
theorem shift_one {m : List Slt} {j : Nat} {y z : Slt} (hy : m[j]? = some y) : (m.take (j + 1) ++ z :: m.drop (j + 1)).set (j + 1) y = m.take j ++ y :: m.drop j := by
  have hl : j < m.length := (List.getElem?_eq_some_iff.1 hy).1
  have h1 : (m.take (j + 1)).length = j + 1 := by rw [List.length_take]; omega
  rw [List.set_append_right _ _ (by omega), h1, Nat.sub_self, List.set_cons_zero, List.take_add_one, hy]
  have e := (List.getElem?_eq_some_iff.1 hy).2
  have e2 : m.drop j = y :: m.drop (j + 1) := by rw [← e]; exact List.drop_eq_getElem_cons hl
  rw [e2]
  simp
theorem put_here {m : List Slt} {p : Nat} {x z : Slt} (hp : p ≤ m.length) : (m.take p ++ z :: m.drop p).set p x = m.take p ++ x :: m.drop p := by
  have h1 : (m.take p).length = p := by rw [List.length_take]; omega
  rw [List.set_append_right _ _ (by omega), h1, Nat.sub_self, List.set_cons_zero]
theorem at_shift {m : List Slt} {j : Nat} {z : Slt} (hj : j < m.length) : (m.take (j + 1) ++ z :: m.drop (j + 1))[j]? = m[j]? := by
  have h1 : (m.take (j + 1)).length = j + 1 := by rw [List.length_take]; omega
  rw [List.getElem?_append_left (by omega), List.getElem?_take_of_lt (by omega)]
theorem TwoL.row {w wr w3 : World} {g n cap : Nat} {s6 : Value} {A A' G : List Slt} {cs : Array Value} (h : TwoL w wr (.slice (some ⟨g, 0, none⟩) n cap) s6 A G) (hw : wr.setRow g cs = w3) (hown : SlotsAt w.heap.size w3 (.slice (some ⟨g, 0, none⟩) n cap) A') : TwoL w w3 (.slice (some ⟨g, 0, none⟩) n cap) s6 A' G := by
  have hg : w.heap.size ≤ g := (h.o.lt g rfl).1
  subst hw
  refine ⟨hown, h.g.kept (kept_setRow _ _ _) fun k e e' => ?_, h.d, below_setRow h.b hg _⟩
  unfold isB at e'
  subst e'
  exact h.d k rfl e
theorem TwoL.below {w wr W : World} {s5 s6 : Value} {A G : List Slt} (h : TwoL w wr s5 s6 A G) (hb : Below wr.heap.size wr W) : TwoL w W s5 s6 A G := ⟨h.o.below hb, h.g.below hb, h.d, below_step h.b h.b.size hb⟩
theorem slot_ld {B : Nat} {W : World} {g n cap : Nat} {C : List Slt} (h : SlotsAt B W (.slice (some ⟨g, 0, none⟩) n cap) C) (i : Nat) {y : Slt} (hy : C[i]? = some y) : (loadVar 38 ⟨g, i * 36, none⟩).run Try.prog W = .ok (.agg (slotV y)) W ∧ W.cell? ⟨g, i * 36 + 3, none⟩ = some (.int .i64 y.order) := by
  have hi : i < C.length := (List.getElem?_eq_some_iff.1 hy).1
  have hn : n = C.length := by obtain ⟨o, c, e, _⟩ := h.slice; simp only [Value.slice.injEq] at e; exact e.2.1
  obtain ⟨g2, off2, cur2, ty2, fr2, x2, ho2, hg2, hcc2, hx2⟩ := h.sl.at i (by omega)
  simp only [Option.some.injEq, Addr.mk.injEq, and_true] at ho2
  obtain ⟨rfl, rfl⟩ := ho2
  obtain rfl : x2 = y := by rw [hy] at hx2; exact (Option.some.inj hx2).symm
  have hcc3 : ∀ j, j < 36 → cur2[0 + i * 36 + j]? = (slotV x2)[j]? := hcc2
  rw [Nat.zero_add] at hcc3
  exact ⟨ld_row hg2 hcc3, (slf_of hg2 hcc3).c3⟩
set_option maxHeartbeats 32000000 in
theorem rrules_any (B : Nat) (w : World) (r gr : Nat) (R : Rm) (L : List Slt) (vl : Value) (h : RTabV B w r gr R L vl) (e : Int) (hn : L.length ≤ 1000000) :
    Calls Try.prog 34 #[.pointer (some ⟨r, 0, none⟩), .int .i64 e] w fun q w' => (∃ u m, q = .returned u ∧ RulesR (bks L) e m ∧ SlotsAt w.heap.size w' u m) ∧ Below w.heap.size w w' := by
  have SL : Hid (∀ W, Below w.heap.size w W → Calls Try.prog 38 #[.pointer (some ⟨r, 0, none⟩), .int .i64 2] W fun e w' => (∃ u, e = .returned u ∧ SlotsAt W.heap.size w' u (bkOf L 2)) ∧ Below W.heap.size W w') := by
    intro W hb
    exact rslots_any B W r gr R L vl (h.below hb) 2 hn
  obtain ⟨D, hD⟩ : ∃ D, D = bkOf L 2 := ⟨_, rfl⟩
  have HR : Hid (∀ m, SortedT (D.filter fun x => x.epoch == e) m → RulesR (bks L) e m) := by intro m hm; rw [hD] at hm; exact hm
  have DL : Hid (D.length ≤ 1000000) := by show _ ≤ _; rw [hD]; exact Nat.le_trans (List.length_filter_le _ _) hn
  rw [← hD] at SL
  have B0 : Hid (Below w.heap.size w (w.alloc (.cells #[] 38))) := (Below.refl _ _).alloc (Nat.le_refl _) _
  have S0 : Hid (SlotsAt w.heap.size (w.alloc (.cells #[] 38)) (.slice (some ⟨w.heap.size, 0, none⟩) 0 0) []) := slots0 w
  have SL0 := SL.out _ B0.out
  clear h hD SL
  go_enter Try.func34, Try.ntmps34
  go_wp2_with (first | ((with_reducible refine wl_gE rfl ?_); refine wl_build0S rfl rfl ?_; try rw [sz_alloc]) | (go_at_call 38; refine SL0.mono ?_; rintro q w1 ⟨⟨u6, rfl, hu⟩, hb1⟩; refine of_stopS ?_))
  unfold StopS
  have TW : Hid (TwoL w w1 (.slice (some ⟨w.heap.size, 0, none⟩) 0 0) u6 [] D) := by
    refine ⟨S0.out.below hb1, hu.base (by simp), fun j e1 e2 => ?_, below_step B0.out B0.out.size hb1⟩
    have h1 := (hu.lt j e2).1
    simp only [Value.ownBlock, Option.some.injEq] at e1
    simp at h1
    omega
  obtain ⟨o6, cap6, rfl, hc1, hc2⟩ := hu.slice
  obtain ⟨n, hn0⟩ : ∃ n, n = D.length := ⟨_, rfl⟩
  have HN : Hid (n = D.length) := hn0
  rw [← hn0] at TW hc1
  rw [← hn0]
  have hnn : n ≤ 1000000 := by rw [hn0]; exact DL.out
  unfold maxLen at hc2
  clear hn0 hu hb1 SL0 B0 S0
  go_wp2_with fail
  go_loopw [5, 7] (fun s5 s7 wr => ∃ (k : Nat) (m : List Slt), k ≤ n ∧ s7 = .int .i64 (k : Int) ∧ Hid (SortedT ((D.take k).filter fun x => x.epoch == e) m) ∧ Hid (m.length ≤ k) ∧ Hid (TwoL w wr s5 (.slice o6 n cap6) m D)) (fun _ i _ => n - (intOf i).toNat)
  case atStart => exact ⟨0, [], Nat.zero_le _, rfl, sortedT_nil, Nat.le_refl _, TW⟩
  case round =>
    clear TW
    obtain ⟨k, m, hk, rfl, HS, HM, HT⟩ := hrel
    by_cases hlt : k < n
    · have hlt' : (k : Int) < (n : Int) := by omega
      obtain ⟨g', off, cur, ty, fr, x, rfl, hg, hcc, hxk⟩ := HT.out.g.sl.at k (by have := HN.out; omega)
      obtain ⟨g6, hg6⟩ := HT.out.g.own0 (by have := HN.out; omega)
      obtain ⟨rfl, rfl⟩ : g' = g6 ∧ off = 0 := by simp only [Option.some.injEq, Addr.mk.injEq, and_true] at hg6; exact hg6
      have HX : Hid (D[k]? = some x) := hxk
      have hcc : ∀ j, j < 36 → cur[0 + k * 36 + j]? = (slotV x)[j]? := hcc
      rw [Nat.zero_add] at hcc
      have c1 := (slf_of hg hcc).c1
      clear hg hcc hxk hg6
      by_cases he : x.epoch = e
      · have HE : Hid ((x.epoch == e) = true) := by show _ = _; simpa using he
        obtain ⟨o5, cap5, rfl, hd1, hd2⟩ := HT.out.o.slice
        obtain ⟨q, hq0⟩ : ∃ q, q = m.length := ⟨_, rfl⟩
        have HQ : Hid (q = m.length) := hq0
        rw [← hq0] at HT HM hd1
        rw [← hq0]
        have hqk : q ≤ k := HM.out
        unfold maxLen at hd2
        have LX : Hid (∀ W s5 m', TwoL w W s5 (.slice (some ⟨g', 0, none⟩) n cap6) m' D → (loadVar 38 ⟨g', k * 36, none⟩).run Try.prog W = .ok (.agg (slotV x)) W ∧ W.cell? ⟨g', k * 36 + 3, none⟩ = some (.int .i64 x.order)) := by
          intro W s5 m' hW
          obtain ⟨g2, off2, cur2, ty2, fr2, x2, ho2, hg2, hcc2, hx2⟩ := hW.g.sl.at k (by have := HN.out; omega)
          simp only [Option.some.injEq, Addr.mk.injEq, and_true] at ho2
          obtain ⟨rfl, rfl⟩ := ho2
          obtain rfl : x2 = x := by have := HX.out; rw [this] at hx2; exact (Option.some.inj hx2).symm
          rw [Nat.zero_add] at hcc2
          exact ⟨ld_row hg2 hcc2, (slf_of hg2 hcc2).c3⟩
        clear hq0 c1
        have c1 : wr.cell? ⟨g', k * 36 + 1, none⟩ = some (.int .i64 e) := by
          obtain ⟨g2, off2, cur2, ty2, fr2, x2, ho2, hg2, hcc2, hx2⟩ := HT.out.g.sl.at k (by have := HN.out; omega)
          simp only [Option.some.injEq, Addr.mk.injEq, and_true] at ho2
          obtain ⟨rfl, rfl⟩ := ho2
          obtain rfl : x2 = x := by have := HX.out; rw [this] at hx2; exact (Option.some.inj hx2).symm
          rw [Nat.zero_add] at hcc2
          rw [← he]
          exact (slf_of hg2 hcc2).c1
        clear he
        go_wp2_with fail
        go_loopw [8] (fun s8 W => ∃ p : Nat, p ≤ q ∧ s8 = .int .i64 (p : Int) ∧ Hid (∀ j y, p ≤ j → m[j]? = some y → x.order < y.order) ∧ Hid (TwoL w W (.slice o5 q cap5) (.slice (some ⟨g', 0, none⟩) n cap6) m D)) (fun s8 _ => (intOf s8).toNat)
        case atStart => exact ⟨q, Nat.le_refl _, rfl, fun j y hj hy => by have h1 := (List.getElem?_eq_some_iff.1 hy).1; have := HQ.out; omega, HT⟩
        case round =>
          obtain ⟨p, hp, rfl, HG, HTW⟩ := hrel
          obtain ⟨W0, hWW⟩ : ∃ W, W = wr := ⟨_, rfl⟩
          rw [← hWW] at HTW
          rw [← hWW]
          clear hWW
          have ne1 := Later.ne W0
          have dx : ∀ u : Later W0, u.world.cell? ⟨g', k * 36 + 3, none⟩ = some (.int .i64 x.order) := fun u => (LX.out _ _ _ (HTW.out.below u.below)).2
          by_cases hp0 : p = 0
          · have hpd : decide ((p : Int) > 0) = false := decide_eq_false (by omega)
            have hpd2 : decide (0 < (p : Int)) = false := hpd
            have hpd3 : decide (0 < p) = false := decide_eq_false (by omega)
            have H2 : Hid (p = 0 ∨ ∃ y, m[p - 1]? = some y ∧ y.order ≤ x.order) := .inl hp0
            clear hp0
            go_wp2_with fail
            refine wp_region_later (by kernel_rfl) (by kernel_rfl) ?_
            go_big_quiet_step (rfl)
            go_big_quiet_step (rfl)
            go_big_quiet_step (rfl)
            go_big_quiet_step (rfl)
            go_big_quiet_step (rfl)
            go_big_quiet_step (rfl)
            go_big_quiet_step (rfl)
            go_big_quiet_step (rfl)
            go_big_quiet_step (rfl)
            go_big_quiet_step (rfl)
            go_big_quiet_step (rfl)
            go_big_quiet_step (rfl)
            go_big_quiet_step (rfl)
            go_big_quiet_step (rfl)
            go_big_quiet_step (rfl)
            go_big_quiet_step (rfl)
            refine wpQuiet_nil ?_
            rintro w' ⟨u, rfl⟩
            have HW : Hid (TwoL w u.world (.slice o5 q cap5) (.slice (some ⟨g', 0, none⟩) n cap6) m D) := HTW.out.below u.below
            obtain ⟨W, hWW⟩ : ∃ W, u.world = W := ⟨_, rfl⟩
            rw [hWW] at HW
            rw [hWW]
            clear hWW HTW dx ne1 hpd hpd2 hpd3
            have INS : Hid (SortedT ((D.take (k + 1)).filter fun x => x.epoch == e) (m.take p ++ x :: m.drop p)) := by show SortedT _ _; rw [filt_yes HX.out HE.out]; exact insT HS.out (by rw [← HQ.out]; exact hp) HG.out H2.out
            obtain ⟨lx, _⟩ := LX.out W _ _ HW.out
            have LX1 : Hid _ := lx
            clear lx
            have BA : Hid (Below W.heap.size W (W.alloc (.cells (slotV x) 38))) := (Below.refl _ _).alloc (Nat.le_refl _) _
            go_wp2_with (first | ((with_reducible refine wl_gL _ rfl ?_); refine wl_loadS rfl _ rfl g' (k * 36) rfl x LX1.out ?_) | ((with_reducible refine wl_gB _ rfl ?_); refine wl_build1S rfl _ rfl x rfl ?_; try rw [sz_alloc]) | (at_builtin; refine of_stopS ?_))
            unfold StopS
            refine wl_appendS rfl _ _ rfl w.heap.size (.slice o5 q cap5) m x rfl (HW.out.o.below BA.out) W.heap.size 1 rfl (heap_new _ _ _ rfl) (by have := HQ.out; omega) (by have h1 := HW.out.b.size; simp; omega) ?_
            intro v' w3 hown3 hgr3 hat3
            have T3 : Hid (TwoL w w3 v' (.slice (some ⟨g', 0, none⟩) n cap6) (m ++ [x]) D) := HW.out.addO BA.out hown3 hgr3 hat3
            clear hown3 hgr3 hat3 BA LX1
            obtain ⟨o9, cap9, ev9, he1, he2⟩ := T3.out.o.slice
            have hl9 : (m ++ [x]).length = q + 1 := by rw [HQ.out]; simp
            rw [hl9] at ev9 he1
            obtain ⟨g9, hg9⟩ := (show SlotsAt w.heap.size w3 (.slice o9 (q + 1) cap9) (m ++ [x]) by rw [← ev9]; exact T3.out.o).own0 (by rw [hl9]; omega)
            subst hg9
            subst ev9
            unfold maxLen at he2
            clear hl9 HW HS
            simp only [Act.put, List.setIfInBounds_toArray, List.set_cons_succ, List.set_cons_zero]
            go_wp2_with fail
            go_loopw [9] (fun s9 W => ∃ (j : Nat) (z : Slt), p ≤ j ∧ j ≤ q ∧ s9 = .int .i64 (j : Int) ∧ Hid (TwoL w W (.slice (some ⟨g9, 0, none⟩) (q + 1) cap9) (.slice (some ⟨g', 0, none⟩) n cap6) (m.take j ++ z :: m.drop j) D)) (fun s9 _ => (intOf s9).toNat)
            case atStart => exact ⟨q, x, hp, Nat.le_refl _, by go_num, by show TwoL _ _ _ _ _ _; rw [HQ.out, List.take_length, List.drop_length]; rw [← HQ.out]; exact T3.out⟩
            case round =>
              clear T3
              obtain ⟨j, z, hpj, hjq, rfl, HW⟩ := hrel
              obtain ⟨W, hWW⟩ : ∃ W, W = wr := ⟨_, rfl⟩
              rw [← hWW] at HW
              rw [← hWW]
              clear hWW
              by_cases hlt9 : p < j
              · obtain ⟨i, rfl⟩ : ∃ i, j = i + 1 := ⟨j - 1, by omega⟩
                have ej : ((i + 1 : Nat) : Int) = (i : Int) + 1 := by omega
                have hgt : (i : Int) + 1 > (p : Int) := by omega
                obtain ⟨y, hy⟩ : ∃ y, m[i]? = some y := ⟨_, List.getElem?_eq_getElem (by have := HQ.out; omega)⟩
                obtain ⟨ls, _⟩ := slot_ld HW.out.o i (y := y) (by rw [at_shift (by have := HQ.out; omega)]; exact hy)
                have LS : Hid _ := ls
                obtain ⟨cur, hcur, hsz, hst⟩ := HW.out.o.store (i + 1) (by rw [List.length_append, List.length_take, List.length_cons, List.length_drop]; have := HQ.out; omega) y
                have HC : Hid (W.heap[g9]? = some (.cells cur 38 (0, 0))) := hcur
                have HSZ : Hid ((i + 1) * 36 + 36 ≤ cur.size) := hsz
                obtain ⟨w6, hw6⟩ : ∃ w6, W.setRow g9 (cur.toList.take ((i + 1) * 36) ++ (slotV y).toList ++ cur.toList.drop ((i + 1) * 36 + 36)).toArray = w6 := ⟨_, rfl⟩
                have T6 : Hid (TwoL w w6 (.slice (some ⟨g9, 0, none⟩) (q + 1) cap9) (.slice (some ⟨g', 0, none⟩) n cap6) (m.take i ++ y :: m.drop i) D) := HW.out.row hw6 (by rw [← shift_one (z := z) hy]; exact hst w6 (by rw [← hw6]; exact setRow_heap _ _ _ _ _ _ hcur))
                have HW6 : Hid (_ = w6) := hw6
                have i1 : (i : Int) < (q : Int) + 1 := by omega
                have i2 : (i : Int) + 1 < (q : Int) + 1 := by omega
                have i3 : ((q + 1 : Nat) : Int) = (q : Int) + 1 := by omega
                clear hst hcur hsz hw6 hy ls
                rw [ej]
                go_wp2_with (first | ((with_reducible refine wl_gL _ rfl ?_); refine wl_loadS rfl _ rfl g9 (i * 36) rfl y LS.out ?_) | ((with_reducible refine wl_gS _ _ rfl ?_); refine wl_storeAtW rfl _ _ rfl g9 ((i + 1) * 36) y rfl rfl cur _ HC.out HSZ.out w6 HW6.out ?_))
                go_roundw
                case rel => exact ⟨i, y, by omega, by omega, by go_num, T6⟩
                case measure => (simp [intOf]; try omega)
              · have hgt : ¬ (j : Int) > (p : Int) := by omega
                obtain rfl : p = j := by omega
                obtain ⟨lx, _⟩ := LX.out W _ _ HW.out
                have LX1 : Hid _ := lx
                obtain ⟨cur, hcur, hsz, hst⟩ := HW.out.o.store p (by rw [List.length_append, List.length_take, List.length_cons, List.length_drop]; have := HQ.out; omega) x
                have HC : Hid (W.heap[g9]? = some (.cells cur 38 (0, 0))) := hcur
                have HSZ : Hid (p * 36 + 36 ≤ cur.size) := hsz
                obtain ⟨w6, hw6⟩ : ∃ w6, W.setRow g9 (cur.toList.take (p * 36) ++ (slotV x).toList ++ cur.toList.drop (p * 36 + 36)).toArray = w6 := ⟨_, rfl⟩
                have T6 : Hid (TwoL w w6 (.slice (some ⟨g9, 0, none⟩) (q + 1) cap9) (.slice (some ⟨g', 0, none⟩) n cap6) (m.take p ++ x :: m.drop p) D) := HW.out.row hw6 (by rw [← put_here (z := z) (by rw [← HQ.out]; exact hp)]; exact hst w6 (by rw [← hw6]; exact setRow_heap _ _ _ _ _ _ hcur))
                have HW6 : Hid (_ = w6) := hw6
                have hpi : (p : Int) < (q : Int) + 1 := by omega
                have hpi2 : (p : Int) < ((q + 1 : Nat) : Int) := by omega
                clear hst hcur hsz hw6 lx
                go_wp2_with (first | ((with_reducible refine wl_gL _ rfl ?_); refine wl_loadS rfl _ rfl g' (k * 36) rfl x LX1.out ?_) | ((with_reducible refine wl_gS _ _ rfl ?_); refine wl_storeAtW rfl _ _ rfl g9 (p * 36) x rfl rfl cur _ HC.out HSZ.out w6 HW6.out ?_))
                go_roundw
                case rel => exact ⟨k + 1, _, by omega, by go_num, INS, by show _ ≤ _; rw [List.length_append, List.length_take, List.length_cons, List.length_drop]; have := HQ.out; omega, T6⟩
                case measure => simp [intOf]; omega
          · obtain ⟨i, rfl⟩ : ∃ i, p = i + 1 := ⟨p - 1, by omega⟩
            have ej : ((i + 1 : Nat) : Int) = (i : Int) + 1 := by omega
            have hpd : decide ((i : Int) + 1 > 0) = true := decide_eq_true (by omega)
            have hpd2 : decide (0 < (i : Int) + 1) = true := hpd
            obtain ⟨y, hy⟩ : ∃ y, m[i]? = some y := ⟨_, List.getElem?_eq_getElem (by have := HQ.out; omega)⟩
            have HY : Hid (m[i]? = some y) := hy
            obtain ⟨g5, hg5⟩ := HTW.out.o.own0 (by have := HQ.out; omega)
            subst hg5
            have dy : ∀ u : Later W0, u.world.cell? ⟨g5, i * 36 + 3, none⟩ = some (.int .i64 y.order) := fun u => (slot_ld (HTW.out.below u.below).o i hy).2
            have i1 : (i : Int) < (q : Int) := by omega
            clear hy hp0
            obtain ⟨xo, hxo⟩ : ∃ xo, xo = x.order := ⟨_, rfl⟩
            obtain ⟨yo, hyo⟩ : ∃ yo, yo = y.order := ⟨_, rfl⟩
            have HXO : Hid (xo = x.order) := hxo
            have HYO : Hid (yo = y.order) := hyo
            rw [← hxo] at dx
            rw [← hyo] at dy
            clear hxo hyo
            by_cases hgt : yo > xo
            · have hgd : decide (yo > xo) = true := decide_eq_true hgt
              have hgd2 : decide (xo < yo) = true := hgd
              have HGT : Hid (x.order < y.order) := by show _ < _; rw [← HXO.out, ← HYO.out]; exact hgt
              clear hgt
              rw [ej]
              go_wp2_with fail
              refine wp_region_later (by kernel_rfl) (by kernel_rfl) ?_
              go_big_quiet_step (rfl)
              go_big_quiet_step (rfl)
              go_big_quiet_step (rfl)
              go_big_quiet_step (rfl)
              go_big_quiet_step (rfl)
              go_big_quiet_step (rfl)
              go_big_quiet_step (rfl)
              go_big_quiet_step (rfl)
              go_big_quiet_step (rfl)
              go_big_quiet_step (rfl)
              go_big_quiet_step (rfl)
              go_big_quiet_step (rfl)
              go_big_quiet_step (rfl)
              go_big_quiet_step (rfl)
              go_big_quiet_step (rfl)
              go_big_quiet_step (rfl)
              refine wpQuiet_nil ?_
              rintro w' ⟨u, rfl⟩
              go_wp2_with fail
              go_roundw
              case rel =>
                refine ⟨i, by omega, by go_num, fun j z hj hz => ?_, HTW.out.below u.below⟩
                by_cases hji : j = i
                · subst hji; rw [HY.out] at hz; cases hz; exact HGT.out
                · exact HG.out j z (by omega) hz
              case measure => (simp [intOf]; try omega)
            · have hgd : decide (yo > xo) = false := decide_eq_false hgt
              have hgd2 : decide (xo < yo) = false := hgd
              have H2' : Hid (i + 1 = 0 ∨ ∃ y, m[i + 1 - 1]? = some y ∧ y.order ≤ x.order) := .inr ⟨y, HY.out, by rw [← HXO.out, ← HYO.out]; omega⟩
              clear hgt
              rw [ej]
              go_wp2_with fail
              refine wp_region_later (by kernel_rfl) (by kernel_rfl) ?_
              go_big_quiet_step (rfl)
              go_big_quiet_step (rfl)
              go_big_quiet_step (rfl)
              go_big_quiet_step (rfl)
              go_big_quiet_step (rfl)
              go_big_quiet_step (rfl)
              go_big_quiet_step (rfl)
              go_big_quiet_step (rfl)
              go_big_quiet_step (rfl)
              go_big_quiet_step (rfl)
              go_big_quiet_step (rfl)
              go_big_quiet_step (rfl)
              go_big_quiet_step (rfl)
              go_big_quiet_step (rfl)
              go_big_quiet_step (rfl)
              go_big_quiet_step (rfl)
              refine wpQuiet_nil ?_
              rintro w' ⟨u, rfl⟩
              have HW : Hid (TwoL w u.world (.slice (some ⟨g5, 0, none⟩) q cap5) (.slice (some ⟨g', 0, none⟩) n cap6) m D) := HTW.out.below u.below
              obtain ⟨W, hWW⟩ : ∃ W, u.world = W := ⟨_, rfl⟩
              rw [hWW] at HW
              rw [hWW]
              clear hWW HTW dx dy ne1 hpd hpd2 hgd hgd2 i1
              rw [← ej]
              clear ej
              obtain ⟨p, hpi⟩ : ∃ p, p = i + 1 := ⟨_, rfl⟩
              have H2 : Hid (p = 0 ∨ ∃ y, m[p - 1]? = some y ∧ y.order ≤ x.order) := by rw [hpi]; exact H2'
              rw [← hpi] at hp HG
              rw [← hpi]
              clear hpi H2'
              have INS : Hid (SortedT ((D.take (k + 1)).filter fun x => x.epoch == e) (m.take p ++ x :: m.drop p)) := by show SortedT _ _; rw [filt_yes HX.out HE.out]; exact insT HS.out (by rw [← HQ.out]; exact hp) HG.out H2.out
              obtain ⟨lx, _⟩ := LX.out W _ _ HW.out
              have LX1 : Hid _ := lx
              clear lx
              have BA : Hid (Below W.heap.size W (W.alloc (.cells (slotV x) 38))) := (Below.refl _ _).alloc (Nat.le_refl _) _
              go_wp2_with (first | ((with_reducible refine wl_gL _ rfl ?_); refine wl_loadS rfl _ rfl g' (k * 36) rfl x LX1.out ?_) | ((with_reducible refine wl_gB _ rfl ?_); refine wl_build1S rfl _ rfl x rfl ?_; try rw [sz_alloc]) | (at_builtin; refine of_stopS ?_))
              unfold StopS
              refine wl_appendS rfl _ _ rfl w.heap.size (.slice (some ⟨g5, 0, none⟩) q cap5) m x rfl (HW.out.o.below BA.out) W.heap.size 1 rfl (heap_new _ _ _ rfl) (by have := HQ.out; omega) (by have h1 := HW.out.b.size; simp; omega) ?_
              intro v' w3 hown3 hgr3 hat3
              have T3 : Hid (TwoL w w3 v' (.slice (some ⟨g', 0, none⟩) n cap6) (m ++ [x]) D) := HW.out.addO BA.out hown3 hgr3 hat3
              clear hown3 hgr3 hat3 BA LX1
              obtain ⟨o9, cap9, ev9, he1, he2⟩ := T3.out.o.slice
              have hl9 : (m ++ [x]).length = q + 1 := by rw [HQ.out]; simp
              rw [hl9] at ev9 he1
              obtain ⟨g9, hg9⟩ := (show SlotsAt w.heap.size w3 (.slice o9 (q + 1) cap9) (m ++ [x]) by rw [← ev9]; exact T3.out.o).own0 (by rw [hl9]; omega)
              subst hg9
              subst ev9
              unfold maxLen at he2
              clear hl9 HW HS
              simp only [Act.put, List.setIfInBounds_toArray, List.set_cons_succ, List.set_cons_zero]
              go_wp2_with fail
              go_loopw [9] (fun s9 W => ∃ (j : Nat) (z : Slt), p ≤ j ∧ j ≤ q ∧ s9 = .int .i64 (j : Int) ∧ Hid (TwoL w W (.slice (some ⟨g9, 0, none⟩) (q + 1) cap9) (.slice (some ⟨g', 0, none⟩) n cap6) (m.take j ++ z :: m.drop j) D)) (fun s9 _ => (intOf s9).toNat)
              case atStart => exact ⟨q, x, hp, Nat.le_refl _, by go_num, by show TwoL _ _ _ _ _ _; rw [HQ.out, List.take_length, List.drop_length]; rw [← HQ.out]; exact T3.out⟩
              case round =>
                clear T3
                obtain ⟨j, z, hpj, hjq, rfl, HW⟩ := hrel
                obtain ⟨W, hWW⟩ : ∃ W, W = wr := ⟨_, rfl⟩
                rw [← hWW] at HW
                rw [← hWW]
                clear hWW
                by_cases hlt9 : p < j
                · obtain ⟨i, rfl⟩ : ∃ i, j = i + 1 := ⟨j - 1, by omega⟩
                  have ej : ((i + 1 : Nat) : Int) = (i : Int) + 1 := by omega
                  have hgt : (i : Int) + 1 > (p : Int) := by omega
                  obtain ⟨y, hy⟩ : ∃ y, m[i]? = some y := ⟨_, List.getElem?_eq_getElem (by have := HQ.out; omega)⟩
                  obtain ⟨ls, _⟩ := slot_ld HW.out.o i (y := y) (by rw [at_shift (by have := HQ.out; omega)]; exact hy)
                  have LS : Hid _ := ls
                  obtain ⟨cur, hcur, hsz, hst⟩ := HW.out.o.store (i + 1) (by rw [List.length_append, List.length_take, List.length_cons, List.length_drop]; have := HQ.out; omega) y
                  have HC : Hid (W.heap[g9]? = some (.cells cur 38 (0, 0))) := hcur
                  have HSZ : Hid ((i + 1) * 36 + 36 ≤ cur.size) := hsz
                  obtain ⟨w6, hw6⟩ : ∃ w6, W.setRow g9 (cur.toList.take ((i + 1) * 36) ++ (slotV y).toList ++ cur.toList.drop ((i + 1) * 36 + 36)).toArray = w6 := ⟨_, rfl⟩
                  have T6 : Hid (TwoL w w6 (.slice (some ⟨g9, 0, none⟩) (q + 1) cap9) (.slice (some ⟨g', 0, none⟩) n cap6) (m.take i ++ y :: m.drop i) D) := HW.out.row hw6 (by rw [← shift_one (z := z) hy]; exact hst w6 (by rw [← hw6]; exact setRow_heap _ _ _ _ _ _ hcur))
                  have HW6 : Hid (_ = w6) := hw6
                  have i1 : (i : Int) < (q : Int) + 1 := by omega
                  have i2 : (i : Int) + 1 < (q : Int) + 1 := by omega
                  have i3 : ((q + 1 : Nat) : Int) = (q : Int) + 1 := by omega
                  clear hst hcur hsz hw6 hy ls
                  rw [ej]
                  go_wp2_with (first | ((with_reducible refine wl_gL _ rfl ?_); refine wl_loadS rfl _ rfl g9 (i * 36) rfl y LS.out ?_) | ((with_reducible refine wl_gS _ _ rfl ?_); refine wl_storeAtW rfl _ _ rfl g9 ((i + 1) * 36) y rfl rfl cur _ HC.out HSZ.out w6 HW6.out ?_))
                  go_roundw
                  case rel => exact ⟨i, y, by omega, by omega, by go_num, T6⟩
                  case measure => (simp [intOf]; try omega)
                · have hgt : ¬ (j : Int) > (p : Int) := by omega
                  obtain rfl : p = j := by omega
                  obtain ⟨lx, _⟩ := LX.out W _ _ HW.out
                  have LX1 : Hid _ := lx
                  obtain ⟨cur, hcur, hsz, hst⟩ := HW.out.o.store p (by rw [List.length_append, List.length_take, List.length_cons, List.length_drop]; have := HQ.out; omega) x
                  have HC : Hid (W.heap[g9]? = some (.cells cur 38 (0, 0))) := hcur
                  have HSZ : Hid (p * 36 + 36 ≤ cur.size) := hsz
                  obtain ⟨w6, hw6⟩ : ∃ w6, W.setRow g9 (cur.toList.take (p * 36) ++ (slotV x).toList ++ cur.toList.drop (p * 36 + 36)).toArray = w6 := ⟨_, rfl⟩
                  have T6 : Hid (TwoL w w6 (.slice (some ⟨g9, 0, none⟩) (q + 1) cap9) (.slice (some ⟨g', 0, none⟩) n cap6) (m.take p ++ x :: m.drop p) D) := HW.out.row hw6 (by rw [← put_here (z := z) (by rw [← HQ.out]; exact hp)]; exact hst w6 (by rw [← hw6]; exact setRow_heap _ _ _ _ _ _ hcur))
                  have HW6 : Hid (_ = w6) := hw6
                  have hpi : (p : Int) < (q : Int) + 1 := by omega
                  have hpi2 : (p : Int) < ((q + 1 : Nat) : Int) := by omega
                  clear hst hcur hsz hw6 lx
                  go_wp2_with (first | ((with_reducible refine wl_gL _ rfl ?_); refine wl_loadS rfl _ rfl g' (k * 36) rfl x LX1.out ?_) | ((with_reducible refine wl_gS _ _ rfl ?_); refine wl_storeAtW rfl _ _ rfl g9 (p * 36) x rfl rfl cur _ HC.out HSZ.out w6 HW6.out ?_))
                  go_roundw
                  case rel => exact ⟨k + 1, _, by omega, by go_num, INS, by show _ ≤ _; rw [List.length_append, List.length_take, List.length_cons, List.length_drop]; have := HQ.out; omega, T6⟩
                  case measure => simp [intOf]; omega
      · have HE : Hid ((x.epoch == e) = false) := by show _ = _; simpa using he
        have hd : (x.epoch != e) = true := by simpa using he
        go_wp2_with fail
        go_roundw
        case rel => exact ⟨k + 1, m, by omega, by go_num, by show SortedT _ _; rw [filt_no HX.out HE.out]; exact HS.out, Nat.le_succ_of_le HM.out, HT⟩
        case measure => simp [intOf]; omega
    · have hlt' : ¬ (k : Int) < (n : Int) := by omega
      have hkn : k = n := by omega
      have HF : Hid (SortedT (D.filter fun x => x.epoch == e) m) := by have h9 := HS.out; rw [hkn, HN.out, List.take_length] at h9; exact h9
      clear hkn HS
      go_wp2_with fail
      go_ret
      exact ⟨⟨_, rfl, m, HR.out m HF.out, HT.out.o⟩, HT.out.b⟩
end Go.Proofs.Ytojhckjdkafpmaa
namespace Go.Proofs.Ytojhckjdkafpmaa
open Go Go.RowKit
set_option maxRecDepth 20000

def OkR (c a p i h : Int) : Prop := (0 ≤ c ∧ c ≤ 2048) ∧ (0 ≤ a ∧ a ≤ 2048) ∧ (0 ≤ p ∧ p ≤ 2048) ∧ (0 ≤ i ∧ i ≤ 1099511627776) ∧ (0 ≤ h ∧ h ≤ 1099511627776)
def rmOf (c a p i h : Int) : Rm := ⟨c.toNat, a.toNat, p.toNat, i, h⟩
def newV (x1 x2 x3 i h : Int) : Array Value := #[.int .i64 0, .int .i64 x1, .int .i64 x2, .int .i64 x3, .slice none 0 0, .slice none 0 0, .slice none 0 0, .slice none 0 0, .int .i64 i, .int .i64 h]
theorem new_tab {w : World} {c a p i h : Int} (hr : OkR c a p i h) {w' : World} (g : Nat) (hg : w.heap.size ≤ g) (hc : w'.heap[g]? = some (.cells (newV c a p i h) 72 (0, 0))) : TabV w.heap.size w' g (rmOf c a p i h) ⟨[], [], []⟩ (.slice none 0 0) (.slice none 0 0) (.slice none 0 0) := by
  obtain ⟨h1, h2, h3, _, _⟩ := hr
  refine ⟨?_, SlotsAt.nil _ _, SlotsAt.nil _ _, SlotsAt.nil _ _, .inl rfl, .inl rfl, .inl rfl, hg⟩
  unfold tabV rmOf
  simp only [Int.toNat_of_nonneg h1.1, Int.toNat_of_nonneg h2.1, Int.toNat_of_nonneg h3.1]
  exact hc
/-- A number of a new table is stored, whichever comes first. -/
theorem newV_set {x1 x2 x3 i h z : Int} (j : Nat) (hj : j = 1 ∨ j = 2 ∨ j = 3) : (newV x1 x2 x3 i h).setIfInBounds j (.int .i64 z) = newV (if j = 1 then z else x1) (if j = 2 then z else x2) (if j = 3 then z else x3) i h := by
  rcases hj with rfl | rfl | rfl <;> rfl
theorem store_int {o : Oper} {x y : Operand} (ho : o.op = .store 3 x y) (a : Act) (W : World) (ad : Addr) (z old : Int) (hx : a.eval x = .pointer (some ad)) (hy : a.eval y = .int .i64 z) (hc : W.cell? ad = some (.int .i64 old)) (hf : W.frozen? ad = false) : (execOp a.eval o).run Try.prog W = .ok .skip (W.setCell ad (.int .i64 z)) := by
  have hz : ∀ w, (sizeOf 3).run Try.prog w = .ok 1 w := fun w => by kernel_rfl
  unfold execOp
  simp only [ho, hx, hy]
  simp [go_sem, hz, hc, hf, storeVar, storeCells, Instr.storeAt, Instr.sureAddr]
set_option maxHeartbeats 8000000 in
theorem new_yes (c a p i h : Int) (hr : OkR c a p i h) (w : World) :
    Calls Try.prog 25 #[.int .i64 c, .int .i64 a, .int .i64 p, .int .i64 i, .int .i64 h] w fun e w' => (∃ g, e = .returned (.tuple #[.pointer (some ⟨g, 0, none⟩), .int .i64 0]) ∧ TabV w.heap.size w' g (rmOf c a p i h) ⟨[], [], []⟩ (.slice none 0 0) (.slice none 0 0) (.slice none 0 0)) ∧ Below w.heap.size w w' := by
  have WI : Hid (∀ n top W, 0 ≤ n ∧ n ≤ top → Calls Try.prog 39 #[.int .i64 n, .int .i64 top] W fun e w' => e = .returned (.bool true) ∧ w' = W) := by
    intro n top W hn
    have h9 := within_any n top W
    rw [decide_eq_true hn] at h9
    exact h9
  have HR : Hid (OkR c a p i h) := hr
  have FI : Hid (∀ w', w'.heap[w.heap.size]? = some (.cells (newV c a p i h) 72 (0, 0)) → TabV w.heap.size w' w.heap.size (rmOf c a p i h) ⟨[], [], []⟩ (.slice none 0 0) (.slice none 0 0) (.slice none 0 0)) := fun w' h9 => new_tab hr _ (Nat.le_refl _) h9
  clear hr
  go_enter Try.func25, Try.ntmps25
  go_wp2_with (go_at_call 39; refine (WI.out _ _ _ (by first | exact HR.out.1 | exact HR.out.2.1 | exact HR.out.2.2.1 | exact HR.out.2.2.2.1 | exact HR.out.2.2.2.2)).mono ?_; rintro r w2 ⟨rfl, hw2⟩; rw [hw2]; clear hw2)
  obtain ⟨w5, hw5⟩ : ∃ w5, w5 = w.alloc (.cells #[.int .i64 0, .int .i64 0, .int .i64 0, .int .i64 0, .slice none 0 0, .slice none 0 0, .slice none 0 0, .slice none 0 0, .int .i64 i, .int .i64 h] 72) := ⟨_, rfl⟩
  have H0 : w5.heap[w.heap.size]? = some (.cells (newV 0 0 0 i h) 72 (0, 0)) := by rw [hw5]; exact heap_new _ _ _ rfl
  have BW : Hid (Below w.heap.size w w5) := by show Below _ _ _; rw [hw5]; exact (Below.refl _ _).alloc (Nat.le_refl _) _
  rw [← hw5]
  clear hw5
  refine region_cutQ ?_
  refine region_beginS (fun _ => True) 18 rfl (by kernel_rfl) ?_
  refine region_reads 0 6 12 rfl (by kernel_rfl) (by kernel_rfl) (by kernel_rfl) (by intro d v c a w h; exact absurd h.1 (by simp)) trivial ?_
  simp only [List.drop_zero, List.take_succ_cons, List.take_zero]
  go_big_quiet_step (rfl)
  go_big_quiet_step (rfl)
  go_big_quiet_step (rfl)
  go_big_quiet_step (rfl)
  go_big_quiet_step (rfl)
  go_big_quiet_step (rfl)
  refine wpQuiet_nil ?_
  refine take_nil (i := 6) (some 46) rfl rfl _ rfl _ rfl rfl (by kernel_rfl) (by kernel_rfl) (by kernel_rfl) trivial ?_
  simp only [Act.put, List.setIfInBounds_toArray, List.set_cons_succ, List.set_cons_zero]
  refine region_reads 7 2 9 rfl (by kernel_rfl) (by kernel_rfl) (by kernel_rfl) (by intro d v c a w h; exact absurd h.1 (by simp)) trivial ?_
  simp only [List.drop_succ_cons, List.drop_zero, List.take_succ_cons, List.take_zero]
  go_big_quiet_step (rfl)
  go_big_quiet_step (rfl)
  refine wpQuiet_nil ?_
  refine take_nil (i := 10) (some 49) rfl rfl _ rfl _ rfl rfl (by kernel_rfl) (by kernel_rfl) (by kernel_rfl) trivial ?_
  simp only [Act.put, List.setIfInBounds_toArray, List.set_cons_succ, List.set_cons_zero]
  refine region_reads 11 1 7 rfl (by kernel_rfl) (by kernel_rfl) (by kernel_rfl) (by intro d v c a w h; exact absurd h.1 (by simp)) trivial ?_
  simp only [List.drop_succ_cons, List.drop_zero, List.take_succ_cons, List.take_zero]
  go_big_quiet_step (rfl)
  refine wpQuiet_nil ?_
  refine take_nil (i := 14) (some 52) rfl rfl _ rfl _ rfl rfl (by kernel_rfl) (by kernel_rfl) (by kernel_rfl) trivial ?_
  simp only [Act.put, List.setIfInBounds_toArray, List.set_cons_succ, List.set_cons_zero]
  refine region_reads 15 1 5 rfl (by kernel_rfl) (by kernel_rfl) (by kernel_rfl) (by intro d v c a w h; exact absurd h.1 (by simp)) trivial ?_
  simp only [List.drop_succ_cons, List.drop_zero, List.take_succ_cons, List.take_zero]
  go_big_quiet_step (rfl)
  refine wpQuiet_nil ?_
  have H0' : w5.drew.heap[w.heap.size]? = some (.cells (newV 0 0 0 i h) 72 (0, 0)) := H0
  refine wpAnyH_all (rs := [9]) (by kernel_rfl) (by decide) ?_
  intro i9 hi9
  obtain rfl := List.mem_singleton.1 hi9
  refine wpOp_skip0 rfl rfl (store_int rfl _ _ ⟨w.heap.size, 1, none⟩ c 0 rfl rfl (by rw [cell_of_row _ _ _ _ _ _ H0']; rfl) (by simp [World.frozen?, H0'])) rfl ?_
  refine ⟨trivial, ?_⟩
  have H1 := heap_setCell_same _ w.heap.size 1 _ _ (.int .i64 c) H0'
  rw [newV_set 1 (.inl rfl)] at H1
  refine region_reads 12 1 3 rfl (by kernel_rfl) (by kernel_rfl) (by kernel_rfl) (by intro d v c a w h; exact absurd h.1 (by simp)) trivial ?_
  simp only [List.drop_succ_cons, List.drop_zero, List.take_succ_cons, List.take_zero]
  go_big_quiet_step (rfl)
  refine wpQuiet_nil ?_
  refine wpAnyH_all (rs := [13]) (by kernel_rfl) (by decide) ?_
  intro i9 hi9
  obtain rfl := List.mem_singleton.1 hi9
  refine wpOp_skip0 rfl rfl (store_int rfl _ _ ⟨w.heap.size, 2, none⟩ a 0 rfl rfl (by rw [cell_of_row _ _ _ _ _ _ H1]; rfl) (by simp [World.frozen?, H1])) rfl ?_
  refine ⟨trivial, ?_⟩
  have H2 := heap_setCell_same _ w.heap.size 2 _ _ (.int .i64 a) H1
  rw [newV_set 2 (.inr (.inl rfl))] at H2
  refine region_reads 16 1 1 rfl (by kernel_rfl) (by kernel_rfl) (by kernel_rfl) (by intro d v c a w h; exact absurd h.1 (by simp)) trivial ?_
  simp only [List.drop_succ_cons, List.drop_zero, List.take_succ_cons, List.take_zero]
  go_big_quiet_step (rfl)
  refine wpQuiet_nil ?_
  refine wpAnyH_all (rs := [17]) (by kernel_rfl) (by decide) ?_
  intro i9 hi9
  obtain rfl := List.mem_singleton.1 hi9
  refine wpOp_skip0 rfl rfl (store_int rfl _ _ ⟨w.heap.size, 3, none⟩ p 0 rfl rfl (by rw [cell_of_row _ _ _ _ _ _ H2]; rfl) (by simp [World.frozen?, H2])) rfl ?_
  refine ⟨trivial, ?_⟩
  have H3 := heap_setCell_same _ w.heap.size 3 _ _ (.int .i64 p) H2
  rw [newV_set 3 (.inr (.inr rfl))] at H3
  refine wpAnyH_done (by kernel_rfl) ?_ _
  refine ⟨rfl, ?_⟩
  have HH3 : Hid _ := H3
  clear H0 H0' H1 H2 H3
  go_wp2_with fail
  go_ret2
  refine ⟨⟨_, rfl, FI.out _ HH3.out⟩, ?_⟩
  exact ((BW.out.drew.setCell (Nat.le_refl _) _).setCell (Nat.le_refl _) _).setCell (Nat.le_refl _) _
end Go.Proofs.Ytojhckjdkafpmaa
