import Derived.Test.YthddlchkbnmcaaaGreatDoorJ14
namespace Go.Proofs.YthddlchkbnmcaaaGreatDoor
open Go Go.RowKit
set_option maxRecDepth 20000

set_option maxHeartbeats 2000000 in
theorem figure_any (W0 w : World) (g E : Nat) (T : List Tok) (h : Rd W0 w g E T) :
    Calls Tryz.prog 96 #[.pointer (some ⟨g, 0, none⟩)] w fun e w' => Took W0 w g E (fun _ f v => v = .agg (figV f)) (takeF E T) e w' := by
  have C1 : Hid (∀ W, Below w.heap.size w W → Calls Tryz.prog 71 #[.pointer (some ⟨g, 0, none⟩), .int .i64 2] W fun e w' => Took W0 W g E (fun _ t v => v = .agg (encT t)) (takeK E 2 T) e w') := fun W hb => take_any W0 W g E 2 (by decide) T (h.below hb)
  have hgl := h.size
  unfold takeF
  cases hK : takeK E 2 T with
  | error x =>
    obtain ⟨c, q⟩ := x
    rw [hK] at C1
    clear hK
    go_enter Tryz.func96, Tryz.ntmps96
    go_wp2_with fail
    refine (C1.out _ ?_).mono ?_
    · exact (Below.refl _ _).alloc (Nat.le_refl _) _
    rintro e w1 ⟨hg1, rfl⟩
    have G1 := grown_trans (gb_alloc (gb_refl w g) _) hg1
    go_wp2_with fail
    exact ⟨rfl, G1, rfl⟩
  | ok x =>
    obtain ⟨t, T'⟩ := x
    rw [hK] at C1
    clear hK
    go_enter Tryz.func96, Tryz.ntmps96
    go_wp2_with fail
    refine (C1.out _ ?_).mono ?_
    · exact (Below.refl _ _).alloc (Nat.le_refl _) _
    rintro e w1 ⟨hg1, ⟨v, rfl, rfl⟩, R1⟩
    have z1 : w.heap.size < w1.heap.size := by have := hg1.size; simp at this; omega
    have G1 := grown_trans (gb_alloc (gb_refl w g) _) hg1
    obtain ⟨t0, t1, t2, t3⟩ := tok_cells (heap_new w1 (.cells (encT t) 117) _ rfl)
    have hr1 : Hid ((w1.alloc (.cells (encT t) 117)).heap[w.heap.size]? = some (.cells (figV ⟨0, 0⟩) 89 (0, 0))) := (heap_past _ _ _ _ ((hg1.block _ (by simp) (by simp; omega)).trans (heap_new _ _ _ rfl)))
    have HR : Hid (Rd W0 w1 g E T') := R1
    have HG : Hid (w.grownBy w1 (some g)) := G1
    clear hg1 R1 G1
    go_wp2_with (first
      | (refine wl_storeE (E := TokE) TokOk rfl _ _ rfl w1.heap.size (encT t) (tv_fits _ _ _ _) rfl rfl _ (heap_new _ _ _ rfl) rfl _ (setRow_new _ _ _ _ _ rfl) ?_)
      | (refine wl_storeE (E := FigE) FigOk rfl _ _ rfl w.heap.size (figV ⟨(t.num : Int), (t.pos : Int)⟩) (fig_fits _) rfl rfl _ hr1.out rfl _ rfl ?_))
    refine retE (E := FigE) FigOk rfl rfl w.heap.size rfl (figV ⟨(t.num : Int), (t.pos : Int)⟩) rfl (setRow_heap _ _ _ _ _ _ hr1.out) ?_
    exact ⟨gb_setRow (gb_alloc HG.out _) (.inr (Nat.le_refl _)) _, ⟨_, rfl, rfl⟩, rd_setRow (HR.out.alloc _) (by omega) (by omega) _⟩

/-- Whether a token of a kind follows; then it is taken. -/
def follT (E k : Nat) (T : List Tok) : Res (Bool × List Tok) := if (hd E T).kind = k then .ok (true, T.tail) else .ok (false, T)
set_option maxHeartbeats 2000000 in
theorem follows_any (W0 w : World) (g E k : Nat) (hk : k ≠ 0) (T : List Tok) (h : Rd W0 w g E T) :
    Calls Tryz.prog 123 #[.pointer (some ⟨g, 0, none⟩), .int .i64 (k : Int)] w fun e w' => Took W0 w g E (fun _ b v => v = .bool b) (follT E k T) e w' := by
  have C1 : Hid (∀ W, Below w.heap.size w W → Calls Tryz.prog 70 #[.pointer (some ⟨g, 0, none⟩)] W fun e w' => e = .returned (.agg (encT (hd E T))) ∧ Below W.heap.size W w') := fun W hb => peek_any W0 W g E T (h.below hb)
  have C2 : Hid (∀ W, Below w.heap.size w W → Calls Tryz.prog 71 #[.pointer (some ⟨g, 0, none⟩), .int .i64 (k : Int)] W fun e w' => Took W0 W g E (fun _ t v => v = .agg (encT t)) (takeK E k T) e w') := fun W hb => take_any W0 W g E k hk T (h.below hb)
  have H : Hid (Rd W0 w g E T) := h
  unfold follT
  by_cases hc : (hd E T).kind = k
  · rw [if_pos hc]
    obtain ⟨T', hT, hR⟩ := takeK_yes hk hc
    rw [hR] at C2
    have hT2 : T.tail = T' := by rw [hT]; rfl
    rw [hT2]
    have hne : (((hd E T).kind : Int) != (k : Int)) = false := by simp; omega
    clear hc hR hT2 h
    obtain ⟨t, ht⟩ : ∃ t, t = hd E T := ⟨_, rfl⟩
    rw [← ht] at C1 C2 hne
    clear ht hT
    have hf0 := tok_f0 t
    go_enter Tryz.func123, Tryz.ntmps123
    go_wp2_with fail
    refine (C1.out _ (Below.refl _ _)).mono ?_
    rintro e w1 ⟨rfl, hb1⟩
    go_wp2_with fail
    refine (C2.out _ hb1).mono ?_
    rintro e w2 ⟨hg2, ⟨v, rfl, rfl⟩, R2⟩
    go_wp2_with fail
    go_ret
    exact ⟨grown_trans (grown_below hb1) hg2, ⟨_, rfl, rfl⟩, R2⟩
  · rw [if_neg hc]
    have hne : (((hd E T).kind : Int) != (k : Int)) = true := by simp; omega
    clear hc C2 h
    obtain ⟨t, ht⟩ : ∃ t, t = hd E T := ⟨_, rfl⟩
    rw [← ht] at C1 hne
    clear ht
    have hf0 := tok_f0 t
    go_enter Tryz.func123, Tryz.ntmps123
    go_wp2_with fail
    refine (C1.out _ (Below.refl _ _)).mono ?_
    rintro e w1 ⟨rfl, hb1⟩
    go_wp2_with fail
    go_ret
    exact ⟨grown_below hb1, ⟨_, rfl, rfl⟩, H.out.below hb1⟩

/-- An address: four numbers with a Dot between. -/
def addrT (E : Nat) (T : List Tok) : Res (List Fig × List Tok) := (takeF E T).bind fun x => (takeD E 3 x.2).map fun y => (x.1 :: y.1, y.2)
def FigsOwn (B : Nat) (w : World) (F : List Fig) (v : Value) : Prop := w.ownsRow B 89 2 v F.length (gcells figV F)
set_option maxHeartbeats 4000000 in
theorem address_any (W0 w : World) (g E : Nat) (T : List Tok) (h : Rd W0 w g E T) :
    Calls Tryz.prog 122 #[.pointer (some ⟨g, 0, none⟩)] w fun e w' => Took W0 w g E (FigsOwn w.heap.size) (addrT E T) e w' := by
  have CF : Hid (∀ W T, Rd W0 W g E T → Calls Tryz.prog 96 #[.pointer (some ⟨g, 0, none⟩)] W fun e w' => Took W0 W g E (fun _ f v => v = .agg (figV f)) (takeF E T) e w') := fun W T h => figure_any W0 W g E T h
  have CK : Hid (∀ W T, Rd W0 W g E T → Calls Tryz.prog 71 #[.pointer (some ⟨g, 0, none⟩), .int .i64 3] W fun e w' => Took W0 W g E (fun _ t v => v = .agg (encT t)) (takeK E 3 T) e w') := fun W T h => take_any W0 W g E 3 (by decide) T h
  have hgl := h.size
  have H : Hid (Rd W0 w g E T) := h
  obtain ⟨A, hA⟩ : ∃ A, A = addrT E T := ⟨_, rfl⟩
  rw [← hA]
  unfold addrT at hA
  clear h
  go_enter Tryz.func122, Tryz.ntmps122
  go_wp2_with fail
  refine (CF.out _ T H.out).mono ?_
  cases hF : takeF E T with
  | error x =>
    obtain ⟨c, q⟩ := x
    have HA : Hid (A = .error (c, q)) := by rw [hA, hF]; rfl
    clear hA hF
    rintro e w1 ⟨hg1, rfl⟩
    go_wp2_with fail
    rw [HA.out]
    exact ⟨rfl, hg1, rfl⟩
  | ok x =>
    obtain ⟨f, T1⟩ := x
    have HA : Hid (A = (takeD E 3 T1).map fun y => (f :: y.1, y.2)) := by rw [hA, hF]; rfl
    clear hA hF
    rintro e w1 ⟨hg1, ⟨v, rfl, rfl⟩, R1⟩
    have z1 := hg1.size
    have n1 := heap_new w1 (.cells (figV f) 89) _ rfl
    go_wp2_with (first
      | (refine wl_buildE (E := FigE) FigOk rfl _ rfl (figV f) rfl rfl ?_))
    go_loopw [3] (fun out wr => ∃ (n : Nat) (F : List Fig) (T2 : List Tok), n ≤ 3 ∧ F.length = 4 - n ∧ Hid (A = (takeD E n T2).map fun y => (F ++ y.1, y.2)) ∧ w.grownBy wr (some g) ∧ Rd W0 wr g E T2 ∧ wr.ownsRow w.heap.size 89 2 out F.length (gcells figV F)) (fun out _ => 4 - (match out with | .slice _ n _ => n | _ => 0))
    case atStart => exact ⟨3, [f], T1, Nat.le_refl _, rfl, HA, gb_alloc hg1 _, R1.alloc _, ⟨rfl, Or.inr ⟨w1.heap.size, 1, figV f, rfl, z1, n1, Nat.le_refl 1, by decide, rfl, rfl⟩⟩⟩
    case round =>
      obtain ⟨n, F, T2, hn, hFl, HA2, hg, R2, hown⟩ := hrel
      clear HA n1 R1 hg1 z1
      obtain ⟨o, cap, rfl⟩ := gown_slice hown
      obtain ⟨L, hL⟩ : ∃ L, L = F.length := ⟨_, rfl⟩
      have HL : Hid (L = F.length) := hL
      rw [← hL] at hown ⊢
      have HOWN : Hid (wr.ownsRow w.heap.size 89 2 (.slice o L cap) F.length (gcells figV F)) := by rw [← hL]; exact hown
      have HG : Hid (w.grownBy wr (some g)) := hg
      have HR2 : Hid (Rd W0 wr g E T2) := R2
      clear hown hg R2
      cases n with
      | zero =>
        have h4 : (4 : Int) ≤ (L : Int) := by omega
        have hA : A = .ok (F, T2) := by rw [HA2.out]; simp [takeD, Except.map]
        have HA3 : Hid (A = .ok (F, T2)) := hA
        clear hA HA2 hL
        go_wp2_with fail
        go_ret
        rw [HA3.out]
        exact ⟨HG.out, ⟨_, rfl, HOWN.out⟩, HR2.out⟩
      | succ n =>
        have h4 : (L : Int) < 4 := by omega
        have hl3 : L ≤ 3 := by omega
        clear hL
        go_wp2_with fail
        refine (CK.out _ T2 HR2.out).mono ?_
        cases hK : takeK E 3 T2 with
        | error x =>
          obtain ⟨c, q⟩ := x
          have HA3 : Hid (A = .error (c, q)) := by show _ = _; rw [HA2.out, takeD, hK]; rfl
          clear hK
          rintro e w3 ⟨hg3, rfl⟩
          go_wp2_with fail
          rw [HA3.out]
          exact ⟨rfl, grown_trans HG.out hg3, rfl⟩
        | ok x =>
          obtain ⟨t, T3⟩ := x
          rintro e w3 ⟨hg3, ⟨v, rfl, rfl⟩, R3⟩
          have HG3 : Hid (w.grownBy w3 (some g)) := grown_trans HG.out hg3
          have HOWN3 : Hid (w3.ownsRow w.heap.size 89 2 (.slice o L cap) F.length (gcells figV F)) := own_by hg3 hgl.2 HOWN.out
          have HR3 : Hid (Rd W0 w3 g E T3) := R3
          clear hg3 R3
          go_wp2_with fail
          refine (CF.out _ T3 HR3.out).mono ?_
          cases hF : takeF E T3 with
          | error x =>
            obtain ⟨c, q⟩ := x
            have HA3 : Hid (A = .error (c, q)) := by show _ = _; rw [HA2.out, takeD, hK]; show ((takeF E T3).bind _).map _ = _; rw [hF]; rfl
            clear hK hF
            rintro e w4 ⟨hg4, rfl⟩
            go_wp2_with fail
            rw [HA3.out]
            exact ⟨rfl, grown_trans HG3.out hg4, rfl⟩
          | ok x =>
            obtain ⟨f2, T4⟩ := x
            have HA3 : Hid (A = (takeD E n T4).map fun y => (F ++ [f2] ++ y.1, y.2)) := by
              show _ = _
              rw [HA2.out, takeD, hK]
              show ((takeF E T3).bind _).map _ = _
              rw [hF]
              show ((takeD E n T4).map _).map _ = _
              cases takeD E n T4 with
              | error x => rfl
              | ok x => simp [Except.map]
            clear hK hF
            rintro e w4 ⟨hg4, ⟨v, rfl, rfl⟩, R4⟩
            have HG4 : Hid (w.grownBy w4 (some g)) := grown_trans HG3.out hg4
            have HOWN4 : Hid (w4.ownsRow w.heap.size 89 2 (.slice o L cap) F.length (gcells figV F)) := own_by hg4 hgl.2 HOWN3.out
            have HR4 : Hid (Rd W0 w4 g E T4) := R4
            clear hg4 R4
            go_wp2_with (first
              | (refine wl_buildE (E := FigE) FigOk rfl _ rfl (figV f2) rfl rfl ?_)
              | (at_builtin; refine of_stopT ?_))
            unfold StopT
            have HO5 : Hid ((w4.alloc (.cells (figV f2) 89)).ownsRow w.heap.size 89 2 (.slice o L cap) F.length (gcells figV F)) := HOWN4.out.alloc _
            refine wl_appendE (E := FigE) FigOk figV rfl _ _ rfl w.heap.size _ F f2 (fig_fits _) rfl HO5.out _ 1 rfl (heap_new _ _ _ rfl) (by omega) (by have := HG4.out.size; simp; omega) ?_
            intro v' w5 hown5 hgr5 _
            have HG5 : Hid (w.grownBy w5 (some g)) := gb_own (gb_alloc HG4.out _) hgr5 fun k hk => (HO5.out.lt k hk).1
            have HR5 : Hid (Rd W0 w5 g E T4) := rd_own (HR4.out.alloc _) hgr5 fun k hk => Nat.lt_of_lt_of_le hgl.2 (HO5.out.lt k hk).1
            have HOWN5 : Hid (w5.ownsRow w.heap.size 89 2 v' (F ++ [f2]).length (gcells figV (F ++ [f2]))) := hown5
            obtain ⟨o5, cap5, rfl⟩ := gown_slice hown5
            clear hown5 hgr5
            simp only [Act.put, List.setIfInBounds_toArray, List.set_cons_succ, List.set_cons_zero]
            go_wp2_with fail
            go_roundw
            case rel => exact ⟨n, F ++ [f2], T4, by omega, by simp; omega, HA3, HG5.out, HR5.out, HOWN5.out⟩
            case measure => have := HL.out; simp; omega
end Go.Proofs.YthddlchkbnmcaaaGreatDoor
namespace Go.Proofs.YthddlchkbnmcaaaGreatDoor
open Go Go.RowKit
set_option maxRecDepth 20000

theorem takeA_eq (E : Nat) (T : List Tok) : takeA E T = (takeK E 1 T).bind fun x => if x.1.text = wDrop then .ok ((true, ⟨0, 0⟩), x.2) else if x.1.text = wPort then (takeF E x.2).map (fun y => ((false, y.1), y.2)) else .error (8, x.1.pos) := by
  cases T with
  | nil => rfl
  | cons t T =>
    unfold takeA takeK
    by_cases h : t.kind = 1
    · simp only [h, true_and, if_true]
      rfl
    · simp only [h, false_and, if_false]
      rfl
def ActV (v : Value) (a : Bool × Fig) : Prop := v = .tuple #[.bool a.1, .agg (figV a.2)]

set_option maxHeartbeats 2000000 in
theorem action_any (W0 w : World) (g E : Nat) (T : List Tok) (h : Rd W0 w g E T) :
    Calls Tryz.prog 98 #[.pointer (some ⟨g, 0, none⟩)] w fun e w' => Took W0 w g E (fun _ a v => ActV v a) (takeA E T) e w' := by
  have CF : Hid (∀ W T, Rd W0 W g E T → Calls Tryz.prog 96 #[.pointer (some ⟨g, 0, none⟩)] W fun e w' => Took W0 W g E (fun _ f v => v = .agg (figV f)) (takeF E T) e w') := fun W T h => figure_any W0 W g E T h
  have CK : Hid (∀ W T, Rd W0 W g E T → Calls Tryz.prog 71 #[.pointer (some ⟨g, 0, none⟩), .int .i64 1] W fun e w' => Took W0 W g E (fun _ t v => v = .agg (encT t)) (takeK E 1 T) e w') := fun W T h => take_any W0 W g E 1 (by decide) T h
  have hgl := h.size
  have H : Hid (Rd W0 w g E T) := h
  obtain ⟨A, hA⟩ : ∃ A, A = takeA E T := ⟨_, rfl⟩
  rw [← hA]
  rw [takeA_eq] at hA
  clear h
  go_enter Tryz.func98, Tryz.ntmps98
  go_wp2_with fail
  refine (CK.out _ T (H.out.alloc _)).mono ?_
  cases hK : takeK E 1 T with
  | error x =>
    obtain ⟨c, q⟩ := x
    have HA : Hid (A = .error (c, q)) := by rw [hA, hK]; rfl
    clear hA hK
    rintro e w1 ⟨hg1, rfl⟩
    go_wp2_with fail
    rw [HA.out]
    exact ⟨rfl, grown_trans (gb_alloc (gb_refl w g) _) hg1, rfl⟩
  | ok x =>
    obtain ⟨t, T1⟩ := x
    have HA : Hid (A = if t.text = wDrop then .ok ((true, ⟨0, 0⟩), T1) else if t.text = wPort then (takeF E T1).map (fun y => ((false, y.1), y.2)) else .error (8, t.pos)) := by rw [hA, hK]; rfl
    clear hA hK
    rintro e w1 ⟨hg1, ⟨v, rfl, rfl⟩, R1⟩
    have z1 : w.heap.size < w1.heap.size := by have := hg1.size; simp at this; omega
    have HG1 : Hid (w.grownBy w1 (some g)) := grown_trans (gb_alloc (gb_refl w g) _) hg1
    obtain ⟨t0, t1, t2, t3⟩ := tok_cells (heap_new w1 (.cells (encT t) 117) _ rfl)
    have hr1 : Hid ((w1.alloc (.cells (encT t) 117)).heap[w.heap.size]? = some (.cells (figV ⟨0, 0⟩) 89 (0, 0))) := (heap_past _ _ _ _ ((hg1.block _ (by simp) (by simp; omega)).trans (heap_new _ _ _ rfl)))
    have HR1 : Hid (Rd W0 w1 g E T1) := R1
    clear hg1 R1
    by_cases d1 : t.text = wDrop
    · rw [if_pos d1] at HA
      have e1 : (t.text == [100, 114, 111, 112]) = true := by rw [d1]; rfl
      clear d1
      go_wp2_with (first
        | (refine wl_storeE (E := TokE) TokOk rfl _ _ rfl w1.heap.size (encT t) (tv_fits _ _ _ _) rfl rfl _ (heap_new _ _ _ rfl) rfl _ (setRow_new _ _ _ _ _ rfl) ?_)
        | (refine wl_storeE (E := FigE) FigOk rfl _ _ rfl w.heap.size (figV ⟨0, 0⟩) (fig_fits _) rfl rfl _ hr1.out rfl _ rfl ?_))
      refine retBE (E := FigE) FigOk rfl rfl w.heap.size rfl (figV ⟨0, 0⟩) rfl (setRow_heap _ _ _ _ _ _ hr1.out) _ rfl ?_
      rw [HA.out]
      exact ⟨gb_setRow (gb_alloc HG1.out _) (.inr (Nat.le_refl _)) _, ⟨_, rfl, rfl⟩, rd_setRow (HR1.out.alloc _) (by omega) (by omega) _⟩
    · rw [if_neg d1] at HA
      have e1 : (t.text == [100, 114, 111, 112]) = false := by rw [beq_eq_false_iff_ne]; exact d1
      clear d1
      by_cases d2 : t.text = wPort
      · rw [if_pos d2] at HA
        have e2 : (t.text == [112, 111, 114, 116]) = true := by rw [d2]; rfl
        clear d2
        go_wp2_with (first
          | (refine wl_storeE (E := TokE) TokOk rfl _ _ rfl w1.heap.size (encT t) (tv_fits _ _ _ _) rfl rfl _ (heap_new _ _ _ rfl) rfl _ (setRow_new _ _ _ _ _ rfl) ?_))
        refine (CF.out _ T1 (HR1.out.alloc _)).mono ?_
        cases hF : takeF E T1 with
        | error x =>
          obtain ⟨c, q⟩ := x
          rw [hF] at HA
          clear hF
          rintro e w2 ⟨hg2, rfl⟩
          go_wp2_with fail
          rw [HA.out]
          exact ⟨rfl, grown_trans (gb_alloc HG1.out _) hg2, rfl⟩
        | ok x =>
          obtain ⟨f, T2⟩ := x
          rw [hF] at HA
          clear hF
          rintro e w2 ⟨hg2, ⟨v, rfl, rfl⟩, R2⟩
          have hr2 : Hid (w2.heap[w.heap.size]? = some (.cells (figV ⟨0, 0⟩) 89 (0, 0))) := (hg2.block _ (by simp; omega) (by simp; omega)).trans hr1.out
          have HG2 : Hid (w.grownBy w2 (some g)) := grown_trans (gb_alloc HG1.out _) hg2
          have HR2 : Hid (Rd W0 w2 g E T2) := R2
          clear hg2 R2 t0 t1 t2 t3
          go_wp2_with (first
            | (refine wl_storeE (E := FigE) FigOk rfl _ _ rfl w.heap.size (figV f) (fig_fits _) rfl rfl _ hr2.out rfl _ rfl ?_))
          refine retBE (E := FigE) FigOk rfl rfl w.heap.size rfl (figV f) rfl (setRow_heap _ _ _ _ _ _ hr2.out) _ rfl ?_
          rw [HA.out]
          exact ⟨gb_setRow HG2.out (.inr (Nat.le_refl _)) _, ⟨_, rfl, rfl⟩, rd_setRow HR2.out (by omega) (by omega) _⟩
      · rw [if_neg d2] at HA
        have e2 : (t.text == [112, 111, 114, 116]) = false := by rw [beq_eq_false_iff_ne]; exact d2
        clear d2
        go_wp2_with (first
          | (refine wl_storeE (E := TokE) TokOk rfl _ _ rfl w1.heap.size (encT t) (tv_fits _ _ _ _) rfl rfl _ (heap_new _ _ _ rfl) rfl _ (setRow_new _ _ _ _ _ rfl) ?_))
        rw [HA.out]
        exact ⟨rfl, gb_alloc HG1.out _, rfl⟩
end Go.Proofs.YthddlchkbnmcaaaGreatDoor
namespace Go.Proofs.YthddlchkbnmcaaaGreatDoor
open Go Go.RowKit
set_option maxRecDepth 20000

/-- One operation of a drawn region, by the laws for a list of them. -/
theorem wpOp_of_list {P : Program} {ops : Array Oper} {Q : Exit → Act → World → Prop} {i : Nat} {o : Oper} {K : Act → World → Prop} {a : Act} {w : World} (hi : ops[i]? = some o)
    (h : wpList P ops (fun e a' w' => match e with | .normal => K a' w' | e => Q e a' w') [o] a w) : wpOp P ops Q i K a w := by
  unfold Go.wpOp
  simp only [hi]
  unfold wpList at h
  by_cases hw : Region.wanted o (yielded ops a.tmps) = true
  · rw [if_pos hw] at h ⊢
    rcases h with h | h
    · refine .inl ?_
      unfold Oper.wp at h ⊢
      revert h
      generalize (execOp a.eval o).run P w = r
      intro h
      unfold Oper.upon at h ⊢
      split at h
      · exact h
      · exact h
      · exact h
      · refine h.mono ?_
        intro e w1 h1
        cases e <;> exact h1
      · exact h
      · exact h
      · exact h.elim
    · exact .inr h
  · rw [if_neg hw] at h ⊢
    exact h
theorem eval_put (a : Act) (k j : Nat) (v : Value) (hk : k < a.tmps.size) : (a.put (some k) v).eval (.tmp j) = if j = k then v else a.eval (.tmp j) := by
  simp only [Act.eval, Act.put, Array.getElem?_setIfInBounds, Array.getD_eq_getD_getElem?]
  by_cases h : j = k
  · subst h; simp [hk]
  · simp [h, Ne.symm h]
theorem size_put (a : Act) (d : Option Tmp) (v : Value) : (a.put d v).tmps.size = a.tmps.size := by
  cases d <;> simp [Act.put]
theorem w_set_heap (w : World) : w.drew.heap = w.heap := rfl
theorem gb_drew (w : World) (g : Nat) : w.grownBy w.drew (some g) := ⟨rfl, rfl, rfl, Nat.le_refl _, fun _ _ _ => rfl⟩
theorem load_cell {ty e : TypeId} (hu : Tryz.prog.underlying ty = some (.slice e)) (W : World) (ad : Addr) (v : Value) (h : W.cell? ad = some v) : (Instr.loadAt ty (.pointer (some ad))).run Tryz.prog W = .ok v W := by
  have ha : (isAgg ty).run Tryz.prog W = .ok false W := by unfold isAgg; rw [Sem.run_bind, run_underlying hu W]; simp [go_sem]
  simp [Instr.loadAt, Instr.sureAddr, loadVar, Sem.run_bind, ha, go_sem, h]
theorem store_cell {ty : TypeId} (hsz : ∀ W, (sizeOf ty).run Tryz.prog W = .ok 1 W) (W : World) (ad : Addr) (v u : Value) (hv : ∃ o n c, v = .slice o n c) (h : W.cell? ad = some u) (hz : W.frozen? ad = false) : (Instr.storeAt ty (.pointer (some ad)) v).run Tryz.prog W = .ok () (W.setCell ad v) := by
  obtain ⟨o, n, c, rfl⟩ := hv
  simp [Instr.storeAt, Instr.sureAddr, storeVar, Sem.run_bind, hsz, go_sem, h, hz]
/-- One operation whose value is known. -/
theorem wpOp_val {ops : Array Oper} {Q : Exit → Act → World → Prop} {i : Nat} {o : Oper} {K : Act → World → Prop} {a : Act} {w w' : World} (hi : ops[i]? = some o) (hw : Region.wanted o (yielded ops a.tmps) = true) (v : Value)
    (hx : (execOp a.eval o).run Tryz.prog w = .ok (.value v) w') (d : Option Tmp) (hd : o.dst = d) (hK : K (a.put d v) w') : wpOp Tryz.prog ops Q i K a w := by
  subst hd
  refine wpOp_wanted hi hw ?_
  unfold Oper.wp
  rw [hx]
  exact hK
theorem wpOp_skip6 {ops : Array Oper} {Q : Exit → Act → World → Prop} {i : Nat} {o : Oper} {K : Act → World → Prop} {a : Act} {w w' : World} (hi : ops[i]? = some o) (hw : Region.wanted o (yielded ops a.tmps) = true)
    (hx : (execOp a.eval o).run Tryz.prog w = .ok .skip w') (d : Option Tmp) (hd : o.dst = d) (hK : K (a.put d undef) w') : wpOp Tryz.prog ops Q i K a w := by
  subst hd
  refine wpOp_wanted hi hw ?_
  unfold Oper.wp
  rw [hx]
  exact hK
theorem wpOp_skip0 {ops : Array Oper} {Q : Exit → Act → World → Prop} {i : Nat} {o : Oper} {K : Act → World → Prop} {a : Act} {w w' : World} (hi : ops[i]? = some o) (hw : Region.wanted o (yielded ops a.tmps) = true)
    (hx : (execOp a.eval o).run Tryz.prog w = .ok .skip w') (hd : o.dst = none) (hK : K a w') : wpOp Tryz.prog ops Q i K a w :=
  wpOp_skip6 hi hw hx none hd hK
theorem wpOp_callQ {ops : Array Oper} {Q : Exit → Act → World → Prop} {i : Nat} {o : Oper} {K : Act → World → Prop} {a : Act} {w : World} (hi : ops[i]? = some o) (hw : Region.wanted o (yielded ops a.tmps) = true) (f : FuncId) (vs : Array Value)
    (hf : (execOp a.eval o).run Tryz.prog w = .ok (.enter f vs) w) (D : Ending → World → Prop) (h : Calls Tryz.prog f vs w D) (d : Option Tmp) (hd : o.dst = d) (hK : ∀ v w', D (.returned v) w' → K (a.put d v) w') (hP : ∀ ch w', D (.panicked ch) w' → Q (.panic ch) a w') (hO : ∀ w', ¬ D .outgrown w') : wpOp Tryz.prog ops Q i K a w := by
  subst hd
  refine wpOp_wanted hi hw ?_
  unfold Oper.wp
  rw [hf]
  refine h.mono ?_
  intro e w' hD
  cases e with
  | returned v => exact hK v w' hD
  | panicked ch => exact hP ch w' hD
  | outgrown => exact absurd hD (hO w')

theorem run_fieldOp {o : Oper} {t i : Nat} {x : Operand} (ho : o.op = .fieldAddr t x i) (a : Act) (W : World) (v : Value) (h : (Instr.fieldAt t (a.eval x) i).run Tryz.prog W = .ok v W) : (execOp a.eval o).run Tryz.prog W = .ok (.value v) W := by
  unfold execOp
  simp only [ho, Sem.run_bind, h, Result.andThen_ok, Sem.run_pure]
theorem run_moveOp {o : Oper} {x : Operand} (ho : o.op = .move x) (a : Act) (W : World) (v : Value) (h : a.eval x = v) : (execOp a.eval o).run Tryz.prog W = .ok (.value v) W := by
  unfold execOp
  simp only [ho, Sem.run_pure, h]
theorem run_loadOp {o : Oper} {t : Nat} {x : Operand} (ho : o.op = .load t x) (a : Act) (W : World) (u v : Value) (hu : a.eval x = u) (h : (Instr.loadAt t u).run Tryz.prog W = .ok v W) : (execOp a.eval o).run Tryz.prog W = .ok (.value v) W := by
  unfold execOp
  simp only [ho, Sem.run_bind, hu, h, Result.andThen_ok, Sem.run_pure]
theorem run_storeOp {o : Oper} {t : Nat} {x y : Operand} (ho : o.op = .store t x y) (a : Act) (W W' : World) (u v : Value) (hu : a.eval x = u) (hv : a.eval y = v) (h : (Instr.storeAt t u v).run Tryz.prog W = .ok () W') : (execOp a.eval o).run Tryz.prog W = .ok .skip W' := by
  unfold execOp
  simp only [ho, Sem.run_bind, hu, hv, h, Result.andThen_ok, Sem.run_pure]
theorem run_callOp {o : Oper} {f : Nat} {x : Operand} {ts : Array TypeId} (ho : o.op = .call { callee := .value (.func f), args := #[x], argTypes := ts }) (hf : ∀ vs W, (callFunc f vs).run Tryz.prog W = .ok (.enter f vs) W) (a : Act) (W : World) (v : Value) (h : a.eval x = v) : (execOp a.eval o).run Tryz.prog W = .ok (.enter f #[v]) W := by
  unfold execOp
  have hef : a.eval (.func f) = .func (.func f) #[] #[] := rfl
  simp only [ho, resolve, hef, List.map_toArray, List.map_cons, List.map_nil, h]
  simp [go_sem, hf]
end Go.Proofs.YthddlchkbnmcaaaGreatDoor
