import Derived.Test.YtnbklmmampdbfaaDoorJ1
import Derived.Test.YtnbklmmampdbfaaDoorJ2
import Derived.Shelf.Small.Bits
import Derived.Test.YtnbklmmampdbfaaDoorProg
import Derived.Laws.ResultCell
import Derived.Laws.CopyRow
import Derived.Lib.BitFns
import Derived.Great.BuildSlice
import Derived.Laws.AppendOwn
import Derived.Laws.OwnMore
import Derived.WalkMore
import Derived.Maps.AppendAt
import Derived.OwnWalk
namespace Go.Proofs.YtnbklmmampdbfaaDoor
open Go Go.RowKit
set_option maxRecDepth 20000

theorem retB {e : Ending} {c q : Nat} (h : Fault e c q) : e = .panicked [{ v := faultV c q, recovered := false }] := h
set_option maxHeartbeats 2000000 in
theorem figure_any (W0 w : World) (g E : Nat) (T : List Tok) (h : Rd W0 w g E T) :
    Calls Tryd.prog 65 #[.pointer (some ⟨g, 0, none⟩)] w fun e w' => Took W0 w g E (fun _ f v => v = .agg (figV f)) (takeF E T) e w' := by
  have C1 : Hid (∀ W, Below w.heap.size w W → Calls Tryd.prog 44 #[.pointer (some ⟨g, 0, none⟩), .int .i64 2] W fun e w' => Took W0 W g E (fun _ t v => v = .agg (encT t)) (takeK E 2 T) e w') := fun W hb => take_any W0 W g E 2 (by decide) T (h.below hb)
  have hgl := h.size
  unfold takeF
  cases hK : takeK E 2 T with
  | error x =>
    obtain ⟨c, q⟩ := x
    rw [hK] at C1
    clear hK
    go_enter Tryd.func65, Tryd.ntmps65
    go_wp2_with fail
    refine (C1.out _ ?_).mono ?_
    · exact (Below.refl _ _).alloc (Nat.le_refl _) _
    rintro e w1 ⟨hg1, rfl⟩
    have G1 := grown_trans (gb_alloc (gb_refl w g) _) hg1
    go_wp2_with fail
    exact ⟨rfl, G1, rfl⟩
  | ok x =>
    obtain ⟨t, T'⟩ := x
    rw [hK] at C1
    clear hK
    go_enter Tryd.func65, Tryd.ntmps65
    go_wp2_with fail
    refine (C1.out _ ?_).mono ?_
    · exact (Below.refl _ _).alloc (Nat.le_refl _) _
    rintro e w1 ⟨hg1, ⟨v, rfl, rfl⟩, R1⟩
    have z1 : w.heap.size < w1.heap.size := by have := hg1.size; simp at this; omega
    have G1 := grown_trans (gb_alloc (gb_refl w g) _) hg1
    obtain ⟨t0, t1, t2, t3⟩ := tok_cells (heap_new w1 (.cells (encT t) 88) _ rfl)
    have hr1 : Hid ((w1.alloc (.cells (encT t) 88)).heap[w.heap.size]? = some (.cells (figV ⟨0, 0⟩) 67 (0, 0))) := (heap_past _ _ _ _ ((hg1.block _ (by simp) (by simp; omega)).trans (heap_new _ _ _ rfl)))
    have HR : Hid (Rd W0 w1 g E T') := R1
    have HG : Hid (w.grownBy w1 (some g)) := G1
    clear hg1 R1 G1
    go_wp2_with (first
      | (refine wl_storeE (E := TokE) TokOk rfl _ _ rfl w1.heap.size (encT t) (tv_fits _ _ _ _) rfl rfl _ (heap_new _ _ _ rfl) rfl _ (setRow_new _ _ _ _ _ rfl) ?_)
      | (refine wl_storeE (E := FigE) FigOk rfl _ _ rfl w.heap.size (figV ⟨(t.num : Int), (t.pos : Int)⟩) (fig_fits _) rfl rfl _ hr1.out rfl _ rfl ?_))
    refine retE (E := FigE) FigOk rfl rfl w.heap.size rfl (figV ⟨(t.num : Int), (t.pos : Int)⟩) rfl (setRow_heap _ _ _ _ _ _ hr1.out) ?_
    exact ⟨gb_setRow (gb_alloc HG.out _) (.inr (Nat.le_refl _)) _, ⟨_, rfl, rfl⟩, rd_setRow (HR.out.alloc _) (by omega) (by omega) _⟩

/-- Whether a token of a kind follows; then it is taken. -/
def follT (E k : Nat) (T : List Tok) : Res (Bool × List Tok) := if (hd E T).kind = k then .ok (true, T.tail) else .ok (false, T)
set_option maxHeartbeats 2000000 in
theorem follows_any (W0 w : World) (g E k : Nat) (hk : k ≠ 0) (T : List Tok) (h : Rd W0 w g E T) :
    Calls Tryd.prog 100 #[.pointer (some ⟨g, 0, none⟩), .int .i64 (k : Int)] w fun e w' => Took W0 w g E (fun _ b v => v = .bool b) (follT E k T) e w' := by
  have C1 : Hid (∀ W, Below w.heap.size w W → Calls Tryd.prog 43 #[.pointer (some ⟨g, 0, none⟩)] W fun e w' => e = .returned (.agg (encT (hd E T))) ∧ Below W.heap.size W w') := fun W hb => peek_any W0 W g E T (h.below hb)
  have C2 : Hid (∀ W, Below w.heap.size w W → Calls Tryd.prog 44 #[.pointer (some ⟨g, 0, none⟩), .int .i64 (k : Int)] W fun e w' => Took W0 W g E (fun _ t v => v = .agg (encT t)) (takeK E k T) e w') := fun W hb => take_any W0 W g E k hk T (h.below hb)
  have H : Hid (Rd W0 w g E T) := h
  unfold follT
  by_cases hc : (hd E T).kind = k
  · rw [if_pos hc]
    obtain ⟨T', hT, hR⟩ := takeK_yes hk hc
    rw [hR] at C2
    have hT2 : T.tail = T' := by rw [hT]; rfl
    rw [hT2]
    have hne : (((hd E T).kind : Int) != (k : Int)) = false := by simp; omega
    clear hc hR hT2 h
    obtain ⟨t, ht⟩ : ∃ t, t = hd E T := ⟨_, rfl⟩
    rw [← ht] at C1 C2 hne
    clear ht hT
    have hf0 := tok_f0 t
    go_enter Tryd.func100, Tryd.ntmps100
    go_wp2_with fail
    refine (C1.out _ (Below.refl _ _)).mono ?_
    rintro e w1 ⟨rfl, hb1⟩
    go_wp2_with fail
    refine (C2.out _ hb1).mono ?_
    rintro e w2 ⟨hg2, ⟨v, rfl, rfl⟩, R2⟩
    go_wp2_with fail
    go_ret
    exact ⟨grown_trans (grown_below hb1) hg2, ⟨_, rfl, rfl⟩, R2⟩
  · rw [if_neg hc]
    have hne : (((hd E T).kind : Int) != (k : Int)) = true := by simp; omega
    clear hc C2 h
    obtain ⟨t, ht⟩ : ∃ t, t = hd E T := ⟨_, rfl⟩
    rw [← ht] at C1 hne
    clear ht
    have hf0 := tok_f0 t
    go_enter Tryd.func100, Tryd.ntmps100
    go_wp2_with fail
    refine (C1.out _ (Below.refl _ _)).mono ?_
    rintro e w1 ⟨rfl, hb1⟩
    go_wp2_with fail
    go_ret
    exact ⟨grown_below hb1, ⟨_, rfl, rfl⟩, H.out.below hb1⟩

/-- An address: four numbers with a Dot between. -/
def addrT (E : Nat) (T : List Tok) : Res (List Fig × List Tok) := (takeF E T).bind fun x => (takeD E 3 x.2).map fun y => (x.1 :: y.1, y.2)
def FigsOwn (B : Nat) (w : World) (F : List Fig) (v : Value) : Prop := w.ownsRow B 67 2 v F.length (gcells figV F)
set_option maxHeartbeats 4000000 in
theorem address_any (W0 w : World) (g E : Nat) (T : List Tok) (h : Rd W0 w g E T) :
    Calls Tryd.prog 99 #[.pointer (some ⟨g, 0, none⟩)] w fun e w' => Took W0 w g E (FigsOwn w.heap.size) (addrT E T) e w' := by
  have CF : Hid (∀ W T, Rd W0 W g E T → Calls Tryd.prog 65 #[.pointer (some ⟨g, 0, none⟩)] W fun e w' => Took W0 W g E (fun _ f v => v = .agg (figV f)) (takeF E T) e w') := fun W T h => figure_any W0 W g E T h
  have CK : Hid (∀ W T, Rd W0 W g E T → Calls Tryd.prog 44 #[.pointer (some ⟨g, 0, none⟩), .int .i64 3] W fun e w' => Took W0 W g E (fun _ t v => v = .agg (encT t)) (takeK E 3 T) e w') := fun W T h => take_any W0 W g E 3 (by decide) T h
  have hgl := h.size
  have H : Hid (Rd W0 w g E T) := h
  obtain ⟨A, hA⟩ : ∃ A, A = addrT E T := ⟨_, rfl⟩
  rw [← hA]
  unfold addrT at hA
  clear h
  go_enter Tryd.func99, Tryd.ntmps99
  go_wp2_with fail
  refine (CF.out _ T H.out).mono ?_
  cases hF : takeF E T with
  | error x =>
    obtain ⟨c, q⟩ := x
    have HA : Hid (A = .error (c, q)) := by rw [hA, hF]; rfl
    clear hA hF
    rintro e w1 ⟨hg1, rfl⟩
    go_wp2_with fail
    rw [HA.out]
    exact ⟨rfl, hg1, rfl⟩
  | ok x =>
    obtain ⟨f, T1⟩ := x
    have HA : Hid (A = (takeD E 3 T1).map fun y => (f :: y.1, y.2)) := by rw [hA, hF]; rfl
    clear hA hF
    rintro e w1 ⟨hg1, ⟨v, rfl, rfl⟩, R1⟩
    have z1 := hg1.size
    have n1 := heap_new w1 (.cells (figV f) 67) _ rfl
    go_wp2_with (first
      | (refine wl_buildE (E := FigE) FigOk rfl _ rfl (figV f) rfl rfl ?_))
    go_loopw [3] (fun out wr => ∃ (n : Nat) (F : List Fig) (T2 : List Tok), n ≤ 3 ∧ F.length = 4 - n ∧ Hid (A = (takeD E n T2).map fun y => (F ++ y.1, y.2)) ∧ w.grownBy wr (some g) ∧ Rd W0 wr g E T2 ∧ wr.ownsRow w.heap.size 67 2 out F.length (gcells figV F)) (fun out _ => 4 - (match out with | .slice _ n _ => n | _ => 0))
    case atStart => exact ⟨3, [f], T1, Nat.le_refl _, rfl, HA, gb_alloc hg1 _, R1.alloc _, ⟨rfl, Or.inr ⟨w1.heap.size, 1, figV f, rfl, z1, n1, Nat.le_refl 1, by decide, rfl, rfl⟩⟩⟩
    case round =>
      obtain ⟨n, F, T2, hn, hFl, HA2, hg, R2, hown⟩ := hrel
      clear HA n1 R1 hg1 z1
      obtain ⟨o, cap, rfl⟩ := gown_slice hown
      obtain ⟨L, hL⟩ : ∃ L, L = F.length := ⟨_, rfl⟩
      have HL : Hid (L = F.length) := hL
      rw [← hL] at hown ⊢
      have HOWN : Hid (wr.ownsRow w.heap.size 67 2 (.slice o L cap) F.length (gcells figV F)) := by rw [← hL]; exact hown
      have HG : Hid (w.grownBy wr (some g)) := hg
      have HR2 : Hid (Rd W0 wr g E T2) := R2
      clear hown hg R2
      cases n with
      | zero =>
        have h4 : (4 : Int) ≤ (L : Int) := by omega
        have hA : A = .ok (F, T2) := by rw [HA2.out]; simp [takeD, Except.map]
        have HA3 : Hid (A = .ok (F, T2)) := hA
        clear hA HA2 hL
        go_wp2_with fail
        go_ret
        rw [HA3.out]
        exact ⟨HG.out, ⟨_, rfl, HOWN.out⟩, HR2.out⟩
      | succ n =>
        have h4 : (L : Int) < 4 := by omega
        have hl3 : L ≤ 3 := by omega
        clear hL
        go_wp2_with fail
        refine (CK.out _ T2 HR2.out).mono ?_
        cases hK : takeK E 3 T2 with
        | error x =>
          obtain ⟨c, q⟩ := x
          have HA3 : Hid (A = .error (c, q)) := by show _ = _; rw [HA2.out, takeD, hK]; rfl
          clear hK
          rintro e w3 ⟨hg3, rfl⟩
          go_wp2_with fail
          rw [HA3.out]
          exact ⟨rfl, grown_trans HG.out hg3, rfl⟩
        | ok x =>
          obtain ⟨t, T3⟩ := x
          rintro e w3 ⟨hg3, ⟨v, rfl, rfl⟩, R3⟩
          have HG3 : Hid (w.grownBy w3 (some g)) := grown_trans HG.out hg3
          have HOWN3 : Hid (w3.ownsRow w.heap.size 67 2 (.slice o L cap) F.length (gcells figV F)) := own_by hg3 hgl.2 HOWN.out
          have HR3 : Hid (Rd W0 w3 g E T3) := R3
          clear hg3 R3
          go_wp2_with fail
          refine (CF.out _ T3 HR3.out).mono ?_
          cases hF : takeF E T3 with
          | error x =>
            obtain ⟨c, q⟩ := x
            have HA3 : Hid (A = .error (c, q)) := by show _ = _; rw [HA2.out, takeD, hK]; show ((takeF E T3).bind _).map _ = _; rw [hF]; rfl
            clear hK hF
            rintro e w4 ⟨hg4, rfl⟩
            go_wp2_with fail
            rw [HA3.out]
            exact ⟨rfl, grown_trans HG3.out hg4, rfl⟩
          | ok x =>
            obtain ⟨f2, T4⟩ := x
            have HA3 : Hid (A = (takeD E n T4).map fun y => (F ++ [f2] ++ y.1, y.2)) := by
              show _ = _
              rw [HA2.out, takeD, hK]
              show ((takeF E T3).bind _).map _ = _
              rw [hF]
              show ((takeD E n T4).map _).map _ = _
              cases takeD E n T4 with
              | error x => rfl
              | ok x => simp [Except.map]
            clear hK hF
            rintro e w4 ⟨hg4, ⟨v, rfl, rfl⟩, R4⟩
            have HG4 : Hid (w.grownBy w4 (some g)) := grown_trans HG3.out hg4
            have HOWN4 : Hid (w4.ownsRow w.heap.size 67 2 (.slice o L cap) F.length (gcells figV F)) := own_by hg4 hgl.2 HOWN3.out
            have HR4 : Hid (Rd W0 w4 g E T4) := R4
            clear hg4 R4
            go_wp2_with (first
              | (refine wl_buildE (E := FigE) FigOk rfl _ rfl (figV f2) rfl rfl ?_)
              | (at_builtin; refine of_stopT ?_))
            unfold StopT
            have HO5 : Hid ((w4.alloc (.cells (figV f2) 67)).ownsRow w.heap.size 67 2 (.slice o L cap) F.length (gcells figV F)) := HOWN4.out.alloc _
            refine wl_appendE (E := FigE) FigOk figV rfl _ _ rfl w.heap.size _ F f2 (fig_fits _) rfl HO5.out _ 1 rfl (heap_new _ _ _ rfl) (by omega) (by have := HG4.out.size; simp; omega) ?_
            intro v' w5 hown5 hgr5 _
            have HG5 : Hid (w.grownBy w5 (some g)) := gb_own (gb_alloc HG4.out _) hgr5 fun k hk => (HO5.out.lt k hk).1
            have HR5 : Hid (Rd W0 w5 g E T4) := rd_own (HR4.out.alloc _) hgr5 fun k hk => Nat.lt_of_lt_of_le hgl.2 (HO5.out.lt k hk).1
            have HOWN5 : Hid (w5.ownsRow w.heap.size 67 2 v' (F ++ [f2]).length (gcells figV (F ++ [f2]))) := hown5
            obtain ⟨o5, cap5, rfl⟩ := gown_slice hown5
            clear hown5 hgr5
            simp only [Act.put, List.setIfInBounds_toArray, List.set_cons_succ, List.set_cons_zero]
            go_wp2_with fail
            go_roundw
            case rel => exact ⟨n, F ++ [f2], T4, by omega, by simp; omega, HA3, HG5.out, HR5.out, HOWN5.out⟩
            case measure => have := HL.out; simp; omega
end Go.Proofs.YtnbklmmampdbfaaDoor
namespace Go.Proofs.YtnbklmmampdbfaaDoor
open Go Go.RowKit
set_option maxRecDepth 20000

theorem takeA_eq (E : Nat) (T : List Tok) : takeA E T = (takeK E 1 T).bind fun x => if x.1.text = wDrop then .ok ((true, ⟨0, 0⟩), x.2) else if x.1.text = wPort then (takeF E x.2).map (fun y => ((false, y.1), y.2)) else .error (8, x.1.pos) := by
  cases T with
  | nil => rfl
  | cons t T =>
    unfold takeA takeK
    by_cases h : t.kind = 1
    · simp only [h, true_and, if_true]
      rfl
    · simp only [h, false_and, if_false]
      rfl
def ActV (v : Value) (a : Bool × Fig) : Prop := v = .tuple #[.bool a.1, .agg (figV a.2)]

set_option maxHeartbeats 2000000 in
theorem action_any (W0 w : World) (g E : Nat) (T : List Tok) (h : Rd W0 w g E T) :
    Calls Tryd.prog 67 #[.pointer (some ⟨g, 0, none⟩)] w fun e w' => Took W0 w g E (fun _ a v => ActV v a) (takeA E T) e w' := by
  have CF : Hid (∀ W T, Rd W0 W g E T → Calls Tryd.prog 65 #[.pointer (some ⟨g, 0, none⟩)] W fun e w' => Took W0 W g E (fun _ f v => v = .agg (figV f)) (takeF E T) e w') := fun W T h => figure_any W0 W g E T h
  have CK : Hid (∀ W T, Rd W0 W g E T → Calls Tryd.prog 44 #[.pointer (some ⟨g, 0, none⟩), .int .i64 1] W fun e w' => Took W0 W g E (fun _ t v => v = .agg (encT t)) (takeK E 1 T) e w') := fun W T h => take_any W0 W g E 1 (by decide) T h
  have hgl := h.size
  have H : Hid (Rd W0 w g E T) := h
  obtain ⟨A, hA⟩ : ∃ A, A = takeA E T := ⟨_, rfl⟩
  rw [← hA]
  rw [takeA_eq] at hA
  clear h
  go_enter Tryd.func67, Tryd.ntmps67
  go_wp2_with fail
  refine (CK.out _ T (H.out.alloc _)).mono ?_
  cases hK : takeK E 1 T with
  | error x =>
    obtain ⟨c, q⟩ := x
    have HA : Hid (A = .error (c, q)) := by rw [hA, hK]; rfl
    clear hA hK
    rintro e w1 ⟨hg1, rfl⟩
    go_wp2_with fail
    rw [HA.out]
    exact ⟨rfl, grown_trans (gb_alloc (gb_refl w g) _) hg1, rfl⟩
  | ok x =>
    obtain ⟨t, T1⟩ := x
    have HA : Hid (A = if t.text = wDrop then .ok ((true, ⟨0, 0⟩), T1) else if t.text = wPort then (takeF E T1).map (fun y => ((false, y.1), y.2)) else .error (8, t.pos)) := by rw [hA, hK]; rfl
    clear hA hK
    rintro e w1 ⟨hg1, ⟨v, rfl, rfl⟩, R1⟩
    have z1 : w.heap.size < w1.heap.size := by have := hg1.size; simp at this; omega
    have HG1 : Hid (w.grownBy w1 (some g)) := grown_trans (gb_alloc (gb_refl w g) _) hg1
    obtain ⟨t0, t1, t2, t3⟩ := tok_cells (heap_new w1 (.cells (encT t) 88) _ rfl)
    have hr1 : Hid ((w1.alloc (.cells (encT t) 88)).heap[w.heap.size]? = some (.cells (figV ⟨0, 0⟩) 67 (0, 0))) := (heap_past _ _ _ _ ((hg1.block _ (by simp) (by simp; omega)).trans (heap_new _ _ _ rfl)))
    have HR1 : Hid (Rd W0 w1 g E T1) := R1
    clear hg1 R1
    by_cases d1 : t.text = wDrop
    · rw [if_pos d1] at HA
      have e1 : (t.text == [100, 114, 111, 112]) = true := by rw [d1]; rfl
      clear d1
      go_wp2_with (first
        | (refine wl_storeE (E := TokE) TokOk rfl _ _ rfl w1.heap.size (encT t) (tv_fits _ _ _ _) rfl rfl _ (heap_new _ _ _ rfl) rfl _ (setRow_new _ _ _ _ _ rfl) ?_)
        | (refine wl_storeE (E := FigE) FigOk rfl _ _ rfl w.heap.size (figV ⟨0, 0⟩) (fig_fits _) rfl rfl _ hr1.out rfl _ rfl ?_))
      refine retBE (E := FigE) FigOk rfl rfl w.heap.size rfl (figV ⟨0, 0⟩) rfl (setRow_heap _ _ _ _ _ _ hr1.out) _ rfl ?_
      rw [HA.out]
      exact ⟨gb_setRow (gb_alloc HG1.out _) (.inr (Nat.le_refl _)) _, ⟨_, rfl, rfl⟩, rd_setRow (HR1.out.alloc _) (by omega) (by omega) _⟩
    · rw [if_neg d1] at HA
      have e1 : (t.text == [100, 114, 111, 112]) = false := by rw [beq_eq_false_iff_ne]; exact d1
      clear d1
      by_cases d2 : t.text = wPort
      · rw [if_pos d2] at HA
        have e2 : (t.text == [112, 111, 114, 116]) = true := by rw [d2]; rfl
        clear d2
        go_wp2_with (first
          | (refine wl_storeE (E := TokE) TokOk rfl _ _ rfl w1.heap.size (encT t) (tv_fits _ _ _ _) rfl rfl _ (heap_new _ _ _ rfl) rfl _ (setRow_new _ _ _ _ _ rfl) ?_))
        refine (CF.out _ T1 (HR1.out.alloc _)).mono ?_
        cases hF : takeF E T1 with
        | error x =>
          obtain ⟨c, q⟩ := x
          rw [hF] at HA
          clear hF
          rintro e w2 ⟨hg2, rfl⟩
          go_wp2_with fail
          rw [HA.out]
          exact ⟨rfl, grown_trans (gb_alloc HG1.out _) hg2, rfl⟩
        | ok x =>
          obtain ⟨f, T2⟩ := x
          rw [hF] at HA
          clear hF
          rintro e w2 ⟨hg2, ⟨v, rfl, rfl⟩, R2⟩
          have hr2 : Hid (w2.heap[w.heap.size]? = some (.cells (figV ⟨0, 0⟩) 67 (0, 0))) := (hg2.block _ (by simp; omega) (by simp; omega)).trans hr1.out
          have HG2 : Hid (w.grownBy w2 (some g)) := grown_trans (gb_alloc HG1.out _) hg2
          have HR2 : Hid (Rd W0 w2 g E T2) := R2
          clear hg2 R2 t0 t1 t2 t3
          go_wp2_with (first
            | (refine wl_storeE (E := FigE) FigOk rfl _ _ rfl w.heap.size (figV f) (fig_fits _) rfl rfl _ hr2.out rfl _ rfl ?_))
          refine retBE (E := FigE) FigOk rfl rfl w.heap.size rfl (figV f) rfl (setRow_heap _ _ _ _ _ _ hr2.out) _ rfl ?_
          rw [HA.out]
          exact ⟨gb_setRow HG2.out (.inr (Nat.le_refl _)) _, ⟨_, rfl, rfl⟩, rd_setRow HR2.out (by omega) (by omega) _⟩
      · rw [if_neg d2] at HA
        have e2 : (t.text == [112, 111, 114, 116]) = false := by rw [beq_eq_false_iff_ne]; exact d2
        clear d2
        go_wp2_with (first
          | (refine wl_storeE (E := TokE) TokOk rfl _ _ rfl w1.heap.size (encT t) (tv_fits _ _ _ _) rfl rfl _ (heap_new _ _ _ rfl) rfl _ (setRow_new _ _ _ _ _ rfl) ?_))
        rw [HA.out]
        exact ⟨rfl, gb_alloc HG1.out _, rfl⟩
end Go.Proofs.YtnbklmmampdbfaaDoor
namespace Go.Proofs.YtnbklmmampdbfaaDoor
open Go Go.RowKit
set_option maxRecDepth 20000

/-- One operation of a drawn region, by the laws for a list of them. -/
theorem wpOp_of_list {P : Program} {ops : Array Oper} {Q : Exit → Act → World → Prop} {i : Nat} {o : Oper} {K : Act → World → Prop} {a : Act} {w : World} (hi : ops[i]? = some o)
    (h : wpList P ops (fun e a' w' => match e with | .normal => K a' w' | e => Q e a' w') [o] a w) : wpOp P ops Q i K a w := by
  unfold Go.wpOp
  simp only [hi]
  unfold wpList at h
  by_cases hw : Region.wanted o (yielded ops a.tmps) = true
  · rw [if_pos hw] at h ⊢
    rcases h with h | h
    · refine .inl ?_
      unfold Oper.wp at h ⊢
      revert h
      generalize (execOp a.eval o).run P w = r
      intro h
      unfold Oper.upon at h ⊢
      split at h
      · exact h
      · exact h
      · exact h
      · refine h.mono ?_
        intro e w1 h1
        cases e <;> exact h1
      · exact h
      · exact h
      · exact h.elim
    · exact .inr h
  · rw [if_neg hw] at h ⊢
    exact h
theorem eval_put (a : Act) (k j : Nat) (v : Value) (hk : k < a.tmps.size) : (a.put (some k) v).eval (.tmp j) = if j = k then v else a.eval (.tmp j) := by
  simp only [Act.eval, Act.put, Array.getElem?_setIfInBounds, Array.getD_eq_getD_getElem?]
  by_cases h : j = k
  · subst h; simp [hk]
  · simp [h, Ne.symm h]
theorem size_put (a : Act) (d : Option Tmp) (v : Value) : (a.put d v).tmps.size = a.tmps.size := by
  cases d <;> simp [Act.put]
theorem w_set_heap (w : World) : w.drew.heap = w.heap := rfl
theorem gb_drew (w : World) (g : Nat) : w.grownBy w.drew (some g) := ⟨rfl, rfl, rfl, Nat.le_refl _, fun _ _ _ => rfl⟩
theorem load_cell {ty e : TypeId} (hu : Tryd.prog.underlying ty = some (.slice e)) (W : World) (ad : Addr) (v : Value) (h : W.cell? ad = some v) : (Instr.loadAt ty (.pointer (some ad))).run Tryd.prog W = .ok v W := by
  have ha : (isAgg ty).run Tryd.prog W = .ok false W := by unfold isAgg; rw [Sem.run_bind, run_underlying hu W]; simp [go_sem]
  simp [Instr.loadAt, Instr.sureAddr, loadVar, Sem.run_bind, ha, go_sem, h]
theorem store_cell {ty : TypeId} (hsz : ∀ W, (sizeOf ty).run Tryd.prog W = .ok 1 W) (W : World) (ad : Addr) (v u : Value) (hv : ∃ o n c, v = .slice o n c) (h : W.cell? ad = some u) (hz : W.frozen? ad = false) : (Instr.storeAt ty (.pointer (some ad)) v).run Tryd.prog W = .ok () (W.setCell ad v) := by
  obtain ⟨o, n, c, rfl⟩ := hv
  simp [Instr.storeAt, Instr.sureAddr, storeVar, Sem.run_bind, hsz, go_sem, h, hz]
/-- One operation whose value is known. -/
theorem wpOp_val {ops : Array Oper} {Q : Exit → Act → World → Prop} {i : Nat} {o : Oper} {K : Act → World → Prop} {a : Act} {w w' : World} (hi : ops[i]? = some o) (hw : Region.wanted o (yielded ops a.tmps) = true) (v : Value)
    (hx : (execOp a.eval o).run Tryd.prog w = .ok (.value v) w') (d : Option Tmp) (hd : o.dst = d) (hK : K (a.put d v) w') : wpOp Tryd.prog ops Q i K a w := by
  subst hd
  refine wpOp_wanted hi hw ?_
  unfold Oper.wp
  rw [hx]
  exact hK
theorem wpOp_skip6 {ops : Array Oper} {Q : Exit → Act → World → Prop} {i : Nat} {o : Oper} {K : Act → World → Prop} {a : Act} {w w' : World} (hi : ops[i]? = some o) (hw : Region.wanted o (yielded ops a.tmps) = true)
    (hx : (execOp a.eval o).run Tryd.prog w = .ok .skip w') (d : Option Tmp) (hd : o.dst = d) (hK : K (a.put d undef) w') : wpOp Tryd.prog ops Q i K a w := by
  subst hd
  refine wpOp_wanted hi hw ?_
  unfold Oper.wp
  rw [hx]
  exact hK
theorem wpOp_skip0 {ops : Array Oper} {Q : Exit → Act → World → Prop} {i : Nat} {o : Oper} {K : Act → World → Prop} {a : Act} {w w' : World} (hi : ops[i]? = some o) (hw : Region.wanted o (yielded ops a.tmps) = true)
    (hx : (execOp a.eval o).run Tryd.prog w = .ok .skip w') (hd : o.dst = none) (hK : K a w') : wpOp Tryd.prog ops Q i K a w :=
  wpOp_skip6 hi hw hx none hd hK
theorem wpOp_callQ {ops : Array Oper} {Q : Exit → Act → World → Prop} {i : Nat} {o : Oper} {K : Act → World → Prop} {a : Act} {w : World} (hi : ops[i]? = some o) (hw : Region.wanted o (yielded ops a.tmps) = true) (f : FuncId) (vs : Array Value)
    (hf : (execOp a.eval o).run Tryd.prog w = .ok (.enter f vs) w) (D : Ending → World → Prop) (h : Calls Tryd.prog f vs w D) (d : Option Tmp) (hd : o.dst = d) (hK : ∀ v w', D (.returned v) w' → K (a.put d v) w') (hP : ∀ ch w', D (.panicked ch) w' → Q (.panic ch) a w') (hO : ∀ w', ¬ D .outgrown w') : wpOp Tryd.prog ops Q i K a w := by
  subst hd
  refine wpOp_wanted hi hw ?_
  unfold Oper.wp
  rw [hf]
  refine h.mono ?_
  intro e w' hD
  cases e with
  | returned v => exact hK v w' hD
  | panicked ch => exact hP ch w' hD
  | outgrown => exact absurd hD (hO w')

theorem run_fieldOp {o : Oper} {t i : Nat} {x : Operand} (ho : o.op = .fieldAddr t x i) (a : Act) (W : World) (v : Value) (h : (Instr.fieldAt t (a.eval x) i).run Tryd.prog W = .ok v W) : (execOp a.eval o).run Tryd.prog W = .ok (.value v) W := by
  unfold execOp
  simp only [ho, Sem.run_bind, h, Result.andThen_ok, Sem.run_pure]
theorem run_moveOp {o : Oper} {x : Operand} (ho : o.op = .move x) (a : Act) (W : World) (v : Value) (h : a.eval x = v) : (execOp a.eval o).run Tryd.prog W = .ok (.value v) W := by
  unfold execOp
  simp only [ho, Sem.run_pure, h]
theorem run_loadOp {o : Oper} {t : Nat} {x : Operand} (ho : o.op = .load t x) (a : Act) (W : World) (u v : Value) (hu : a.eval x = u) (h : (Instr.loadAt t u).run Tryd.prog W = .ok v W) : (execOp a.eval o).run Tryd.prog W = .ok (.value v) W := by
  unfold execOp
  simp only [ho, Sem.run_bind, hu, h, Result.andThen_ok, Sem.run_pure]
theorem run_storeOp {o : Oper} {t : Nat} {x y : Operand} (ho : o.op = .store t x y) (a : Act) (W W' : World) (u v : Value) (hu : a.eval x = u) (hv : a.eval y = v) (h : (Instr.storeAt t u v).run Tryd.prog W = .ok () W') : (execOp a.eval o).run Tryd.prog W = .ok .skip W' := by
  unfold execOp
  simp only [ho, Sem.run_bind, hu, hv, h, Result.andThen_ok, Sem.run_pure]
theorem run_callOp {o : Oper} {f : Nat} {x : Operand} {ts : Array TypeId} (ho : o.op = .call { callee := .value (.func f), args := #[x], argTypes := ts }) (hf : ∀ vs W, (callFunc f vs).run Tryd.prog W = .ok (.enter f vs) W) (a : Act) (W : World) (v : Value) (h : a.eval x = v) : (execOp a.eval o).run Tryd.prog W = .ok (.enter f #[v]) W := by
  unfold execOp
  have hef : a.eval (.func f) = .func (.func f) #[] #[] := rfl
  simp only [ho, resolve, hef, List.map_toArray, List.map_cons, List.map_nil, h]
  simp [go_sem, hf]
end Go.Proofs.YtnbklmmampdbfaaDoor
namespace Go.Proofs.YtnbklmmampdbfaaDoor
open Go Go.RowKit
set_option maxRecDepth 20000

/-- What holds at each moment of a drawn region: all that has come up has a value as is told; all other slots are as they were. -/
structure InvR (ops : Array Oper) (V : Nat → Value → World → Prop) (D : List Nat) (a0 : Act) (w0 : World) (listed : Array Bool) (a : Act) (w : World) : Prop where
  below : Below w0.heap.size w0 w
  size : a.tmps.size = a0.tmps.size
  defers : a.defers = a0.defers
  other : ∀ d, d ∉ D → a.eval (.tmp d) = a0.eval (.tmp d)
  has : ∀ j o d, ops[j]? = some o → o.dst = some d → listed.getD j false = true → V j (a.eval (.tmp d)) w
/-- What an operation finds when it comes up. -/
structure AtOp (ops : Array Oper) (V : Nat → Value → World → Prop) (D : List Nat) (a0 : Act) (w0 : World) (o : Oper) (a : Act) (w : World) : Prop where
  below : Below w0.heap.size w0 w
  size : a.tmps.size = a0.tmps.size
  defers : a.defers = a0.defers
  other : ∀ d, d ∉ D → a.eval (.tmp d) = a0.eval (.tmp d)
  has : ∀ e ∈ o.after, Region.binds .any e = true → ∀ oj d, ops[e.on]? = some oj → oj.dst = some d → V e.on (a.eval (.tmp d)) w
theorem dst_apart {ops : Array Oper} {D : List Nat} (hD : (ops.toList.filterMap (·.dst)) = D) (hnd : D.Nodup) {i j : Nat} {oi oj : Oper} {d : Nat} (hi : ops[i]? = some oi) (hj : ops[j]? = some oj) (di : oi.dst = some d) (dj : oj.dst = some d) : i = j := by
  subst hD
  rw [List.nodup_iff_pairwise_ne, List.pairwise_filterMap] at hnd
  rw [← Array.getElem?_toList] at hi hj
  obtain ⟨hi1, hi2⟩ := List.getElem?_eq_some_iff.1 hi
  obtain ⟨hj1, hj2⟩ := List.getElem?_eq_some_iff.1 hj
  rw [List.pairwise_iff_getElem] at hnd
  rcases Nat.lt_trichotomy i j with h | h | h
  · exact absurd rfl (hnd i j hi1 hj1 h d (by rw [hi2]; exact di) d (by rw [hj2]; exact dj))
  · exact h
  · exact absurd rfl (hnd j i hj1 hi1 h d (by rw [hj2]; exact dj) d (by rw [hi2]; exact di))
theorem falses_set (l : Array Bool) (i : Nat) (h : l.getD i true = false) : (l.setIfInBounds i true).toList.count false + 1 = l.toList.count false := by
  have hi : i < l.size := by
    rw [Array.getD_eq_getD_getElem?] at h
    rcases Nat.lt_or_ge i l.size with h1 | h1
    · exact h1
    · rw [Array.getElem?_eq_none h1] at h; simp at h
  have hv : l[i] = false := by
    rw [Array.getD_eq_getD_getElem?, Array.getElem?_eq_getElem hi] at h
    simpa using h
  rw [Array.toList_setIfInBounds]
  have hi' : i < l.toList.length := by simpa using hi
  have e : l.toList = l.toList.take i ++ false :: l.toList.drop (i + 1) := by
    have := List.drop_eq_getElem_cons hi'
    rw [show l.toList[i] = false by simpa using hv] at this
    rw [← this, List.take_append_drop]
  rw [List.set_eq_take_append_cons_drop, if_pos hi', e]
  have e2 : (l.toList.take i ++ false :: l.toList.drop (i + 1)).take i = l.toList.take i := by rw [← e]
  have e3 : (l.toList.take i ++ false :: l.toList.drop (i + 1)).drop (i + 1) = l.toList.drop (i + 1) := by rw [← e]
  rw [e2, e3, List.count_append, List.count_append, List.count_cons, List.count_cons]
  simp
  omega
theorem ready_none {md : Region.Mode} {ops : Array Oper} {l : Array Bool} (h : l.toList.count false = 0) : Region.ready md ops l = [] := by
  rw [List.eq_nil_iff_forall_not_mem]
  intro j hj
  have h1 := (mem_ready.1 hj).1
  rw [Array.getD_eq_getD_getElem?] at h1
  rcases Nat.lt_or_ge j l.size with h2 | h2
  · rw [Array.getElem?_eq_getElem h2] at h1
    have h3 : l[j] = false := by simpa using h1
    have : false ∈ l.toList := by rw [← h3]; exact Array.mem_toList_iff.2 (Array.getElem_mem h2)
    have := List.count_pos_iff.2 this
    omega
  · rw [Array.getElem?_eq_none h2] at h1; simp at h1
theorem getD_tf {l : Array Bool} {j : Nat} (h : l.getD j true = false) : l.getD j false = false := by
  rw [Array.getD_eq_getD_getElem?] at h ⊢
  rcases Nat.lt_or_ge j l.size with h2 | h2
  · rw [Array.getElem?_eq_getElem h2] at h ⊢; simpa using h
  · rw [Array.getElem?_eq_none h2]; rfl
theorem getD_set_ne' {l : Array Bool} {i j : Nat} (h : i ≠ j) (b c : Bool) : (l.setIfInBounds i b).getD j c = l.getD j c := by
  rw [Array.getD_eq_getD_getElem?, Array.getD_eq_getD_getElem?, Array.getElem?_setIfInBounds_ne h]
theorem ready_some {ops : Array Oper} {l : Array Bool} (hs : l.size = ops.size) (hdag : ∀ (i : Nat) (o : Oper), ops[i]? = some o → ∀ e ∈ o.after, e.on < i) : ∀ j, l.getD j true = false → Region.ready .any ops l ≠ [] := by
  intro j
  induction j using Nat.strongRecOn with
  | ind j ih =>
    intro hj hr
    have hjl : j < l.size := by
      rw [Array.getD_eq_getD_getElem?] at hj
      rcases Nat.lt_or_ge j l.size with h1 | h1
      · exact h1
      · rw [Array.getElem?_eq_none h1] at hj; simp at hj
    have ho : ops[j]? = some (ops[j]'(by omega)) := Array.getElem?_eq_getElem (by omega)
    by_cases hall : ∀ e ∈ (ops[j]'(by omega)).after, Region.binds .any e = true → l.getD e.on false = true
    · have : j ∈ Region.ready .any ops l := mem_ready.2 ⟨hj, _, ho, hall⟩
      rw [hr] at this
      simp at this
    · simp only [Classical.not_forall] at hall
      obtain ⟨e, he, hb, hl⟩ := hall
      have hlt := hdag j _ ho e he
      refine ih e.on hlt ?_ hr
      rw [Array.getD_eq_getD_getElem?, Array.getElem?_eq_getElem (by omega)] at hl ⊢
      simpa using hl
/-- A drawn region whose last operation waits for all others, and whose others make memory at most: in whatever order they come up, each finds what it waits for. -/
theorem region_inv {P : Program} {id : Nat} {Q : Exit → Act → World → Prop} {a0 : Act} {w0 : World} {lo : List Oper} (n : Nat) (V : Nat → Value → World → Prop) (D : List Nat) (hm : P.follows .mixedOrders = true)
    (hn : lo.length = n + 1) (hD : (lo.filterMap (·.dst)) = D) (hnd : D.Nodup) (hsz : ∀ d ∈ D, d < a0.tmps.size) (hdag : (lo.zipIdx.all fun x => x.1.after.all fun e => decide (e.on < x.2)) = true)
    (hlast : (lo[n]?).map (fun o => (List.range n).all fun j => o.after.any fun e => e.on == j && Region.binds .any e) = some true)
    (hV : ∀ j v w w', V j v w → Below w.heap.size w w' → V j v w')
    (hop : ∀ i o, lo[i]? = some o → i < n → ∀ a w, AtOp lo.toArray V D a0 w0.drew o a w → wpOp P lo.toArray Q i (fun a' w' => ∃ v, a' = a.put o.dst v ∧ Below w.heap.size w w' ∧ ∀ d, o.dst = some d → V i v w') a w)
    (hend : ∀ a w, Below w0.heap.size w0 w → a.tmps.size = a0.tmps.size → a.defers = a0.defers → (∀ d, d ∉ D → a.eval (.tmp d) = a0.eval (.tmp d)) → (∀ j o d, j < n → lo[j]? = some o → o.dst = some d → V j (a.eval (.tmp d)) w) → wpOp P lo.toArray Q n (fun a' w' => Q .normal a' w') a w) : (Code.region id lo.toArray true).wp P Q a0 w0 := by
  refine wp_region_any hm ?_
  have hdag' : ∀ (i : Nat) (o : Oper), lo.toArray[i]? = some o → ∀ e ∈ o.after, e.on < i := fun i o ho e he => by
    rw [List.all_eq_true] at hdag
    have ho' : lo[i]? = some o := by simpa using ho
    obtain ⟨hi, rfl⟩ := List.getElem?_eq_some_iff.1 ho'
    have := hdag (lo[i], i) (List.mem_zipIdx_iff_getElem?.2 (List.getElem?_eq_getElem hi))
    simp only [Array.all_eq_true_iff_forall_mem] at this
    simpa using this e he
  have hnd' := hnd
  have hDa : (lo.toArray.toList.filterMap (·.dst)) = D := by simpa using hD
  have inD : ∀ (i : Nat) (o : Oper) (d : Nat), lo.toArray[i]? = some o → o.dst = some d → d ∈ D := fun i o d ho hd => by
    rw [← hD, List.mem_filterMap]
    exact ⟨o, List.mem_of_getElem? (by simpa using ho), hd⟩
  have key : ∀ (f : Nat) (listed : Array Bool) (a : Act) (w : World), listed.toList.count false = f → listed.size = n + 1 → listed.getD n true = false → InvR lo.toArray V D a0 w0.drew listed a w → wpAny P .any lo.toArray Q f listed a w := by
    intro f
    induction f with
    | zero =>
      intro listed a w hc hs hln inv
      exfalso
      have : false ∈ listed.toList := by
        rw [Array.getD_eq_getD_getElem?, Array.getElem?_eq_getElem (by omega)] at hln
        have h3 : listed[n]'(by omega) = false := by simpa using hln
        rw [← h3]; exact Array.mem_toList_iff.2 (Array.getElem_mem (by omega))
      have := List.count_pos_iff.2 this
      omega
    | succ f ih =>
      intro listed a w hc hs hln inv
      refine ⟨fun hr => absurd hr (ready_some (by simpa [hn] using hs) hdag' n hln), fun i hi => ?_⟩
      obtain ⟨hiu, o, ho, hdeps⟩ := mem_ready.1 hi
      have hil : i < listed.size := by
        rw [Array.getD_eq_getD_getElem?] at hiu
        rcases Nat.lt_or_ge i listed.size with h1 | h1
        · exact h1
        · rw [Array.getElem?_eq_none h1] at hiu; simp at hiu
      have hcnt := falses_set listed i hiu
      by_cases hin : i = n
      · subst hin
        have hol : lo[i]? = some o := by simpa using ho
        have hall : ∀ j, j < i → listed.getD j false = true := fun j hj => by
          rw [hol] at hlast
          simp only [Option.map_some, Option.some.injEq, List.all_eq_true, List.mem_range] at hlast
          have := hlast j hj
          rw [Array.any_eq_true'] at this
          obtain ⟨e, he, hb⟩ := this
          simp only [Bool.and_eq_true, beq_iff_eq] at hb
          rw [← hb.1]
          exact hdeps e he hb.2
        refine wpOp_mono (fun a' w' hQ => ?_) (hend a w ((Below.refl _ _).drew.trans inv.below) inv.size inv.defers inv.other (fun j oj d hj hoj hd => inv.has j oj d (by simpa using hoj) hd (hall j hj)))
        have h0 : (listed.setIfInBounds i true).toList.count false = 0 := by
          rw [List.count_eq_zero]
          intro hmem
          obtain ⟨j, hj, hje⟩ := List.mem_iff_getElem.1 hmem
          rw [Array.getElem_toList] at hje
          have hj' : j < listed.size := by simpa using hj
          by_cases hji : i = j
          · subst hji
            rw [Array.getElem_setIfInBounds_self] at hje
            simp at hje
          · rw [Array.getElem_setIfInBounds_ne hj' hji] at hje
            have := hall j (by omega)
            rw [Array.getD_eq_getD_getElem?, Array.getElem?_eq_getElem hj'] at this
            simp [hje] at this
        obtain rfl : f = 0 := by omega
        exact ⟨ready_none h0, hQ⟩
      · have hlt : i < n := by omega
        have hol : lo[i]? = some o := by simpa using ho
        refine wpOp_mono (fun a' w' hK => ?_) (hop i o hol hlt a w ⟨inv.below, inv.size, inv.defers, inv.other, fun e he hb oj d hoj hd => inv.has e.on oj d hoj hd (hdeps e he hb)⟩)
        obtain ⟨v, rfl, hbw, hv⟩ := hK
        refine ih _ _ _ (by omega) (by simpa using hs) (by rw [getD_set_ne' hin]; exact hln) ⟨inv.below.trans (hbw.mono inv.below.size), by rw [size_put]; exact inv.size, ?_, fun d hd => ?_, fun j oj d hoj hd hlj => ?_⟩
        · have : (a.put o.dst v).defers = a.defers := by cases o.dst <;> rfl
          rw [this]; exact inv.defers
        · cases hdo : o.dst with
          | none => exact inv.other d hd
          | some k =>
            rw [eval_put _ _ _ _ (by rw [inv.size]; exact hsz k (inD i o k ho hdo)), if_neg (fun h : d = k => hd (by rw [h]; exact inD i o k ho hdo))]
            exact inv.other d hd
        · by_cases hji : j = i
          · subst hji
            obtain rfl : oj = o := Option.some.inj (hoj.symm.trans ho)
            rw [hd, eval_put _ _ _ _ (by rw [inv.size]; exact hsz d (inD j oj d ho hd)), if_pos rfl]
            exact hv d hd
          · rw [getD_set_ne' (Ne.symm hji)] at hlj
            have h1 := hV _ _ _ _ (inv.has j oj d hoj hd hlj) hbw
            cases hdo : o.dst with
            | none => exact h1
            | some k =>
              have hkd : ¬ d = k := fun h => hji (dst_apart hDa hnd' hoj ho hd (by rw [h]; exact hdo))
              rw [eval_put _ _ _ _ (by rw [inv.size]; exact hsz k (inD i o k ho hdo)), if_neg hkd]
              exact h1
  have hrep : (Array.replicate lo.toArray.size false).toList.count false = lo.toArray.size := by simp
  refine key _ _ _ _ hrep (by simp [hn]) ?_ ⟨Below.refl _ _, rfl, rfl, fun _ _ => rfl, fun j o d _ _ hl => ?_⟩
  · rw [Array.getD_eq_getD_getElem?, Array.getElem?_eq_getElem (by simp [hn])]
    simp
  · exfalso
    rw [Array.getD_eq_getD_getElem?] at hl
    rcases Nat.lt_or_ge j (Array.replicate lo.toArray.size false).size with h1 | h1
    · rw [Array.getElem?_eq_getElem h1] at hl; simp at hl
    · rw [Array.getElem?_eq_none h1] at hl; simp at hl
/-! Steps of such a region. -/
theorem iv_val {ops : Array Oper} {Q : Exit → Act → World → Prop} {V : Nat → Value → World → Prop} {i : Nat} {o : Oper} {a : Act} {w : World} (hi : ops[i]? = some o) (hw : Region.wanted o (yielded ops a.tmps) = true) (v : Value)
    (hx : (execOp a.eval o).run Tryd.prog w = .ok (.value v) w) (hv : V i v w) : wpOp Tryd.prog ops Q i (fun a' w' => ∃ v, a' = a.put o.dst v ∧ Below w.heap.size w w' ∧ ∀ d, o.dst = some d → V i v w') a w :=
  wpOp_val hi hw v hx o.dst rfl ⟨v, rfl, Below.refl _ _, fun _ _ => hv⟩
theorem iv_not {ops : Array Oper} {Q : Exit → Act → World → Prop} {V : Nat → Value → World → Prop} {i : Nat} {o : Oper} {a : Act} {w : World} (hi : ops[i]? = some o) (hw : Region.wanted o (yielded ops a.tmps) = false) (hv : V i undef w) :
    wpOp Tryd.prog ops Q i (fun a' w' => ∃ v, a' = a.put o.dst v ∧ Below w.heap.size w w' ∧ ∀ d, o.dst = some d → V i v w') a w := by
  unfold Go.wpOp
  simp only [hi, hw]
  exact ⟨undef, rfl, Below.refl _ _, fun _ _ => hv⟩
theorem iv_call {ops : Array Oper} {Q : Exit → Act → World → Prop} {V : Nat → Value → World → Prop} {i : Nat} {o : Oper} {a : Act} {w : World} (hi : ops[i]? = some o) (hw : Region.wanted o (yielded ops a.tmps) = true) (f : FuncId) (vs : Array Value)
    (hf : (execOp a.eval o).run Tryd.prog w = .ok (.enter f vs) w) (h : Calls Tryd.prog f vs w fun e w' => ∃ v, e = .returned v ∧ Below w.heap.size w w' ∧ V i v w') : wpOp Tryd.prog ops Q i (fun a' w' => ∃ v, a' = a.put o.dst v ∧ Below w.heap.size w w' ∧ ∀ d, o.dst = some d → V i v w') a w :=
  wpOp_callQ hi hw f vs hf _ h o.dst rfl (fun v w' hD => by
    obtain ⟨u, hu, hb, hv⟩ := hD
    obtain rfl : v = u := by simpa using hu
    exact ⟨v, rfl, hb, fun _ _ => hv⟩) (fun ch w' hD => by obtain ⟨u, hu, _⟩ := hD; cases hu) (fun w' hD => by obtain ⟨u, hu, _⟩ := hD; cases hu)
theorem iv_list {ops : Array Oper} {Q : Exit → Act → World → Prop} {V : Nat → Value → World → Prop} {i : Nat} {o : Oper} {a : Act} {w : World} (hi : ops[i]? = some o)
    (h : wpList Tryd.prog ops (fun e a' w' => match e with | .normal => (∃ v, a' = a.put o.dst v ∧ Below w.heap.size w w' ∧ ∀ d, o.dst = some d → V i v w') | e => Q e a' w') [o] a w) : wpOp Tryd.prog ops Q i (fun a' w' => ∃ v, a' = a.put o.dst v ∧ Below w.heap.size w w' ∧ ∀ d, o.dst = some d → V i v w') a w :=
  wpOp_of_list hi h
theorem run_callOps {o : Oper} {f : Nat} {xs : Array Operand} {ts : Array TypeId} (ho : o.op = .call { callee := .value (.func f), args := xs, argTypes := ts }) (hf : ∀ vs W, (callFunc f vs).run Tryd.prog W = .ok (.enter f vs) W) (a : Act) (W : World) (vs : Array Value) (h : xs.map a.eval = vs) : (execOp a.eval o).run Tryd.prog W = .ok (.enter f vs) W := by
  unfold execOp
  have hef : a.eval (.func f) = .func (.func f) #[] #[] := rfl
  simp only [ho, resolve, hef, h]
  simp [go_sem, hf]
theorem run_pickOp {o : Oper} {x y z : Operand} (ho : o.op = .pick x y z) (a : Act) (W : World) (b : Bool) (hb : a.eval x = .bool b) (v : Value) (hv : (if b then a.eval y else a.eval z) = v) : (execOp a.eval o).run Tryd.prog W = .ok (.value v) W := by
  unfold execOp
  simp only [ho, hb, ← hv]
  cases b <;> simp [go_sem]
theorem iv_alloc {E : El} (H : E.Ok) {ops : Array Oper} {Q : Exit → Act → World → Prop} {V : Nat → Value → World → Prop} {i : Nat} {o : Oper} {a : Act} {w : World} (hi : ops[i]? = some o) (hw : Region.wanted o (yielded ops a.tmps) = true) (ho : o.op = .alloc E.elem)
    (hv : V i (.pointer (some ⟨w.heap.size, 0, none⟩)) (w.alloc (.cells E.zero E.elem))) : wpOp Tryd.prog ops Q i (fun a' w' => ∃ v, a' = a.put o.dst v ∧ Below w.heap.size w w' ∧ ∀ d, o.dst = some d → V i v w') a w := by
  obtain ⟨ie, h1, h2, _, _⟩ := H.info
  have hx : (execOp a.eval o).run Tryd.prog w = .ok (.value (.pointer (some ⟨w.heap.size, 0, none⟩))) (w.alloc (.cells E.zero E.elem)) := by
    unfold execOp
    simp only [ho]
    simp [go_sem, Instr.alloc, zeroValue, typeInfo, h1, h2, Value.cells]
  exact wpOp_val hi hw _ hx o.dst rfl ⟨_, rfl, (Below.refl _ _).alloc (Nat.le_refl _) _, fun _ _ => hv⟩
/-- The frame behind such a region: the slots that it wrote, one by one. -/
def putsD (D : List Nat) (y : Nat → Value) (a : Act) : Act := D.foldl (fun b d => b.put (some d) (y d)) a
theorem putsD_size (y : Nat → Value) : ∀ (D : List Nat) (a : Act), (putsD D y a).tmps.size = a.tmps.size ∧ (putsD D y a).defers = a.defers
  | [], a => ⟨rfl, rfl⟩
  | d :: D, a => by
    have := putsD_size y D (a.put (some d) (y d))
    exact ⟨this.1.trans (size_put _ _ _), this.2.trans rfl⟩
theorem putsD_eval (y : Nat → Value) : ∀ (D : List Nat) (a : Act), (∀ d ∈ D, d < a.tmps.size) → ∀ k, (putsD D y a).eval (.tmp k) = if k ∈ D then y k else a.eval (.tmp k)
  | [], a, _, k => by simp [putsD]
  | d :: D, a, h, k => by
    show (putsD D y (a.put (some d) (y d))).eval (.tmp k) = _
    rw [putsD_eval y D _ (fun e he => by rw [size_put]; exact h e (by simp [he])) k]
    by_cases hk : k ∈ D
    · rw [if_pos hk, if_pos (by simp [hk])]
    · rw [if_neg hk, eval_put _ _ _ _ (h d (by simp))]
      by_cases hkd : k = d
      · rw [if_pos hkd, if_pos (by simp [hkd]), hkd]
      · rw [if_neg hkd, if_neg (by simp [hk, hkd])]
theorem act_ext {a b : Act} (hs : a.tmps.size = b.tmps.size) (hd : a.defers = b.defers) (he : ∀ k, a.eval (.tmp k) = b.eval (.tmp k)) : a = b := by
  obtain ⟨ta, da⟩ := a
  obtain ⟨tb, db⟩ := b
  simp only at hs hd
  subst hd
  congr 1
  refine Array.ext hs fun k h1 h2 => ?_
  have := he k
  simp only [Act.eval, Array.getD_eq_getD_getElem?] at this
  rw [Array.getElem?_eq_getElem h1, Array.getElem?_eq_getElem h2] at this
  simpa using this
theorem puts_form {D : List Nat} {a a0 : Act} (hs : a.tmps.size = a0.tmps.size) (hd : a.defers = a0.defers) (ho : ∀ d, d ∉ D → a.eval (.tmp d) = a0.eval (.tmp d)) (hD : ∀ d ∈ D, d < a0.tmps.size) : a = putsD D (fun d => a.eval (.tmp d)) a0 := by
  obtain ⟨h1, h2⟩ := putsD_size (fun d => a.eval (.tmp d)) D a0
  refine act_ext (hs.trans h1.symm) (hd.trans h2.symm) fun k => ?_
  rw [putsD_eval _ _ _ hD]
  split
  · rfl
  · rename_i h; exact ho k h
end Go.Proofs.YtnbklmmampdbfaaDoor
namespace Go.Proofs.YtnbklmmampdbfaaDoor
open Go Go.RowKit
set_option maxRecDepth 20000

def chk6_ops : List Oper := [
  { dst := some 19, op := .move (.tmp 9), type := 3, pos := "sense.go:25", after := #[], guard := none },
  { dst := some 20, op := .binOp .geq 3 (.tmp 19) (.const (.int .i64 64)) 3, type := 4, pos := "sense.go:25", after := #[{ on := 0, ground := .data }], guard := none },
  { dst := some 21, op := .fieldAddr 70 (.tmp 10) 0, type := 0, pos := "sense.go:25", after := #[], guard := none },
  { dst := some 22, op := .load 3 (.tmp 21), type := 3, pos := "sense.go:25", after := #[{ on := 2, ground := .data }], guard := none },
  { dst := some 23, op := .call { callee := .value (.func 29), args := #[.tmp 20, .const (.int .i64 4), .tmp 22], argTypes := #[4, 26, 3] }, type := 72, pos := "sense.go:26", after := #[{ on := 1, ground := .data }, { on := 3, ground := .data }], guard := none },
  { dst := some 24, op := .move (.tmp 8), type := 4, pos := "sense.go:25", after := #[], guard := none },
  { dst := some 25, op := .move (.tmp 24), type := 4, pos := "sense.go:25", after := #[{ on := 5, ground := .data }, { on := 4, ground := .chain }], guard := none },
  { dst := some 26, op := .fieldAddr 70 (.tmp 10) 1, type := 0, pos := "sense.go:25", after := #[{ on := 6, ground := .guard }], guard := some (6, true) },
  { dst := some 27, op := .load 4 (.tmp 26), type := 4, pos := "sense.go:25", after := #[{ on := 7, ground := .data }, { on := 6, ground := .guard }], guard := some (6, true) },
  { dst := some 28, op := .pick (.tmp 25) (.tmp 27) (.const (.bool false)), type := 4, pos := "sense.go:25", after := #[{ on := 6, ground := .data }, { on := 8, ground := .data }], guard := none },
  { dst := some 29, op := .fieldAddr 70 (.tmp 10) 0, type := 0, pos := "sense.go:25", after := #[], guard := none },
  { dst := some 30, op := .load 3 (.tmp 29), type := 3, pos := "sense.go:25", after := #[{ on := 10, ground := .data }], guard := none },
  { dst := some 31, op := .call { callee := .value (.func 29), args := #[.tmp 28, .const (.int .i64 9), .tmp 30], argTypes := #[4, 26, 3] }, type := 72, pos := "sense.go:27", after := #[{ on := 9, ground := .data }, { on := 11, ground := .data }, { on := 6, ground := .chain }], guard := none },
  { dst := some 32, op := .load 70 (.tmp 10), type := 70, pos := "sense.go:25", after := #[], guard := none },
  { dst := some 33, op := .call { callee := .value (.func 30), args := #[.tmp 32], argTypes := #[70] }, type := 72, pos := "sense.go:28", after := #[{ on := 13, ground := .data }, { on := 12, ground := .chain }], guard := none },
  { dst := some 34, op := .load 70 (.tmp 10), type := 70, pos := "sense.go:25", after := #[], guard := none },
  { dst := some 35, op := .call { callee := .value (.func 31), args := #[.tmp 34], argTypes := #[70] }, type := 72, pos := "sense.go:29", after := #[{ on := 15, ground := .data }, { on := 14, ground := .chain }], guard := none },
  { dst := some 36, op := .buildSlice 95 4 #[(0, .tmp 23), (1, .tmp 31), (2, .tmp 33), (3, .tmp 35)], type := 95, pos := "sense.go:25", after := #[{ on := 4, ground := .data }, { on := 12, ground := .data }, { on := 14, ground := .data }, { on := 16, ground := .data }], guard := none },
  { dst := some 37, op := .call { callee := .value (.func 28), args := #[.tmp 36], argTypes := #[95] }, type := 72, pos := "sense.go:25", after := #[{ on := 17, ground := .data }, { on := 16, ground := .chain }], guard := none },
  { dst := some 11, op := .alloc 72, type := 0, pos := "sense.go:25", after := #[], guard := none },
  { dst := none, op := .store 72 (.tmp 11) (.tmp 37), type := 0, pos := "sense.go:25", after := #[{ on := 19, ground := .data }, { on := 18, ground := .data }, { on := 18, ground := .chain }, { on := 0, ground := .phase }, { on := 1, ground := .phase }, { on := 2, ground := .phase }, { on := 3, ground := .phase }, { on := 4, ground := .phase }, { on := 5, ground := .phase }, { on := 6, ground := .phase }, { on := 7, ground := .phase }, { on := 8, ground := .phase }, { on := 9, ground := .phase }, { on := 10, ground := .phase }, { on := 11, ground := .phase }, { on := 12, ground := .phase }, { on := 13, ground := .phase }, { on := 14, ground := .phase }, { on := 15, ground := .phase }, { on := 16, ground := .phase }, { on := 17, ground := .phase }, { on := 18, ground := .phase }, { on := 19, ground := .phase }], guard := none }]
def chk6_D : List Nat := [19, 20, 21, 22, 23, 24, 25, 26, 27, 28, 29, 30, 31, 32, 33, 34, 35, 36, 37, 11]
/-- What each operation comes to. -/
def chk6_V (k p B : Nat) (had : Bool) (r : Raw) (u : Value) (i : Nat) (v : Value) (w : World) : Prop :=
  match i with
  | 0 => v = .int .i64 (k : Int)
  | 1 => v = .bool (decide (64 ≤ k))
  | 2 => v = .pointer (some ⟨p, 0, none⟩)
  | 3 => v = .int .i64 r.pos
  | 4 => v = .agg (fltV (whenF (decide (64 ≤ k)) 4 r.pos))
  | 5 => v = .bool had
  | 6 => v = .bool had
  | 7 => had = true → v = .pointer (some ⟨p, 1, none⟩)
  | 8 => had = true → v = .bool r.dflt
  | 9 => v = .bool (had && r.dflt)
  | 10 => v = .pointer (some ⟨p, 0, none⟩)
  | 11 => v = .int .i64 r.pos
  | 12 => v = .agg (fltV (whenF (had && r.dflt) 9 r.pos))
  | 13 => v = .agg (rawV r u)
  | 14 => v = .agg (fltV (lineF r))
  | 15 => v = .agg (rawV r u)
  | 16 => v = .agg (fltV (actF r))
  | 17 => GSl FltE fltV w v [whenF (decide (64 ≤ k)) 4 r.pos, whenF (had && r.dflt) 9 r.pos, lineF r, actF r]
  | 18 => v = .agg (fltV (rowF k had r))
  | 19 => ∃ g, v = .pointer (some ⟨g, 0, none⟩) ∧ B ≤ g ∧ w.heap[g]? = some (.cells FltE.zero FltE.elem (0, 0))
  | _ => True
theorem chk6_mono (k p B : Nat) (had : Bool) (r : Raw) (u : Value) : ∀ j v w w', chk6_V k p B had r u j v w → Below w.heap.size w w' → chk6_V k p B had r u j v w' := by
  intro j v w w' h hb
  revert h
  unfold chk6_V
  split <;> intro h <;> first
    | exact h
    | exact GSl.below h hb
    | (obtain ⟨g, h1, h2, h3⟩ := h
       exact ⟨g, h1, h2, (hb.block g (Array.getElem?_eq_some_iff.1 h3).1).trans h3⟩)
theorem rowF_four (k : Nat) (had : Bool) (r : Raw) : firstF [whenF (decide (64 ≤ k)) 4 r.pos, whenF (had && r.dflt) 9 r.pos, lineF r, actF r] = rowF k had r := by
  unfold rowF orF whenF
  simp only [firstF]
  by_cases h : 64 ≤ k <;> simp [h]
theorem run_binOp {o : Oper} {op : BinOp} {t z : Nat} {x y : Operand} (ho : o.op = .binOp op t x y z) (a : Act) (W : World) (vx vy : Value) (hx : a.eval x = vx) (hy : a.eval y = vy) (v : Value) (hg : (eqGuard op t x y vx vy).run Tryd.prog W = .ok () W) (h : (binOp op t vx vy).run Tryd.prog W = .ok v W) : (execOp a.eval o).run Tryd.prog W = .ok (.value v) W := by
  unfold execOp
  simp only [ho, Sem.run_bind, hx, hy, hg, h, Result.andThen_ok, Sem.run_pure]
theorem load_raw (W : World) (p : Nat) (r : Raw) (u : Value) (h : W.heap[p]? = some (.cells (rawV r u) 70 (0, 0))) : (Instr.loadAt 70 (.pointer (some ⟨p, 0, none⟩))).run Tryd.prog W = .ok (.agg (rawV r u)) W := by
  simp only [Instr.loadAt, Instr.sureAddr, Sem.run_bind, Sem.run_pure, Result.andThen_ok]
  exact RawOk.load W p 0 _ _ _ (rawV r u) rfl h (own_cells _ _)
theorem load_int (W : World) (ad : Addr) (n : Int) (h : W.cell? ad = some (.int .i64 n)) : (Instr.loadAt 3 (.pointer (some ad))).run Tryd.prog W = .ok (.int .i64 n) W := by
  simp [go_sem, h]
theorem load_bool (W : World) (ad : Addr) (b : Bool) (h : W.cell? ad = some (.bool b)) : (Instr.loadAt 4 (.pointer (some ad))).run Tryd.prog W = .ok (.bool b) W := by
  simp [go_sem, h]

theorem yielded6 (a : Act) (b : Bool) (h : a.eval (.tmp 25) = .bool b) (hs : 25 < a.tmps.size) : yielded chk6_ops.toArray a.tmps 6 = some b := by
  have h' : a.tmps[25]? = some (.bool b) := by
    simp only [Act.eval, Array.getD_eq_getD_getElem?, Array.getElem?_eq_getElem hs, Option.getD_some] at h
    rw [Array.getElem?_eq_getElem hs, h]
  unfold yielded
  have e : ((chk6_ops.toArray[6]?).bind (·.dst)) = some 25 := rfl
  rw [e]
  simp only [Option.bind_some, h']
set_option maxHeartbeats 4000000 in
theorem chk6_region {id : Nat} {Q : Exit → Act → World → Prop} {a0 : Act} {w0 : World} (hs : 60 ≤ a0.tmps.size) (k p : Nat) (had : Bool) (r : Raw) (u : Value) (h8 : a0.eval (.tmp 8) = .bool had) (h9 : a0.eval (.tmp 9) = .int .i64 (k : Int)) (h10 : a0.eval (.tmp 10) = .pointer (some ⟨p, 0, none⟩))
    (hp : w0.heap[p]? = some (.cells (rawV r u) 70 (0, 0))) (hu : ClasAt w0 r u)
    (hK : ∀ y w' g, y 11 = .pointer (some ⟨g, 0, none⟩) → w0.heap.size ≤ g → Below w0.heap.size w0 w' → w'.heap[g]? = some (.cells (fltV (rowF k had r)) 72 (0, 0)) → Q .normal (putsD chk6_D y a0) w') : (Code.region id chk6_ops.toArray true).wp Tryd.prog Q a0 w0 := by
  have hDs : ∀ d ∈ chk6_D, d < a0.tmps.size := fun d hd => by
    have : d < 60 := by
      revert hd; unfold chk6_D; intro hd
      simp only [List.mem_cons, List.not_mem_nil, or_false] at hd
      omega
    omega
  have hul : ∃ o n m, u = .slice o n m := by obtain ⟨o, cap, rfl, _⟩ := NSl.slice hu; exact ⟨_, _, _, rfl⟩
  refine region_inv 20 (chk6_V k p w0.heap.size had r u) chk6_D (by kernel_rfl) rfl (by kernel_rfl) (by decide) hDs (by kernel_rfl) (by kernel_rfl) (chk6_mono k p w0.heap.size had r u) ?_ ?_
  · intro i o ho hi a w h
    have B : Below w0.heap.size w0 w := (Below.refl _ _).drew.trans h.below
    have e8 : a.eval (.tmp 8) = .bool had := (h.other 8 (by decide)).trans h8
    have e9 : a.eval (.tmp 9) = .int .i64 (k : Int) := (h.other 9 (by decide)).trans h9
    have e10 : a.eval (.tmp 10) = .pointer (some ⟨p, 0, none⟩) := (h.other 10 (by decide)).trans h10
    have bp : w.heap[p]? = some (.cells (rawV r u) 70 (0, 0)) := (B.block p (Array.getElem?_eq_some_iff.1 hp).1).trans hp
    have c := raw_f bp
    have fa : ∀ j, j < 2 → (Instr.fieldAt 70 (.pointer (some ⟨p, 0, none⟩)) j).run Tryd.prog w = .ok (.pointer (some ⟨p, j, none⟩)) w := fun j hj => by
      rcases (show j = 0 ∨ j = 1 by omega) with rfl | rfl <;> simp [go_sem]
    have cw : ∀ vs W, (callFunc 29 vs).run Tryd.prog W = .ok (.enter 29 vs) W := fun vs W => by have hf := Tryd.func29; simp [go_sem]
    have cr : ∀ vs W, (callFunc 30 vs).run Tryd.prog W = .ok (.enter 30 vs) W := fun vs W => by have hf := Tryd.func30; simp [go_sem]
    have ca : ∀ vs W, (callFunc 31 vs).run Tryd.prog W = .ok (.enter 31 vs) W := fun vs W => by have hf := Tryd.func31; simp [go_sem]
    have cf : ∀ vs W, (callFunc 28 vs).run Tryd.prog W = .ok (.enter 28 vs) W := fun vs W => by have hf := Tryd.func28; simp [go_sem]
    rcases (show i = 0 ∨ i = 1 ∨ i = 2 ∨ i = 3 ∨ i = 4 ∨ i = 5 ∨ i = 6 ∨ i = 7 ∨ i = 8 ∨ i = 9 ∨ i = 10 ∨ i = 11 ∨ i = 12 ∨ i = 13 ∨ i = 14 ∨ i = 15 ∨ i = 16 ∨ i = 17 ∨ i = 18 ∨ i = 19 by omega) with rfl | rfl | rfl | rfl | rfl | rfl | rfl | rfl | rfl | rfl | rfl | rfl | rfl | rfl | rfl | rfl | rfl | rfl | rfl | rfl
    · obtain rfl := Option.some.inj ho
      exact iv_val rfl rfl _ (run_moveOp rfl _ _ _ e9) rfl
    · obtain rfl := Option.some.inj ho
      have f0 : a.eval (.tmp 19) = .int .i64 (k : Int) := h.has ⟨0, .data⟩ (by simp) rfl _ 19 rfl rfl
      refine iv_val rfl rfl (.bool (decide (64 ≤ k))) (run_binOp rfl _ _ _ _ f0 rfl _ (by simp [go_sem]) ?_) rfl
      simp [go_sem]
      omega
    · obtain rfl := Option.some.inj ho
      exact iv_val rfl rfl _ (run_fieldOp rfl _ _ _ ((congrArg (fun y => (Instr.fieldAt 70 y 0).run Tryd.prog w) e10).trans (fa 0 (by decide)))) rfl
    · obtain rfl := Option.some.inj ho
      have f2 : a.eval (.tmp 21) = .pointer (some ⟨p, 0, none⟩) := h.has ⟨2, .data⟩ (by simp) rfl _ 21 rfl rfl
      exact iv_val rfl rfl _ (run_loadOp rfl _ _ _ _ f2 (load_int _ _ _ c.1)) rfl
    · obtain rfl := Option.some.inj ho
      have f1 : a.eval (.tmp 20) = .bool (decide (64 ≤ k)) := h.has ⟨1, .data⟩ (by simp) rfl _ 20 rfl rfl
      have f3 : a.eval (.tmp 22) = .int .i64 r.pos := h.has ⟨3, .data⟩ (by simp) rfl _ 22 rfl rfl
      exact iv_call rfl rfl 29 #[.bool (decide (64 ≤ k)), .int .i64 4, .int .i64 r.pos] (run_callOps rfl cw _ _ _ (by simp only [List.map_toArray, List.map_cons, List.map_nil, f1, f3]; rfl)) ((whenF_any _ _ _ w).mono fun e w' h => ⟨_, h.1, h.2, rfl⟩)
    · obtain rfl := Option.some.inj ho
      exact iv_val rfl rfl _ (run_moveOp rfl _ _ _ e8) rfl
    · obtain rfl := Option.some.inj ho
      have f5 : a.eval (.tmp 24) = .bool had := h.has ⟨5, .data⟩ (by simp) rfl _ 24 rfl rfl
      exact iv_val rfl rfl _ (run_moveOp rfl _ _ _ f5) rfl
    · obtain rfl := Option.some.inj ho
      have f6 : a.eval (.tmp 25) = .bool had := h.has ⟨6, .guard⟩ (by simp) rfl _ 25 rfl rfl
      have hy := yielded6 a had f6 (by rw [h.size]; omega)
      cases had with
      | true => exact iv_val rfl (by unfold Region.wanted; simp only [hy]; rfl) _ (run_fieldOp rfl _ _ _ ((congrArg (fun y => (Instr.fieldAt 70 y 1).run Tryd.prog w) e10).trans (fa 1 (by decide)))) (fun _ => rfl)
      | false => exact iv_not rfl (by unfold Region.wanted; simp only [hy]; rfl) (fun hh => by cases hh)
    · obtain rfl := Option.some.inj ho
      have f6 : a.eval (.tmp 25) = .bool had := h.has ⟨6, .guard⟩ (by simp) rfl _ 25 rfl rfl
      have f7 : had = true → a.eval (.tmp 26) = .pointer (some ⟨p, 1, none⟩) := h.has ⟨7, .data⟩ (by simp) rfl _ 26 rfl rfl
      have hy := yielded6 a had f6 (by rw [h.size]; omega)
      cases had with
      | true => exact iv_val rfl (by unfold Region.wanted; simp only [hy]; rfl) _ (run_loadOp rfl _ _ _ _ (f7 rfl) (load_bool _ _ _ c.2.1)) (fun _ => rfl)
      | false => exact iv_not rfl (by unfold Region.wanted; simp only [hy]; rfl) (fun hh => by cases hh)
    · obtain rfl := Option.some.inj ho
      have f6 : a.eval (.tmp 25) = .bool had := h.has ⟨6, .data⟩ (by simp) rfl _ 25 rfl rfl
      have f8 : had = true → a.eval (.tmp 27) = .bool r.dflt := h.has ⟨8, .data⟩ (by simp) rfl _ 27 rfl rfl
      refine iv_val rfl rfl (.bool (had && r.dflt)) (run_pickOp rfl _ _ had f6 _ ?_) rfl
      cases had with
      | true => exact f8 rfl
      | false => rfl
    · obtain rfl := Option.some.inj ho
      exact iv_val rfl rfl _ (run_fieldOp rfl _ _ _ ((congrArg (fun y => (Instr.fieldAt 70 y 0).run Tryd.prog w) e10).trans (fa 0 (by decide)))) rfl
    · obtain rfl := Option.some.inj ho
      have f2 : a.eval (.tmp 29) = .pointer (some ⟨p, 0, none⟩) := h.has ⟨10, .data⟩ (by simp) rfl _ 29 rfl rfl
      exact iv_val rfl rfl _ (run_loadOp rfl _ _ _ _ f2 (load_int _ _ _ c.1)) rfl
    · obtain rfl := Option.some.inj ho
      have f1 : a.eval (.tmp 28) = .bool (had && r.dflt) := h.has ⟨9, .data⟩ (by simp) rfl _ 28 rfl rfl
      have f3 : a.eval (.tmp 30) = .int .i64 r.pos := h.has ⟨11, .data⟩ (by simp) rfl _ 30 rfl rfl
      exact iv_call rfl rfl 29 #[.bool (had && r.dflt), .int .i64 9, .int .i64 r.pos] (run_callOps rfl cw _ _ _ (by simp only [List.map_toArray, List.map_cons, List.map_nil, f1, f3]; rfl)) ((whenF_any _ _ _ w).mono fun e w' h => ⟨_, h.1, h.2, rfl⟩)
    · obtain rfl := Option.some.inj ho
      exact iv_val rfl rfl _ (run_loadOp rfl _ _ _ _ e10 (load_raw _ _ _ _ bp)) rfl
    · obtain rfl := Option.some.inj ho
      have f1 : a.eval (.tmp 32) = .agg (rawV r u) := h.has ⟨13, .data⟩ (by simp) rfl _ 32 rfl rfl
      exact iv_call rfl rfl 30 #[.agg (rawV r u)] (run_callOps rfl cr _ _ _ (by simp [f1])) ((ruleF_any r u w (clas_below _ _ _ _ B hu)).mono fun e w' h => ⟨_, h.1, h.2, rfl⟩)
    · obtain rfl := Option.some.inj ho
      exact iv_val rfl rfl _ (run_loadOp rfl _ _ _ _ e10 (load_raw _ _ _ _ bp)) rfl
    · obtain rfl := Option.some.inj ho
      have f1 : a.eval (.tmp 34) = .agg (rawV r u) := h.has ⟨15, .data⟩ (by simp) rfl _ 34 rfl rfl
      exact iv_call rfl rfl 31 #[.agg (rawV r u)] (run_callOps rfl ca _ _ _ (by simp [f1])) ((actionF_any r u hul w).mono fun e w' h => ⟨_, h.1, h.2, rfl⟩)
    · obtain rfl := Option.some.inj ho
      have f1 : a.eval (.tmp 23) = .agg (fltV (whenF (decide (64 ≤ k)) 4 r.pos)) := h.has ⟨4, .data⟩ (by simp) rfl _ 23 rfl rfl
      have f2 : a.eval (.tmp 31) = .agg (fltV (whenF (had && r.dflt) 9 r.pos)) := h.has ⟨12, .data⟩ (by simp) rfl _ 31 rfl rfl
      have f3 : a.eval (.tmp 33) = .agg (fltV (lineF r)) := h.has ⟨14, .data⟩ (by simp) rfl _ 33 rfl rfl
      have f4 : a.eval (.tmp 35) = .agg (fltV (actF r)) := h.has ⟨16, .data⟩ (by simp) rfl _ 35 rfl rfl
      refine iv_list rfl ?_
      refine wl_build4F rfl _ _ _ _ rfl _ _ _ _ f1 f2 f3 f4 ?_
      exact ⟨_, rfl, (Below.refl _ _).alloc (Nat.le_refl _) _, fun _ _ => gsl_row (E := FltE) (C := [whenF (decide (64 ≤ k)) 4 r.pos, whenF (had && r.dflt) 9 r.pos, lineF r, actF r]) (fun _ => rfl) (heap_new _ _ _ rfl) (by show 4 ≤ _; decide)⟩
    · obtain rfl := Option.some.inj ho
      have f1 : GSl FltE fltV w (a.eval (.tmp 36)) [whenF (decide (64 ≤ k)) 4 r.pos, whenF (had && r.dflt) 9 r.pos, lineF r, actF r] := h.has ⟨17, .data⟩ (by simp) rfl _ 36 rfl rfl
      refine iv_call rfl rfl 28 #[a.eval (.tmp 36)] (run_callOps rfl cf _ _ _ (by simp)) ((first7_any _ _ w f1).mono fun e w' h => ⟨_, h.1, h.2, ?_⟩)
      show _ = _
      rw [rowF_four]
    · obtain rfl := Option.some.inj ho
      exact iv_alloc FltOk rfl rfl rfl ⟨_, rfl, B.size, heap_new _ _ _ rfl⟩
  · intro a w hb hsz hdf hot hh
    obtain ⟨g, f1, hg, hz⟩ : ∃ g, a.eval (.tmp 11) = .pointer (some ⟨g, 0, none⟩) ∧ w0.heap.size ≤ g ∧ w.heap[g]? = some (.cells FltE.zero FltE.elem (0, 0)) := hh 19 _ 11 (by decide) rfl rfl
    have f2 : a.eval (.tmp 37) = .agg (fltV (rowF k had r)) := hh 18 _ 37 (by decide) rfl rfl
    refine wpOp_of_list rfl ?_
    refine wl_storeE (E := FltE) FltOk rfl _ _ rfl g (fltV (rowF k had r)) (flt_fits _) f1 f2 _ hz rfl _ rfl ?_
    show Q .normal a _
    rw [puts_form hsz hdf hot hDs]
    exact hK _ _ g f1 hg (below_setRow hb hg _) (setRow_heap _ _ _ _ _ _ hz)
end Go.Proofs.YtnbklmmampdbfaaDoor
namespace Go.Proofs.YtnbklmmampdbfaaDoor
open Go Go.RowKit
set_option maxRecDepth 20000

/-- An entry as it lies in memory. -/
def entV (x : Ent) : Array Value := #[.bool x.dflt, .int .i64 x.prio, .int .u32 x.src, .int .i64 x.srcBits, .int .u32 x.dst, .int .i64 x.dstBits, .int .i64 x.slow, .int .i64 x.shigh, .int .i64 x.dlow, .int .i64 x.dhigh, .int .i64 x.proto, .int .i64 x.action]
def EntE : El := ⟨47, 25, 12, 96, #[.bool false, .int .i64 0, .int .u32 0, .int .i64 0, .int .u32 0, .int .i64 0, .int .i64 0, .int .i64 0, .int .i64 0, .int .i64 0, .int .i64 0, .int .i64 0]⟩
theorem EntOk : EntE.Ok := ⟨Tryd.underlying25, ⟨_, Tryd.underlying47, rfl⟩, by kernel_rfl, rfl, by decide, by decide, by decide⟩
theorem ent_fits (x : Ent) : Fits EntE (entV x) := ⟨rfl, by simp [entV, Value.oneCell']⟩

def mean3_ops : List Oper := [
  { dst := some 11, op := .fieldAddr 70 (.tmp 1) 2, type := 0, pos := "sense.go:57", after := #[], guard := none },
  { dst := some 12, op := .fieldAddr 67 (.tmp 11) 0, type := 0, pos := "sense.go:57", after := #[{ on := 0, ground := .data }], guard := none },
  { dst := some 13, op := .load 3 (.tmp 12), type := 3, pos := "sense.go:57", after := #[{ on := 1, ground := .data }], guard := none },
  { dst := some 14, op := .load 70 (.tmp 1), type := 70, pos := "sense.go:57", after := #[], guard := none },
  { dst := some 15, op := .call { callee := .value (.func 48), args := #[.tmp 14], argTypes := #[70] }, type := 3, pos := "sense.go:57", after := #[{ on := 3, ground := .data }], guard := none },
  { dst := some 16, op := .build 47 #[(1, .tmp 13), (7, .const (.int .i64 65535)), (9, .const (.int .i64 65535)), (10, .const (.int .i64 (-1))), (11, .tmp 15)], type := 47, pos := "sense.go:57", after := #[{ on := 2, ground := .data }, { on := 4, ground := .data }], guard := none },
  { dst := some 3, op := .alloc 47, type := 0, pos := "sense.go:57", after := #[], guard := none },
  { dst := none, op := .store 47 (.tmp 3) (.tmp 16), type := 0, pos := "sense.go:57", after := #[{ on := 6, ground := .data }, { on := 5, ground := .data }, { on := 4, ground := .chain }, { on := 0, ground := .phase }, { on := 1, ground := .phase }, { on := 2, ground := .phase }, { on := 3, ground := .phase }, { on := 4, ground := .phase }, { on := 5, ground := .phase }, { on := 6, ground := .phase }], guard := none }]
def mean3_D : List Nat := [11, 12, 13, 14, 15, 16, 3]
def mean3_V (p B : Nat) (r : Raw) (u : Value) (i : Nat) (v : Value) (w : World) : Prop :=
  match i with
  | 0 => v = .pointer (some ⟨p, 2, none⟩)
  | 1 => v = .pointer (some ⟨p, 2, none⟩)
  | 2 => v = .int .i64 r.prio.n
  | 3 => v = .agg (rawV r u)
  | 4 => v = .int .i64 (actOf r)
  | 5 => v = .agg (entV (ent0 r))
  | 6 => ∃ g, v = .pointer (some ⟨g, 0, none⟩) ∧ B ≤ g ∧ w.heap[g]? = some (.cells EntE.zero EntE.elem (0, 0))
  | _ => True
theorem mean3_mono (p B : Nat) (r : Raw) (u : Value) : ∀ j v w w', mean3_V p B r u j v w → Below w.heap.size w w' → mean3_V p B r u j v w' := by
  intro j v w w' h hb
  revert h
  unfold mean3_V
  split <;> intro h <;> first
    | exact h
    | (obtain ⟨g, h1, h2, h3⟩ := h
       exact ⟨g, h1, h2, (hb.block g (Array.getElem?_eq_some_iff.1 h3).1).trans h3⟩)
theorem run_buildOp {o : Oper} {t : Nat} {ps : Array (Nat × Operand)} (ho : o.op = .build t ps) (a : Act) (W : World) (qs : Array (Nat × Value)) (hq : (ps.map fun (i, x) => (i, a.eval x)) = qs) (v : Value) (h : (Instr.build t qs).run Tryd.prog W = .ok v W) : (execOp a.eval o).run Tryd.prog W = .ok (.value v) W := by
  unfold execOp
  simp only [ho, Sem.run_bind, hq, h, Result.andThen_ok, Sem.run_pure]

set_option maxHeartbeats 4000000 in
theorem mean3_region {id : Nat} {Q : Exit → Act → World → Prop} {a0 : Act} {w0 : World} (hs : 72 ≤ a0.tmps.size) (p : Nat) (r : Raw) (u : Value) (h1 : a0.eval (.tmp 1) = .pointer (some ⟨p, 0, none⟩))
    (hp : w0.heap[p]? = some (.cells (rawV r u) 70 (0, 0))) (hul : ∃ o n m, u = .slice o n m)
    (hK : ∀ y w' g, y 3 = .pointer (some ⟨g, 0, none⟩) → w0.heap.size ≤ g → Below w0.heap.size w0 w' → w'.heap[g]? = some (.cells (entV (ent0 r)) 47 (0, 0)) → Q .normal (putsD mean3_D y a0) w') : (Code.region id mean3_ops.toArray true).wp Tryd.prog Q a0 w0 := by
  have hDs : ∀ d ∈ mean3_D, d < a0.tmps.size := fun d hd => by
    have : d < 72 := by
      revert hd; unfold mean3_D; intro hd
      simp only [List.mem_cons, List.not_mem_nil, or_false] at hd
      omega
    omega
  refine region_inv 7 (mean3_V p w0.heap.size r u) mean3_D (by kernel_rfl) rfl (by kernel_rfl) (by decide) hDs (by kernel_rfl) (by kernel_rfl) (mean3_mono p w0.heap.size r u) ?_ ?_
  · intro i o ho hi a w h
    have B : Below w0.heap.size w0 w := (Below.refl _ _).drew.trans h.below
    have e1 : a.eval (.tmp 1) = .pointer (some ⟨p, 0, none⟩) := (h.other 1 (by decide)).trans h1
    have bp : w.heap[p]? = some (.cells (rawV r u) 70 (0, 0)) := (B.block p (Array.getElem?_eq_some_iff.1 hp).1).trans hp
    have c := raw_f bp
    have ca : ∀ vs W, (callFunc 48 vs).run Tryd.prog W = .ok (.enter 48 vs) W := fun vs W => by have hf := Tryd.func48; simp [go_sem]
    rcases (show i = 0 ∨ i = 1 ∨ i = 2 ∨ i = 3 ∨ i = 4 ∨ i = 5 ∨ i = 6 by omega) with rfl | rfl | rfl | rfl | rfl | rfl | rfl
    · obtain rfl := Option.some.inj ho
      exact iv_val rfl rfl _ (run_fieldOp rfl _ _ _ ((congrArg (fun y => (Instr.fieldAt 70 y 2).run Tryd.prog w) e1).trans (show _ = Result.ok (.pointer (some ⟨p, 2, none⟩)) w by simp [go_sem]))) rfl
    · obtain rfl := Option.some.inj ho
      have f0 : a.eval (.tmp 11) = .pointer (some ⟨p, 2, none⟩) := h.has ⟨0, .data⟩ (by simp) rfl _ 11 rfl rfl
      exact iv_val rfl rfl _ (run_fieldOp rfl _ _ _ ((congrArg (fun y => (Instr.fieldAt 67 y 0).run Tryd.prog w) f0).trans (show _ = Result.ok (.pointer (some ⟨p, 2, none⟩)) w by simp [go_sem]))) rfl
    · obtain rfl := Option.some.inj ho
      have f1 : a.eval (.tmp 12) = .pointer (some ⟨p, 2, none⟩) := h.has ⟨1, .data⟩ (by simp) rfl _ 12 rfl rfl
      exact iv_val rfl rfl _ (run_loadOp rfl _ _ _ _ f1 (load_int _ _ _ c.2.2.1)) rfl
    · obtain rfl := Option.some.inj ho
      exact iv_val rfl rfl _ (run_loadOp rfl _ _ _ _ e1 (load_raw _ _ _ _ bp)) rfl
    · obtain rfl := Option.some.inj ho
      have f1 : a.eval (.tmp 14) = .agg (rawV r u) := h.has ⟨3, .data⟩ (by simp) rfl _ 14 rfl rfl
      exact iv_call rfl rfl 48 #[.agg (rawV r u)] (run_callOps rfl ca _ _ _ (by simp [f1])) ((action7_any r u hul w).mono fun e w' h => ⟨_, h.1, h.2, rfl⟩)
    · obtain rfl := Option.some.inj ho
      have f1 : a.eval (.tmp 13) = .int .i64 r.prio.n := h.has ⟨2, .data⟩ (by simp) rfl _ 13 rfl rfl
      have f2 : a.eval (.tmp 15) = .int .i64 (actOf r) := h.has ⟨4, .data⟩ (by simp) rfl _ 15 rfl rfl
      refine iv_val rfl rfl (.agg (entV (ent0 r))) (run_buildOp rfl _ _ #[(1, .int .i64 r.prio.n), (7, .int .i64 65535), (9, .int .i64 65535), (10, .int .i64 (-1)), (11, .int .i64 (actOf r))] (by simp only [List.map_toArray, List.map_cons, List.map_nil, f1, f2]; rfl) _ ?_) rfl
      kernel_rfl
    · obtain rfl := Option.some.inj ho
      exact iv_alloc EntOk rfl rfl rfl ⟨_, rfl, B.size, heap_new _ _ _ rfl⟩
  · intro a w hb hsz hdf hot hh
    obtain ⟨g, f1, hg, hz⟩ : ∃ g, a.eval (.tmp 3) = .pointer (some ⟨g, 0, none⟩) ∧ w0.heap.size ≤ g ∧ w.heap[g]? = some (.cells EntE.zero EntE.elem (0, 0)) := hh 6 _ 3 (by decide) rfl rfl
    have f2 : a.eval (.tmp 16) = .agg (entV (ent0 r)) := hh 5 _ 16 (by decide) rfl rfl
    refine wpOp_of_list rfl ?_
    refine wl_storeE (E := EntE) EntOk rfl _ _ rfl g (entV (ent0 r)) (ent_fits _) f1 f2 _ hz rfl _ rfl ?_
    show Q .normal a _
    rw [puts_form hsz hdf hot hDs]
    exact hK _ _ g f1 hg (below_setRow hb hg _) (setRow_heap _ _ _ _ _ _ hz)
end Go.Proofs.YtnbklmmampdbfaaDoor
namespace Go.Proofs.YtnbklmmampdbfaaDoor
open Go Go.RowKit
set_option maxRecDepth 20000

def placesT : List Int := [0, 32, 32, 32, 64, 16, 80, 16, 96, 8]
def firstOf (f : Int) : Int := placesT.getD (2 * f).toNat 0
def widthOf (f : Int) : Int := placesT.getD (2 * f + 1).toNat 0

/-- The table of the fields lies in memory as the program's text lays it. -/
def Places (w : World) : Prop := ∀ k, k < 10 → w.cell? ⟨0, k, none⟩ = some (.int .i64 (placesT.getD k 0))
theorem Places.later {w w' : World} (h : Places w) {B : Nat} (hB : 0 < B) (hb : Below B w w') : Places w' := fun k hk => by
  rw [hb.cell (p := ⟨0, k, none⟩) hB]; exact h k hk
theorem Places.pos {w : World} (h : Places w) : 0 < w.heap.size := World.block_lt_of_cell? w ⟨0, 0, none⟩ (h 0 (by decide))

set_option maxHeartbeats 400000 in
theorem place_no (f : Int) (w : World) (hf : f < 0 ∨ 5 ≤ f) :
    Calls Tryd.prog 91 #[.int .i64 f] w fun e w' => e = .returned (.tuple #[.int .i64 0, .int .i64 0, .int .i64 1]) ∧ w' = w := by
  by_cases h : f < 0
  · go_enter Tryd.func91, Tryd.ntmps91
    go_wp2
    go_ret3
    exact ⟨rfl, rfl⟩
  · have h5 : 5 ≤ f := by omega
    go_enter Tryd.func91, Tryd.ntmps91
    go_wp2
    go_ret3
    exact ⟨rfl, rfl⟩

set_option maxHeartbeats 400000 in
theorem place_in (f : Int) (w : World) (h0 : 0 ≤ f) (h1 : f < 5) (hP : Places w) :
    Calls Tryd.prog 91 #[.int .i64 f] w fun e w' => e = .returned (.tuple #[.int .i64 (firstOf f), .int .i64 (widthOf f), .int .i64 0]) ∧ Below w.heap.size w w' := by
  have c0 := hP 0 (by decide)
  have c1 := hP 1 (by decide)
  have c2 := hP 2 (by decide)
  have c3 := hP 3 (by decide)
  have c4 := hP 4 (by decide)
  have c5 := hP 5 (by decide)
  have c6 := hP 6 (by decide)
  have c7 := hP 7 (by decide)
  have c8 := hP 8 (by decide)
  have c9 := hP 9 (by decide)
  clear hP
  rcases (show f = 0 ∨ f = 1 ∨ f = 2 ∨ f = 3 ∨ f = 4 by omega) with h | h | h | h | h
  all_goals
    subst h
    go_enter Tryd.func91, Tryd.ntmps91
    go_wp2
    go_quiet (fail)
    go_wp2
    go_ret3
    exact ⟨rfl, below_drewN (Below.refl _ _) _⟩
end Go.Proofs.YtnbklmmampdbfaaDoor
namespace Go.Proofs.YtnbklmmampdbfaaDoor
open Go Go.RowKit
set_option maxRecDepth 20000

theorem first_in (f : Int) (w : World) (h0 : 0 ≤ f) (h1 : f < 5) : Calls Tryd.prog 95 #[.int .i64 f] w fun e w' => e = .returned (.int .i64 (firstOf f)) ∧ w' = w := by
  rcases (show f = 0 ∨ f = 1 ∨ f = 2 ∨ f = 3 ∨ f = 4 by omega) with h | h | h | h | h
  all_goals
    subst h
    go_enter Tryd.func95, Tryd.ntmps95
    go_wp2
    go_ret
    exact ⟨rfl, rfl⟩
theorem first_no (f : Int) (w : World) (hf : f < 0 ∨ 5 ≤ f) : Calls Tryd.prog 95 #[.int .i64 f] w fun e w' => e = .returned (.int .i64 (-1)) ∧ w' = w := by
  have e0 : (f == 0) = false := by simp; omega
  have e1 : (f == 1) = false := by simp; omega
  have e2 : (f == 2) = false := by simp; omega
  have e3 : (f == 3) = false := by simp; omega
  have e4 : (f == 4) = false := by simp; omega
  go_enter Tryd.func95, Tryd.ntmps95
  go_wp2
  go_ret
  exact ⟨rfl, rfl⟩
theorem width_in (f : Int) (w : World) (h0 : 0 ≤ f) (h1 : f < 5) : Calls Tryd.prog 96 #[.int .i64 f] w fun e w' => e = .returned (.int .i64 (widthOf f)) ∧ w' = w := by
  rcases (show f = 0 ∨ f = 1 ∨ f = 2 ∨ f = 3 ∨ f = 4 by omega) with h | h | h | h | h
  all_goals
    subst h
    go_enter Tryd.func96, Tryd.ntmps96
    go_wp2
    go_ret
    exact ⟨rfl, rfl⟩
end Go.Proofs.YtnbklmmampdbfaaDoor
/-
  The contract of Go's library that this seat's proofs use, laid at its program by the kit's own tool.
-/
namespace Go.Proofs
open Go.Shelf
set_option maxRecDepth 20000
def Tryd.lays128_ren : Go.Shelf.Ren := ⟨fun | 128 => 102 | n => n, fun | 51 => 45 | 3 => 3 | 4 => 4 | 46 => 130 | 5 => 5 | 9 => 9 | n => n, fun | n => n⟩
theorem Tryd.lays128 : Go.Proofs.Lays.n128 Tryd.prog Tryd.lays128_ren := {
  mixed := by kernel_rfl
  f128 := Tryd.func102.trans (congrArg some (by kernel_rfl))
  t3 := Tryd.underlying3
  a3 := Tryd.isAgg3
  z3 := Tryd.sizeOf3
  v3 := Tryd.zeroValue3
  t4 := Tryd.underlying4
  a4 := Tryd.isAgg4
  z4 := Tryd.sizeOf4
  v4 := Tryd.zeroValue4
  t5 := Tryd.underlying5
  a5 := Tryd.isAgg5
  z5 := Tryd.sizeOf5
  v5 := Tryd.zeroValue5
  t9 := Tryd.underlying9
  a9 := Tryd.isAgg9
  z9 := Tryd.sizeOf9
  v9 := Tryd.zeroValue9
  t46 := Tryd.underlying130
  a46 := Tryd.isAgg130
  z46 := Tryd.sizeOf130
  v46 := Tryd.zeroValue130
  t51 := Tryd.underlying45
  a51 := Tryd.isAgg45
  z51 := Tryd.sizeOf45
  v51 := Tryd.zeroValue45 }
theorem Tryd.bits_Len32 (x : Int) (w : World) (h0 : 0 ≤ x) (h1 : x ≤ 4294967295) :
    Calls Tryd.prog 102 #[.int .u32 x] w fun e w' => e = .returned (.int .i64 (Lib.bitLen x.toNat)) ∧ w' = w := Any.bits_Len32 Tryd.lays128 x w h0 h1
end Go.Proofs
namespace Go.Proofs.YtnbklmmampdbfaaDoor
open Go Go.RowKit
set_option maxRecDepth 20000

theorem bitLen_le (k : Nat) : ∀ x : Nat, x < 2 ^ 64 → (Lib.bitLen x ≤ k ↔ x < 2 ^ k) := by
  induction k with
  | zero =>
    intro x hx
    by_cases h : x = 0
    · subst h; simp [show Lib.bitLen 0 = 0 from rfl]
    · rw [Lib.bitLen_half x h hx]; simp; omega
  | succ k ih =>
    intro x hx
    by_cases h : x = 0
    · subst h; simp [show Lib.bitLen 0 = 0 from rfl]
      exact Nat.pow_pos (by decide)
    · rw [Lib.bitLen_half x h hx, Nat.pow_succ]
      have := ih (x / 2) (by omega)
      omega

abbrev Z13 : List Int := [0, 0, 0, 0, 0, 0, 0, 0, 0, 0, 0, 0, 0]

theorem ret26e {fn : Func} {R : Ending → World → Prop} {a : Act} {w : World} {p u : Tmp} (hr : fn.results = #[.cell p 23, .tmp u]) (hd : a.defers = []) (g : Nat) (hp : a.tmps.getD p undef = .pointer (some ⟨g, 0, none⟩)) (L : List Int) (hL : L.length = 13)
    (hg : w.heap[g]? = some (.cells (hv L) 23 (0, 0))) (v : Value) (hu : a.tmps.getD u undef = v) (h : R (.returned (.tuple #[.agg (hv L), v])) w) : bodyPost Tryd.prog fn R .ret a w := by
  refine bodyPost_ret (v := .tuple #[.agg (hv L), v]) ?_ hd h
  rw [results_cell_tmp hr, hp, hu]
  simp [asAddr, run_loadVar_row w g 23 23 (hv L) (0, 0) _ hg Tryd.underlying23 rfl (size26 L hL)]


set_option maxHeartbeats 400000 in
theorem with_no (L : List Int) (_hL : Byt L) (f v : Int) (w : World) (hf : f < 0 ∨ 5 ≤ f) :
    Calls Tryd.prog 92 #[.agg (hv L), .int .i64 f, .int .u32 v] w fun e w' => e = .returned (.tuple #[.agg (hv Z13), .int .i64 1]) ∧ Below w.heap.size w w' := by
  go_enter Tryd.func92, Tryd.ntmps92
  go_wp2_with (first
    | (go_at_call 91; refine (place_no _ _ hf).mono ?_; rintro e w' ⟨rfl, rfl⟩)
    | (refine wl_store26 rfl _ _ rfl (w.heap.size + 1) Z13 rfl rfl _ (heap_new _ _ _ (by simp)) rfl rfl _ (setRow_new _ _ _ _ _ (by simp)) ?_))
  refine ret26e (p := 6) (u := 7) rfl rfl (w.heap.size + 1) rfl Z13 rfl (heap_new _ _ _ (by simp)) _ rfl ⟨rfl, ?_⟩
  exact ((Below.refl _ _).alloc (Nat.le_refl _) _).alloc (by simp) _


set_option maxHeartbeats 1000000 in
theorem with_core (L : List Int) (hL : Byt L) (f : Int) (at0 size n : Nat) (w : World) (hs : at0 + size ≤ 13) (hs4 : size ≤ 4) (hn : n ≤ 4294967295) (hP : Places w)
    (hpl : ∀ W, Places W → Calls Tryd.prog 91 #[.int .i64 f] W fun e w' => e = .returned (.tuple #[.int .i64 (8 * (at0 : Int)), .int .i64 (8 * (size : Int)), .int .i64 0]) ∧ Below W.heap.size W w') (hb : (Lib.bitLen n : Int) ≤ 8 * (size : Int)) :
    Calls Tryd.prog 92 #[.agg (hv L), .int .i64 f, .int .u32 n] w fun e w' => e = .returned (.tuple #[.agg (hv (putN L at0 size n size)), .int .i64 0]) ∧ Below w.heap.size w w' := by
  have hl := hL.1
  have hp := hP.pos
  have hn' : (n : Int) ≤ 4294967295 := by omega
  have HN : Hid ((n : Int) ≤ 4294967295) := hn'
  have HP : Hid (∀ W, Places W → Calls Tryd.prog 91 #[.int .i64 f] W fun e w' => e = .returned (.tuple #[.int .i64 (8 * (at0 : Int)), .int .i64 (8 * (size : Int)), .int .i64 0]) ∧ Below W.heap.size W w') := hpl
  clear hn hn' hpl
  go_enter Tryd.func92, Tryd.ntmps92
  go_wp2_with fail
  refine (HP.out _ (hP.later hp (((Below.refl _ _).alloc (Nat.le_refl _) _).alloc (by simp) _))).mono ?_
  clear HP
  rintro e w1 ⟨rfl, hb1⟩
  have g1 : w1.heap[w.heap.size]? = some (.cells (hv L) 23 (0, 0)) := by
    rw [hb1.block _ (by simp; omega)]; exact heap_past _ _ _ _ (heap_new _ _ _ rfl)
  have g2 : w1.heap[w.heap.size + 1]? = some (.cells zero26 23 (0, 0)) := by
    rw [hb1.block _ (by simp)]; exact heap_new _ _ _ (by simp)
  clear hP
  go_wp2_with fail
  refine (Tryd.bits_Len32 _ _ (Int.natCast_nonneg n) HN.out).mono ?_
  rintro e w' ⟨rfl, rfl⟩
  go_wp2_with (refine wl_load26 rfl _ rfl w.heap.size rfl L g1 hl ?_)
  refine (put_any L hl at0 size n w' hs hs4 (Int.natCast_nonneg n) (by have := HN.out; omega)).mono ?_
  rintro e w2 ⟨rfl, hb2⟩
  have hz1 := hb1.size
  have hlt : w.heap.size + 1 < w'.heap.size := by simp at hz1; omega
  have g3 : w2.heap[w.heap.size + 1]? = some (.cells zero26 23 (0, 0)) := by rw [hb2.block _ hlt]; exact g2
  have hpl := putN_length L at0 size n size
  go_wp2_with (refine wl_store26 rfl _ _ rfl (w.heap.size + 1) (putN L at0 size n size) rfl rfl _ g3 rfl (by omega) _ rfl ?_)
  refine ret26e (p := 6) (u := 7) rfl rfl (w.heap.size + 1) rfl (putN L at0 size n size) (by omega) (setRow_heap _ _ _ _ _ _ g3) _ rfl ⟨rfl, ?_⟩
  have hW : Below w.heap.size w w' := (((Below.refl _ _).alloc (Nat.le_refl _) _).alloc (by simp) _).trans (hb1.mono (by simp; omega))
  exact below_setRow (hW.trans (hb2.mono hW.size)) (by omega) _

set_option maxHeartbeats 1000000 in
theorem with_over (L : List Int) (f : Int) (at0 size n : Nat) (w : World) (_hs : at0 + size ≤ 13) (_hs4 : size ≤ 4) (hn : n ≤ 4294967295) (hP : Places w)
    (hpl : ∀ W, Places W → Calls Tryd.prog 91 #[.int .i64 f] W fun e w' => e = .returned (.tuple #[.int .i64 (8 * (at0 : Int)), .int .i64 (8 * (size : Int)), .int .i64 0]) ∧ Below W.heap.size W w') (hb : 8 * (size : Int) < (Lib.bitLen n : Int)) :
    Calls Tryd.prog 92 #[.agg (hv L), .int .i64 f, .int .u32 n] w fun e w' => e = .returned (.tuple #[.agg (hv Z13), .int .i64 10]) ∧ Below w.heap.size w w' := by
  have hp := hP.pos
  have hn' : (n : Int) ≤ 4294967295 := by omega
  have HN : Hid ((n : Int) ≤ 4294967295) := hn'
  have HP : Hid (∀ W, Places W → Calls Tryd.prog 91 #[.int .i64 f] W fun e w' => e = .returned (.tuple #[.int .i64 (8 * (at0 : Int)), .int .i64 (8 * (size : Int)), .int .i64 0]) ∧ Below W.heap.size W w') := hpl
  clear hn hn' hpl
  go_enter Tryd.func92, Tryd.ntmps92
  go_wp2_with fail
  refine (HP.out _ (hP.later hp (((Below.refl _ _).alloc (Nat.le_refl _) _).alloc (by simp) _))).mono ?_
  clear HP
  rintro e w1 ⟨rfl, hb1⟩
  have g2 : w1.heap[w.heap.size + 1]? = some (.cells zero26 23 (0, 0)) := by
    rw [hb1.block _ (by simp)]; exact heap_new _ _ _ (by simp)
  clear hP
  go_wp2_with fail
  refine (Tryd.bits_Len32 _ _ (Int.natCast_nonneg n) HN.out).mono ?_
  rintro e w' ⟨rfl, rfl⟩
  go_wp2_with (refine wl_store26 rfl _ _ rfl (w.heap.size + 1) Z13 rfl rfl _ g2 rfl rfl _ rfl ?_)
  refine ret26e (p := 6) (u := 7) rfl rfl (w.heap.size + 1) rfl Z13 rfl (setRow_heap _ _ _ _ _ _ g2) _ rfl ⟨rfl, ?_⟩
  exact below_setRow ((((Below.refl _ _).alloc (Nat.le_refl _) _).alloc (by simp) _).trans (hb1.mono (by simp; omega))) (by omega) _

def atOf (f : Int) : Nat := (firstOf f / 8).toNat
def sizeOfF (f : Int) : Nat := (widthOf f / 8).toNat
theorem place_facts (f : Int) (h0 : 0 ≤ f) (h1 : f < 5) : firstOf f = 8 * (atOf f : Int) ∧ widthOf f = 8 * (sizeOfF f : Int) ∧ atOf f + sizeOfF f ≤ 13 ∧ sizeOfF f ≤ 4 ∧ 1 ≤ sizeOfF f := by
  rcases (show f = 0 ∨ f = 1 ∨ f = 2 ∨ f = 3 ∨ f = 4 by omega) with h | h | h | h | h <;> subst h <;> decide
theorem place_at (f : Int) (h0 : 0 ≤ f) (h1 : f < 5) : ∀ W, Places W → Calls Tryd.prog 91 #[.int .i64 f] W fun e w' => e = .returned (.tuple #[.int .i64 (8 * (atOf f : Int)), .int .i64 (8 * (sizeOfF f : Int)), .int .i64 0]) ∧ Below W.heap.size W w' := fun W hP => by
  have h := place_in f W h0 h1 hP
  rw [(place_facts f h0 h1).1, (place_facts f h0 h1).2.1] at h
  exact h

theorem with_ok (L : List Int) (hL : Byt L) (f v : Int) (w : World) (h0 : 0 ≤ f) (h1 : f < 5) (hv0 : 0 ≤ v) (hv1 : v < 4294967296) (hP : Places w) (hvw : v < 2 ^ (8 * sizeOfF f)) :
    Calls Tryd.prog 92 #[.agg (hv L), .int .i64 f, .int .u32 v] w fun e w' => e = .returned (.tuple #[.agg (hv (putN L (atOf f) (sizeOfF f) v (sizeOfF f))), .int .i64 0]) ∧ Below w.heap.size w w' := by
  obtain ⟨n, rfl⟩ := Int.eq_ofNat_of_zero_le hv0
  obtain ⟨_, _, a1, a2, _⟩ := place_facts f h0 h1
  have hb := (bitLen_le (8 * sizeOfF f) n (by omega)).2 (by exact_mod_cast hvw)
  exact with_core L hL f (atOf f) (sizeOfF f) n w a1 a2 (by omega) hP (place_at f h0 h1) (by omega)

theorem with_big (L : List Int) (f v : Int) (w : World) (h0 : 0 ≤ f) (h1 : f < 5) (hv0 : 0 ≤ v) (hv1 : v < 4294967296) (hP : Places w) (hvw : ¬ v < 2 ^ (8 * sizeOfF f)) :
    Calls Tryd.prog 92 #[.agg (hv L), .int .i64 f, .int .u32 v] w fun e w' => e = .returned (.tuple #[.agg (hv Z13), .int .i64 10]) ∧ Below w.heap.size w w' := by
  obtain ⟨n, rfl⟩ := Int.eq_ofNat_of_zero_le hv0
  obtain ⟨_, _, a1, a2, _⟩ := place_facts f h0 h1
  have hb : ¬ Lib.bitLen n ≤ 8 * sizeOfF f := fun h => hvw (by exact_mod_cast (bitLen_le (8 * sizeOfF f) n (by omega)).1 h)
  exact with_over L f (atOf f) (sizeOfF f) n w a1 a2 (by omega) hP (place_at f h0 h1) (by omega)
end Go.Proofs.YtnbklmmampdbfaaDoor
namespace Go.Proofs.YtnbklmmampdbfaaDoor
open Go Go.RowKit
set_option maxRecDepth 20000

/-- The header behind n rounds of the reference's With: from the last bit of the field on. -/
def withB (L : List Int) (F Wd v : Nat) : Nat → List Int
  | 0 => L
  | n + 1 => setB (withB L F Wd v n) ((F : Int) + ((Wd : Int) - 1 - (n : Int))) (((v / 2 ^ n : Nat) : Int) % 2 == 1)

theorem withB_bit (L : List Int) (hL : Byt L) (F Wd v : Nat) (hFW : F + Wd ≤ 104) : ∀ n, n ≤ Wd → Byt (withB L F Wd v n) ∧
    ∀ k : Nat, k < 104 → bitB (withB L F Wd v n) (k : Int) = if F + Wd - n ≤ k ∧ k < F + Wd then (v / 2 ^ (F + Wd - 1 - k) % 2 == 1) else bitB L (k : Int)
  | 0, _ => ⟨hL, fun k _ => by rw [if_neg (by omega)]; rfl⟩
  | n + 1, hn => by
    obtain ⟨h1, h2⟩ := withB_bit L hL F Wd v hFW n (by omega)
    obtain ⟨g1, g2⟩ := setB_bit (withB L F Wd v n) h1 ((F : Int) + ((Wd : Int) - 1 - (n : Int))) (((v / 2 ^ n : Nat) : Int) % 2 == 1) (by omega) (by omega)
    refine ⟨g1, fun k hk => ?_⟩
    show bitB (setB _ _ _) _ = _
    rw [g2 (k : Int) (by omega) (by omega)]
    by_cases e : (k : Int) = (F : Int) + ((Wd : Int) - 1 - (n : Int))
    · rw [if_pos e, if_pos (by omega), show F + Wd - 1 - k = n by omega, Bool.eq_iff_iff, beq_iff_eq, beq_iff_eq]
      omega
    · rw [if_neg e, h2 k hk]
      by_cases e2 : F + Wd - n ≤ k ∧ k < F + Wd
      · rw [if_pos e2, if_pos (by omega)]
      · rw [if_neg e2, if_neg (by omega)]

end Go.Proofs.YtnbklmmampdbfaaDoor
namespace Go.Proofs.YtnbklmmampdbfaaDoor
open Go Go.RowKit
set_option maxRecDepth 20000

/-- The value of the right one. -/
def can (V M : List Int) : List Int := mk fun i => bt V i && bt M i

theorem bt_at (L : List Int) (i : Nat) : bt L i = yb (L.getD (i / 8) 0) (i % 8) := rfl

set_option maxHeartbeats 1000000 in
theorem canon_any (V M : List Int) (hV : Byt V) (hM : Byt M) (w : World) :
    Calls Tryd.prog 37 #[.agg (cv V M)] w fun e w' => e = .returned (.agg (cv (can V M) M)) ∧ Below w.heap.size w w' := by
  have hVl := hV.1
  have hMl := hM.1
  have HV : Hid (Byt V) := hV
  have HM : Hid (Byt M) := hM
  clear hV hM
  go_enter Tryd.func37, Tryd.ntmps37
  go_wp2
  go_loopw [4] (fun i wr => ∃ k : Nat, k ≤ 13 ∧ i = .int .i64 k ∧ ∃ U : List Int, Byt U ∧ (∀ j, j < 13 → U.getD j 0 = if j < k then bits .and .u8 (V.getD j 0) (M.getD j 0) else V.getD j 0) ∧ wr.heap[w.heap.size]? = some (.cells (cv U M) 33 (0, 0)) ∧ wr.heap[w.heap.size + 1]? = some (.cells zeroC 33 (0, 0)) ∧ Below w.heap.size w wr) (fun i _ => 13 - (intOf i).toNat)
  case atStart => exact ⟨0, Nat.zero_le _, rfl, V, HV.out, fun j _ => by simp, heap_past _ _ _ _ (heap_new _ _ _ rfl), heap_new _ _ _ (by simp), ((Below.refl _ _).alloc (Nat.le_refl _) _).alloc (by simp) _⟩
  case round =>
    obtain ⟨k, hk, rfl, U, hU, hUj, g0, g1, hb⟩ := hrel
    have hUl := hU.1
    by_cases hlt : k < 13
    · obtain ⟨x, hx, hxe⟩ : ∃ x, (cv U M)[k]? = some (.int .u8 x) ∧ x = U.getD k 0 := ⟨_, cv_val U M hUl k hlt, rfl⟩
      obtain ⟨y, hy, hye⟩ : ∃ y, (cv U M)[13 + k]? = some (.int .u8 y) ∧ y = M.getD k 0 := ⟨_, cv_mask U M hUl hMl k hlt, rfl⟩
      have hx0 : wr.cell? ⟨w.heap.size, k, none⟩ = some (.int .u8 x) := by rw [cell_of_row wr _ _ _ _ _ g0]; exact hx
      have hy0 : wr.cell? ⟨w.heap.size, 13 + k, none⟩ = some (.int .u8 y) := by rw [cell_of_row wr _ _ _ _ _ g0]; exact hy
      have hf0 : wr.frozen? ⟨w.heap.size, k, none⟩ = false := frozen_of_row wr _ _ _ _ g0
      have HU : Hid (Byt U) := hU
      have HUJ : Hid (∀ j, j < 13 → U.getD j 0 = if j < k then bits .and .u8 (V.getD j 0) (M.getD j 0) else V.getD j 0) := hUj
      have HX : Hid (x = U.getD k 0) := hxe
      have HY : Hid (y = M.getD k 0) := hye
      clear hU hUj hxe hye hx hy
      go_wp2_with fail
      refine wp_region_tail 11 (by kernel_rfl) (by kernel_rfl) ?_
      simp only [List.take_succ_cons, List.take_zero, List.drop_succ_cons, List.drop_zero]
      repeat go_big_quiet_step (fail)
      refine wpQuiet_nil ?_
      go_wp2_with fail
      go_roundw
      case rel =>
        refine ⟨k + 1, by omega, by go_num, U.set k (bits .and .u8 x y), byt_set U HU.out k _ hlt (bits_u8 _ _ _), fun j hj => ?_, ?_, ?_, ?_⟩
        · rw [getD_set _ _ _ _ (by omega)]
          by_cases e : k = j
          · subst e
            rw [if_pos rfl, if_pos (by omega), HX.out, HY.out, HUJ.out k hlt, if_neg (by omega)]
          · rw [if_neg e, HUJ.out j hj]
            by_cases h : j < k
            · rw [if_pos h, if_pos (by omega)]
            · rw [if_neg h, if_neg (by omega)]
        · rw [← cv_set_val U M hUl k hlt]; exact heap_setCell_same wr _ _ _ _ _ g0
        · exact (heap_setCell_other wr ⟨w.heap.size, k, none⟩ (w.heap.size + 1) _ (by simp)).trans g1
        · exact (hb.setCell (Nat.le_refl _) _).drew
      case measure => simp [intOf]; omega
    · obtain rfl : k = 13 := by omega
      have HU : Hid (Byt U) := hU
      have HUJ : Hid (∀ j, j < 13 → U.getD j 0 = if j < 13 then bits .and .u8 (V.getD j 0) (M.getD j 0) else V.getD j 0) := hUj
      clear hU hUj
      go_wp2_with (first
        | (refine wl_loadC rfl _ rfl w.heap.size rfl U M g0 hUl hMl ?_)
        | (refine wl_storeC rfl _ _ rfl (w.heap.size + 1) U M rfl rfl _ g1 rfl hUl hMl _ rfl ?_))
      have e : U = can V M := mk_eq U HU.out _ fun i hi => by
        rw [bt_at, HUJ.out _ (by omega), if_pos (by omega), and_yb _ _ (HV.out.2 _) (HM.out.2 _)]; rfl
      subst e
      refine retC (p := 2) rfl rfl (w.heap.size + 1) rfl (can V M) M hUl hMl (setRow_heap _ _ _ _ _ _ g1) ⟨rfl, ?_⟩
      exact below_setRow hb (by omega) _
end Go.Proofs.YtnbklmmampdbfaaDoor
namespace Go.Proofs.YtnbklmmampdbfaaDoor
open Go Go.RowKit
set_option maxRecDepth 20000

/-- Does a cube have a header? -/
def has (V M H : List Int) : Bool := (List.range 104).all fun i => !(bt M i) || (bt V i == bt H i)
theorem has_iff (V M H : List Int) : has V M H = true ↔ ∀ i, i < 104 → bt M i = true → bt V i = bt H i := by
  unfold has
  simp only [List.all_eq_true, List.mem_range, Bool.or_eq_true, Bool.not_eq_true', beq_iff_eq]
  constructor
  · intro h i hi hm
    rcases h i hi with h' | h'
    · rw [h'] at hm; cases hm
    · exact h'
  · intro h i hi
    cases hm : bt M i
    · exact .inl rfl
    · exact .inr (h i hi hm)

theorem has_byte (v h m : Int) (hv : 0 ≤ v ∧ v < 256) (hh : 0 ≤ h ∧ h < 256) (hm : 0 ≤ m ∧ m < 256) : bits .and .u8 (bits .xor .u8 v h) m = 0 ↔ ∀ j, j < 8 → yb m j = true → yb v j = yb h j := by
  rw [zero_byte _ (bits_u8 _ _ _)]
  constructor
  · intro g j hj hmj
    have := g j hj
    rw [and_yb _ _ (bits_u8 _ _ _) hm, xor_yb _ _ hv hh, hmj] at this
    simpa using this
  · intro g j hj
    rw [and_yb _ _ (bits_u8 _ _ _) hm, xor_yb _ _ hv hh]
    cases hmj : yb m j
    · simp
    · rw [g j hj hmj]; simp

theorem has_all (V M H : List Int) (hV : Byt V) (hM : Byt M) (hH : Byt H) (h : ∀ k, k < 13 → bits .and .u8 (bits .xor .u8 (V.getD k 0) (H.getD k 0)) (M.getD k 0) = 0) : has V M H = true :=
  (has_iff V M H).2 fun i hi hm => (has_byte _ _ _ (hV.2 _) (hH.2 _) (hM.2 _)).1 (h (i / 8) (by omega)) (i % 8) (by omega) hm
theorem has_not (V M H : List Int) (hV : Byt V) (hM : Byt M) (hH : Byt H) (k : Nat) (hk : k < 13) (h : bits .and .u8 (bits .xor .u8 (V.getD k 0) (H.getD k 0)) (M.getD k 0) ≠ 0) : has V M H = false := by
  cases e : has V M H
  · rfl
  · refine absurd ((has_byte _ _ _ (hV.2 _) (hH.2 _) (hM.2 _)).2 fun j hj hm => ?_) h
    have := (has_iff V M H).1 e (8 * k + j) (by omega)
    unfold bt at this
    rw [show (8 * k + j) / 8 = k by omega, show (8 * k + j) % 8 = j by omega] at this
    exact this hm

set_option maxHeartbeats 1000000 in
theorem has_any (V M H : List Int) (hV : Byt V) (hM : Byt M) (hH : Byt H) (w : World) :
    Calls Tryd.prog 16 #[.agg (cv V M), .agg (hv H)] w fun e w' => e = .returned (.bool (has V M H)) ∧ Below w.heap.size w w' := by
  have hVl := hV.1
  have hMl := hM.1
  have hHl := hH.1
  have HV : Hid (Byt V) := hV
  have HM : Hid (Byt M) := hM
  have HH : Hid (Byt H) := hH
  clear hV hM hH
  go_enter Tryd.func16, Tryd.ntmps16
  go_wp2
  go_loopw [6] (fun i wr => ∃ k : Nat, k ≤ 13 ∧ i = .int .i64 k ∧ (∀ j, j < k → bits .and .u8 (bits .xor .u8 (V.getD j 0) (H.getD j 0)) (M.getD j 0) = 0) ∧ wr.heap[w.heap.size]? = some (.cells (cv V M) 33 (0, 0)) ∧ wr.heap[w.heap.size + 1]? = some (.cells (hv H) 23 (0, 0)) ∧ Below w.heap.size w wr) (fun i _ => 13 - (intOf i).toNat)
  case atStart => exact ⟨0, Nat.zero_le _, rfl, fun j hj => by omega, heap_past _ _ _ _ (heap_new _ _ _ rfl), heap_new _ _ _ (by simp), ((Below.refl _ _).alloc (Nat.le_refl _) _).alloc (by simp) _⟩
  case round =>
    obtain ⟨k, hk, rfl, hUj, g0, g1, hb⟩ := hrel
    by_cases hlt : k < 13
    · obtain ⟨x, hx, hxe⟩ : ∃ x, (cv V M)[k]? = some (.int .u8 x) ∧ x = V.getD k 0 := ⟨_, cv_val V M hVl k hlt, rfl⟩
      obtain ⟨y, hy, hye⟩ : ∃ y, (cv V M)[13 + k]? = some (.int .u8 y) ∧ y = M.getD k 0 := ⟨_, cv_mask V M hVl hMl k hlt, rfl⟩
      obtain ⟨z, hz, hze⟩ : ∃ z, (hv H)[k]? = some (.int .u8 z) ∧ z = H.getD k 0 := ⟨_, hv_at H hHl k hlt, rfl⟩
      have hx0 := later_cell g0 hx
      have hy0 := later_cell g0 hy
      have hz0 := later_cell g1 hz
      have HUJ : Hid (∀ j, j < k → bits .and .u8 (bits .xor .u8 (V.getD j 0) (H.getD j 0)) (M.getD j 0) = 0) := hUj
      have HX : Hid (x = V.getD k 0) := hxe
      have HY : Hid (y = M.getD k 0) := hye
      have HZ : Hid (z = H.getD k 0) := hze
      have ne1 := Later.ne wr
      clear hUj hxe hye hx hy hz hze
      by_cases hc : bits .and .u8 (bits .xor .u8 x z) y = 0
      · have HC : Hid (bits .and .u8 (bits .xor .u8 x z) y = 0) := hc
        have hne : (bits .and .u8 (bits .xor .u8 x z) y != 0) = false := by simp [hc]
        clear hc
        go_wp2_with fail
        refine wp_region_later (by kernel_rfl) (by kernel_rfl) ?_
        repeat go_big_quiet_step (fail)
        refine wpQuiet_nil ?_
        rintro w' ⟨u, rfl⟩
        go_wp2_with fail
        go_roundw
        case rel =>
          refine ⟨k + 1, by omega, by go_num, fun j hj => ?_, later_block g0 _ ⟨u, rfl⟩, later_block g1 _ ⟨u, rfl⟩, hb.trans (u.below.mono hb.size)⟩
          by_cases e : j = k
          · subst e; rw [← HX.out, ← HY.out, ← HZ.out]; exact HC.out
          · exact HUJ.out j (by omega)
        case measure => simp [intOf]; omega
      · have HC : Hid (¬ bits .and .u8 (bits .xor .u8 x z) y = 0) := hc
        have hne : (bits .and .u8 (bits .xor .u8 x z) y != 0) = true := by simp [hc]
        clear hc
        go_wp2_with fail
        refine wp_region_later (by kernel_rfl) (by kernel_rfl) ?_
        repeat go_big_quiet_step (fail)
        refine wpQuiet_nil ?_
        rintro w' ⟨u, rfl⟩
        go_wp2_with fail
        go_ret
        refine ⟨ret_bool ?_, hb.trans (u.below.mono hb.size)⟩
        have hn := HC.out
        rw [HX.out, HY.out, HZ.out] at hn
        rw [has_not V M H HV.out HM.out HH.out k hlt hn]
    · obtain rfl : k = 13 := by omega
      have HUJ : Hid (∀ j, j < 13 → bits .and .u8 (bits .xor .u8 (V.getD j 0) (H.getD j 0)) (M.getD j 0) = 0) := hUj
      clear hUj
      go_wp2_with fail
      go_ret
      exact ⟨ret_bool (has_all V M H HV.out HM.out HH.out HUJ.out).symm, hb⟩
end Go.Proofs.YtnbklmmampdbfaaDoor
namespace Go.Proofs.YtnbklmmampdbfaaDoor
open Go Go.RowKit
set_option maxRecDepth 20000

/-- The end of a function whose results are a cube in memory, and a plain one. -/
theorem retCe {fn : Func} {R : Ending → World → Prop} {a : Act} {w : World} {p u : Tmp} (hr : fn.results = #[.cell p 33, .tmp u]) (hd : a.defers = []) (g : Nat) (hp : a.tmps.getD p undef = .pointer (some ⟨g, 0, none⟩)) (V M : List Int) (hV : V.length = 13) (hM : M.length = 13)
    (hg : w.heap[g]? = some (.cells (cv V M) 33 (0, 0))) (v : Value) (hu : a.tmps.getD u undef = v) (h : R (.returned (.tuple #[.agg (cv V M), v])) w) : bodyPost Tryd.prog fn R .ret a w := by
  refine bodyPost_ret (v := .tuple #[.agg (cv V M), v]) ?_ hd h
  rw [results_cell_tmp hr, hp, hu]
  simp [asAddr, run_loadVar_row w g 33 33 (cv V M) (0, 0) _ hg Tryd.underlying33 rfl (sizeC V M hV hM)]

/-- Have two cubes a header together? -/
def meets (V M V' M' : List Int) : Bool := (List.range 104).all fun i => !(bt M i && bt M' i) || (bt V i == bt V' i)
def meetV (V M V' M' : List Int) : List Int := mk fun i => (bt V i && bt M i) || (bt V' i && bt M' i)
def meetM (M M' : List Int) : List Int := mk fun i => bt M i || bt M' i
theorem meets_iff (V M V' M' : List Int) : meets V M V' M' = true ↔ ∀ i, i < 104 → bt M i = true → bt M' i = true → bt V i = bt V' i := by
  unfold meets
  simp only [List.all_eq_true, List.mem_range, Bool.or_eq_true, Bool.not_eq_true', beq_iff_eq]
  constructor
  · intro h i hi hm hm'
    rcases h i hi with h' | h'
    · rw [hm, hm'] at h'; cases h'
    · exact h'
  · intro h i hi
    cases hm : bt M i
    · exact .inl rfl
    · cases hm' : bt M' i
      · exact .inl rfl
      · exact .inr (h i hi hm hm')

theorem clash_byte (v m v' m' : Int) (hv : 0 ≤ v ∧ v < 256) (hm : 0 ≤ m ∧ m < 256) (hv' : 0 ≤ v' ∧ v' < 256) (hm' : 0 ≤ m' ∧ m' < 256) : bits .and .u8 (bits .and .u8 (bits .xor .u8 v v') m) m' = 0 ↔ ∀ j, j < 8 → yb m j = true → yb m' j = true → yb v j = yb v' j := by
  rw [zero_byte _ (bits_u8 _ _ _)]
  constructor
  · intro g j hj hmj hmj'
    have := g j hj
    rw [and_yb _ _ (bits_u8 _ _ _) hm', and_yb _ _ (bits_u8 _ _ _) hm, xor_yb _ _ hv hv', hmj, hmj'] at this
    simpa using this
  · intro g j hj
    rw [and_yb _ _ (bits_u8 _ _ _) hm', and_yb _ _ (bits_u8 _ _ _) hm, xor_yb _ _ hv hv']
    cases hmj : yb m j
    · simp
    · cases hmj' : yb m' j
      · simp
      · rw [g j hj hmj hmj']; simp

theorem can_byt (V M : List Int) : Byt (can V M) := mk_byt _
theorem can_bt (V M : List Int) (i : Nat) (hi : i < 104) : bt (can V M) i = (bt V i && bt M i) := mk_bt _ i hi
theorem meetV_byt (V M V' M' : List Int) : Byt (meetV V M V' M') := mk_byt _
theorem meetM_byt (M M' : List Int) : Byt (meetM M M') := mk_byt _

theorem meets_all (V M V' M' : List Int) (hM : Byt M) (hM' : Byt M') (h : ∀ k, k < 13 → bits .and .u8 (bits .and .u8 (bits .xor .u8 ((can V M).getD k 0) ((can V' M').getD k 0)) (M.getD k 0)) (M'.getD k 0) = 0) : meets V M V' M' = true :=
  (meets_iff V M V' M').2 fun i hi hm hm' => by
    have := (clash_byte _ _ _ _ ((can_byt V M).2 _) (hM.2 _) ((can_byt V' M').2 _) (hM'.2 _)).1 (h (i / 8) (by omega)) (i % 8) (by omega) hm hm'
    rw [← bt_at, ← bt_at, can_bt _ _ i hi, can_bt _ _ i hi, hm, hm'] at this
    simpa using this
theorem meets_not (V M V' M' : List Int) (hM : Byt M) (hM' : Byt M') (k : Nat) (hk : k < 13) (h : bits .and .u8 (bits .and .u8 (bits .xor .u8 ((can V M).getD k 0) ((can V' M').getD k 0)) (M.getD k 0)) (M'.getD k 0) ≠ 0) : meets V M V' M' = false := by
  cases e : meets V M V' M'
  · rfl
  · refine absurd ((clash_byte _ _ _ _ ((can_byt V M).2 _) (hM.2 _) ((can_byt V' M').2 _) (hM'.2 _)).2 fun j hj hm hm' => ?_) h
    have ed : (8 * k + j) / 8 = k := by omega
    have em : (8 * k + j) % 8 = j := by omega
    have hb : ∀ L : List Int, yb (L.getD k 0) j = bt L (8 * k + j) := fun L => by unfold bt; rw [ed, em]
    rw [hb] at hm hm' ⊢
    rw [hb, can_bt _ _ _ (by omega), can_bt _ _ _ (by omega), hm, hm', (meets_iff V M V' M').1 e _ (by omega) hm hm']

/-- What Meet answers. -/
def meetR (V M V' M' : List Int) : Value := .tuple #[.agg (if meets V M V' M' then cv (meetV V M V' M') (meetM M M') else cv Z Z), .bool (meets V M V' M')]
theorem meetR_yes (V M V' M' : List Int) (h : meets V M V' M' = true) : meetR V M V' M' = .tuple #[.agg (cv (meetV V M V' M') (meetM M M')), .bool true] := by unfold meetR; rw [h]; rfl
theorem meetR_no (V M V' M' : List Int) (h : meets V M V' M' = false) : meetR V M V' M' = .tuple #[.agg (cv Z Z), .bool false] := by unfold meetR; rw [h]; rfl

set_option maxHeartbeats 4000000 in
theorem meet_any (V M V' M' : List Int) (hV : Byt V) (hM : Byt M) (hV' : Byt V') (hM' : Byt M') (w : World) :
    Calls Tryd.prog 36 #[.agg (cv V M), .agg (cv V' M')] w fun e w' => e = .returned (meetR V M V' M') ∧ Below w.heap.size w w' := by
  have hVl := hV.1
  have hMl := hM.1
  have hVl' := hV'.1
  have hMl' := hM'.1
  have C1 : Hid (∀ W, Calls Tryd.prog 37 #[.agg (cv V M)] W fun e w' => e = .returned (.agg (cv (can V M) M)) ∧ Below W.heap.size W w') := canon_any V M hV hM
  have C2 : Hid (∀ W, Calls Tryd.prog 37 #[.agg (cv V' M')] W fun e w' => e = .returned (.agg (cv (can V' M') M')) ∧ Below W.heap.size W w') := canon_any V' M' hV' hM'
  have HM : Hid (Byt M) := hM
  have HM' : Hid (Byt M') := hM'
  have hAl : (can V M).length = 13 := (can_byt V M).1
  have hBl : (can V' M').length = 13 := (can_byt V' M').1
  clear hV hM hV' hM'
  go_enter Tryd.func36, Tryd.ntmps36
  go_wp2_with fail
  obtain ⟨W, hW⟩ : ∃ W, W = ((w.alloc (.cells (cv V M) 33)).alloc (.cells (cv V' M') 33)).alloc (.cells zeroC 33) := ⟨_, rfl⟩
  have g0 : W.heap[w.heap.size]? = some (.cells (cv V M) 33 (0, 0)) := by rw [hW]; exact heap_past _ _ _ _ (heap_past _ _ _ _ (heap_new _ _ _ rfl))
  have g1 : W.heap[w.heap.size + 1]? = some (.cells (cv V' M') 33 (0, 0)) := by rw [hW]; exact heap_past _ _ _ _ (heap_new _ _ _ (by simp))
  have g2 : W.heap[w.heap.size + 2]? = some (.cells zeroC 33 (0, 0)) := by rw [hW]; exact heap_new _ _ _ (by simp)
  have hb : Below w.heap.size w W := by rw [hW]; exact (((Below.refl _ _).alloc (Nat.le_refl _) _).alloc (by simp) _).alloc (by simp; omega) _
  have hsz := hb.size
  rw [← hW]
  clear hW
  have ne1 := Later.ne W
  refine wp_region_latertail 4 (by kernel_rfl) (by kernel_rfl) ?_
  simp only [List.take_succ_cons, List.take_zero, List.drop_succ_cons, List.drop_zero]
  refine qlC rfl _ rfl w.heap.size rfl V M g0 hVl hMl ?_
  simp only [Act.put, List.setIfInBounds_toArray, List.set_cons_succ, List.set_cons_zero]
  go_big_quiet_want; go_big_quiet_op
  refine ⟨_, fun u => Calls.later_of (C1.out u.world), ?_⟩
  go_big_quiet_on
  refine qlC rfl _ rfl (w.heap.size + 1) rfl V' M' g1 hVl' hMl' ?_
  simp only [Act.put, List.setIfInBounds_toArray, List.set_cons_succ, List.set_cons_zero]
  go_big_quiet_want; go_big_quiet_op
  refine ⟨_, fun u => Calls.later_of (C2.out u.world), ?_⟩
  go_big_quiet_on
  refine wpQuiet_nil ?_
  rintro w1 ⟨u, rfl⟩
  obtain ⟨W1, hW1⟩ : ∃ W1, W1 = u.world := ⟨_, rfl⟩
  have k0 : W1.heap[w.heap.size]? = some (.cells (cv V M) 33 (0, 0)) := by rw [hW1]; exact later_block g0 _ ⟨u, rfl⟩
  have k1 : W1.heap[w.heap.size + 1]? = some (.cells (cv V' M') 33 (0, 0)) := by rw [hW1]; exact later_block g1 _ ⟨u, rfl⟩
  have k2 : W1.heap[w.heap.size + 2]? = some (.cells zeroC 33 (0, 0)) := by rw [hW1]; exact later_block g2 _ ⟨u, rfl⟩
  have hb1 : Below w.heap.size w W1 := by rw [hW1]; exact hb.trans (u.below.mono hsz)
  rw [← hW1]
  clear hW1 g0 g1 g2 hb C1 C2
  have m0 : (W1.setRow w.heap.size (cv (can V M) M)).heap[w.heap.size]? = some (.cells (cv (can V M) M) 33 (0, 0)) := setRow_heap _ _ _ _ _ _ k0
  have m1 : (W1.setRow w.heap.size (cv (can V M) M)).heap[w.heap.size + 1]? = some (.cells (cv V' M') 33 (0, 0)) := (setRow_other W1 _ _ _ (by omega)).trans k1
  have m2 : (W1.setRow w.heap.size (cv (can V M) M)).heap[w.heap.size + 2]? = some (.cells zeroC 33 (0, 0)) := (setRow_other W1 _ _ _ (by omega)).trans k2
  have hb2 := below_setRow hb1 (Nat.le_refl _) (cv (can V M) M)
  obtain ⟨W2, hW2⟩ : ∃ W2, W2 = W1.setRow w.heap.size (cv (can V M) M) := ⟨_, rfl⟩
  have n0 : (W2.setRow (w.heap.size + 1) (cv (can V' M') M')).heap[w.heap.size]? = some (.cells (cv (can V M) M) 33 (0, 0)) := by rw [hW2]; exact (setRow_other _ _ _ _ (by omega)).trans m0
  have n1 : (W2.setRow (w.heap.size + 1) (cv (can V' M') M')).heap[w.heap.size + 1]? = some (.cells (cv (can V' M') M') 33 (0, 0)) := by rw [hW2]; exact setRow_heap _ _ _ _ _ _ m1
  have n2 : (W2.setRow (w.heap.size + 1) (cv (can V' M') M')).heap[w.heap.size + 2]? = some (.cells zeroC 33 (0, 0)) := by rw [hW2]; exact (setRow_other _ _ _ _ (by omega)).trans m2
  have hb3 : Below w.heap.size w (W2.setRow (w.heap.size + 1) (cv (can V' M') M')) := by rw [hW2]; exact below_setRow hb2 (by omega) _
  rw [← hW2] at m1
  refine wl_storeC rfl _ _ rfl w.heap.size (can V M) M rfl rfl _ k0 (cv_size _ _ hVl hMl) hAl hMl _ hW2.symm ?_
  simp only [Act.put]
  refine wl_storeC rfl _ _ rfl (w.heap.size + 1) (can V' M') M' rfl rfl _ m1 (cv_size _ _ hVl' hMl') hBl hMl' _ rfl ?_
  simp only [Act.put]
  obtain ⟨W3, hW3⟩ : ∃ W3, W3 = W2.setRow (w.heap.size + 1) (cv (can V' M') M') := ⟨_, rfl⟩
  rw [← hW3] at n0 n1 n2 hb3 ⊢
  clear m0 m1 m2 hb2 k0 k1 k2 hb1 hW2 hW3
  go_wp2_with fail
  go_loopw [11] (fun i wr => ∃ k : Nat, k ≤ 13 ∧ i = .int .i64 k ∧ ∃ U N : List Int, Byt U ∧ Byt N ∧ (∀ j, j < 13 → U.getD j 0 = if j < k then bits .or .u8 ((can V M).getD j 0) ((can V' M').getD j 0) else (can V M).getD j 0) ∧ (∀ j, j < 13 → N.getD j 0 = if j < k then bits .or .u8 (M.getD j 0) (M'.getD j 0) else M.getD j 0)
    ∧ (∀ j, j < k → bits .and .u8 (bits .and .u8 (bits .xor .u8 ((can V M).getD j 0) ((can V' M').getD j 0)) (M.getD j 0)) (M'.getD j 0) = 0)
    ∧ wr.heap[w.heap.size]? = some (.cells (cv U N) 33 (0, 0)) ∧ wr.heap[w.heap.size + 1]? = some (.cells (cv (can V' M') M') 33 (0, 0)) ∧ wr.heap[w.heap.size + 2]? = some (.cells zeroC 33 (0, 0)) ∧ Below w.heap.size w wr) (fun i _ => 13 - (intOf i).toNat)
  case atStart => exact ⟨0, Nat.zero_le _, rfl, can V M, M, can_byt V M, HM.out, fun j _ => by simp, fun j _ => by simp, fun j hj => by omega, n0, n1, n2, hb3⟩
  case round =>
    clear n0 n1 n2 hb3
    obtain ⟨k, hk, rfl, U, N, hU, hN, hUj, hNj, hno, g0, g1, g2, hb⟩ := hrel
    have hUl := hU.1
    have hNl := hN.1
    have HU : Hid (Byt U) := hU
    have HN : Hid (Byt N) := hN
    have HUJ : Hid (∀ j, j < 13 → U.getD j 0 = if j < k then bits .or .u8 ((can V M).getD j 0) ((can V' M').getD j 0) else (can V M).getD j 0) := hUj
    have HNJ : Hid (∀ j, j < 13 → N.getD j 0 = if j < k then bits .or .u8 (M.getD j 0) (M'.getD j 0) else M.getD j 0) := hNj
    have HNO : Hid (∀ j, j < k → bits .and .u8 (bits .and .u8 (bits .xor .u8 ((can V M).getD j 0) ((can V' M').getD j 0)) (M.getD j 0)) (M'.getD j 0) = 0) := hno
    clear hU hN hUj hNj hno
    by_cases hlt : k < 13
    · obtain ⟨x, hx, hxe⟩ : ∃ x, (cv U N)[k]? = some (.int .u8 x) ∧ x = (can V M).getD k 0 := ⟨_, cv_val U N hUl k hlt, by rw [HUJ.out k hlt, if_neg (by omega)]⟩
      obtain ⟨y, hy, hye⟩ : ∃ y, (cv U N)[13 + k]? = some (.int .u8 y) ∧ y = M.getD k 0 := ⟨_, cv_mask U N hUl hNl k hlt, by rw [HNJ.out k hlt, if_neg (by omega)]⟩
      obtain ⟨x', hx', hxe'⟩ : ∃ x, (cv (can V' M') M')[k]? = some (.int .u8 x) ∧ x = (can V' M').getD k 0 := ⟨_, cv_val _ M' hBl k hlt, rfl⟩
      obtain ⟨y', hy', hye'⟩ : ∃ y, (cv (can V' M') M')[13 + k]? = some (.int .u8 y) ∧ y = M'.getD k 0 := ⟨_, cv_mask _ M' hBl hMl' k hlt, rfl⟩
      have hx0 := later_cell g0 hx
      have hy0 := later_cell g0 hy
      have hx1 := later_cell g1 hx'
      have hy1 := later_cell g1 hy'
      have HX : Hid (x = (can V M).getD k 0) := hxe
      have HY : Hid (y = M.getD k 0) := hye
      have HX' : Hid (x' = (can V' M').getD k 0) := hxe'
      have HY' : Hid (y' = M'.getD k 0) := hye'
      have ne2 := Later.ne wr
      clear hxe hye hxe' hye'
      by_cases hc : bits .and .u8 (bits .and .u8 (bits .xor .u8 x x') y) y' = 0
      · have HC : Hid (bits .and .u8 (bits .and .u8 (bits .xor .u8 x x') y) y' = 0) := hc
        have hne : (bits .and .u8 (bits .and .u8 (bits .xor .u8 x x') y) y' != 0) = false := by simp [hc]
        clear hc
        go_wp2_with fail
        refine wp_region_later (by kernel_rfl) (by kernel_rfl) ?_
        repeat go_big_quiet_step (fail)
        refine wpQuiet_nil ?_
        rintro w' ⟨u, rfl⟩
        obtain ⟨W4, hW4⟩ : ∃ W4, W4 = u.world := ⟨_, rfl⟩
        have k0 : W4.heap[w.heap.size]? = some (.cells (cv U N) 33 (0, 0)) := by rw [hW4]; exact later_block g0 _ ⟨u, rfl⟩
        have k1 : W4.heap[w.heap.size + 1]? = some (.cells (cv (can V' M') M') 33 (0, 0)) := by rw [hW4]; exact later_block g1 _ ⟨u, rfl⟩
        have k2 : W4.heap[w.heap.size + 2]? = some (.cells zeroC 33 (0, 0)) := by rw [hW4]; exact later_block g2 _ ⟨u, rfl⟩
        have hb4 : Below w.heap.size w W4 := by rw [hW4]; exact hb.trans (u.below.mono hb.size)
        rw [← hW4]
        clear hW4 g0 g1 g2 hb hx0 hy0 hx1 hy1 ne2
        have cx : W4.cell? ⟨w.heap.size, k, none⟩ = some (.int .u8 x) := by rw [cell_of_row W4 _ _ _ _ _ k0]; exact hx
        have cx' : W4.cell? ⟨w.heap.size + 1, k, none⟩ = some (.int .u8 x') := by rw [cell_of_row W4 _ _ _ _ _ k1]; exact hx'
        have cf : W4.frozen? ⟨w.heap.size, k, none⟩ = false := frozen_of_row W4 _ _ _ _ k0
        go_wp2_with fail
        refine wp_region_tail 11 (by kernel_rfl) (by kernel_rfl) ?_
        simp only [List.take_succ_cons, List.take_zero, List.drop_succ_cons, List.drop_zero]
        repeat go_big_quiet_step (fail)
        refine wpQuiet_nil ?_
        have l0 : ((W4.setCell ⟨w.heap.size, k, none⟩ (.int .u8 (bits .or .u8 x x'))).drew).heap[w.heap.size]? = some (.cells (cv (U.set k (bits .or .u8 x x')) N) 33 (0, 0)) := by rw [← cv_set_val U N hUl k hlt]; exact heap_setCell_same W4 _ _ _ _ _ k0
        have l1 : ((W4.setCell ⟨w.heap.size, k, none⟩ (.int .u8 (bits .or .u8 x x'))).drew).heap[w.heap.size + 1]? = some (.cells (cv (can V' M') M') 33 (0, 0)) := (heap_setCell_other W4 ⟨w.heap.size, k, none⟩ (w.heap.size + 1) _ (by simp)).trans k1
        have l2 : ((W4.setCell ⟨w.heap.size, k, none⟩ (.int .u8 (bits .or .u8 x x'))).drew).heap[w.heap.size + 2]? = some (.cells zeroC 33 (0, 0)) := (heap_setCell_other W4 ⟨w.heap.size, k, none⟩ (w.heap.size + 2) _ (by simp)).trans k2
        have hb5 : Below w.heap.size w ((W4.setCell ⟨w.heap.size, k, none⟩ (.int .u8 (bits .or .u8 x x'))).drew) := (hb4.setCell (Nat.le_refl _) _).drew
        obtain ⟨W5, hW5⟩ : ∃ W5, W5 = (W4.setCell ⟨w.heap.size, k, none⟩ (.int .u8 (bits .or .u8 x x'))).drew := ⟨_, rfl⟩
        have hUl2 : (U.set k (bits .or .u8 x x')).length = 13 := by rw [List.length_set]; exact hUl
        go_wp2_with fail
        rw [← hW5] at l0 l1 l2 hb5 ⊢
        clear hW5 k0 k1 k2 hb4 cx cx' cf hx hx' hy hy'
        have cy : W5.cell? ⟨w.heap.size, 13 + k, none⟩ = some (.int .u8 y) := by rw [cell_of_row W5 _ _ _ _ _ l0, cv_mask _ N hUl2 hNl k hlt, HNJ.out k hlt, if_neg (by omega), HY.out]
        have cy' : W5.cell? ⟨w.heap.size + 1, 13 + k, none⟩ = some (.int .u8 y') := by rw [cell_of_row W5 _ _ _ _ _ l1, cv_mask _ M' hBl hMl' k hlt, HY'.out]
        have cf : W5.frozen? ⟨w.heap.size, 13 + k, none⟩ = false := frozen_of_row W5 _ _ _ _ l0
        refine wp_region_tail 11 (by kernel_rfl) (by kernel_rfl) ?_
        simp only [List.take_succ_cons, List.take_zero, List.drop_succ_cons, List.drop_zero]
        repeat go_big_quiet_step (fail)
        refine wpQuiet_nil ?_
        go_wp2_with fail
        go_roundw
        case rel =>
          refine ⟨k + 1, by omega, by go_num, U.set k (bits .or .u8 x x'), N.set k (bits .or .u8 y y'), byt_set U HU.out k _ hlt (bits_u8 _ _ _), byt_set N HN.out k _ hlt (bits_u8 _ _ _), fun j hj => ?_, fun j hj => ?_, fun j hj => ?_, ?_, ?_, ?_, ?_⟩
          · rw [getD_set _ _ _ _ (by omega)]
            by_cases e : k = j
            · subst e
              rw [if_pos rfl, if_pos (by omega), HX.out, HX'.out]
            · rw [if_neg e, HUJ.out j hj]
              by_cases h : j < k
              · rw [if_pos h, if_pos (by omega)]
              · rw [if_neg h, if_neg (by omega)]
          · rw [getD_set _ _ _ _ (by omega)]
            by_cases e : k = j
            · subst e
              rw [if_pos rfl, if_pos (by omega), HY.out, HY'.out]
            · rw [if_neg e, HNJ.out j hj]
              by_cases h : j < k
              · rw [if_pos h, if_pos (by omega)]
              · rw [if_neg h, if_neg (by omega)]
          · by_cases e : j = k
            · subst e; rw [← HX.out, ← HY.out, ← HX'.out, ← HY'.out]; exact HC.out
            · exact HNO.out j (by omega)
          · rw [← cv_set_mask _ N hUl2 k]; exact heap_setCell_same W5 _ _ _ _ _ l0
          · exact (heap_setCell_other W5 ⟨w.heap.size, 13 + k, none⟩ (w.heap.size + 1) _ (by simp)).trans l1
          · exact (heap_setCell_other W5 ⟨w.heap.size, 13 + k, none⟩ (w.heap.size + 2) _ (by simp)).trans l2
          · exact (hb5.setCell (Nat.le_refl _) _).drew
        case measure => simp [intOf]; omega
      · have HC : Hid (¬ bits .and .u8 (bits .and .u8 (bits .xor .u8 x x') y) y' = 0) := hc
        have hne : (bits .and .u8 (bits .and .u8 (bits .xor .u8 x x') y) y' != 0) = true := by simp [hc]
        clear hc
        go_wp2_with fail
        refine wp_region_later (by kernel_rfl) (by kernel_rfl) ?_
        repeat go_big_quiet_step (fail)
        refine wpQuiet_nil ?_
        rintro w' ⟨u, rfl⟩
        have k2 := later_block g2 _ ⟨u, rfl⟩
        go_wp2_with (first
          | (refine wl_storeC rfl _ _ rfl (w.heap.size + 2) Z Z rfl (by rw [← zeroC_eq]; rfl) _ k2 rfl Z_byt.1 Z_byt.1 _ rfl ?_))
        refine retCe (p := 4) (u := 5) rfl rfl (w.heap.size + 2) rfl Z Z Z_byt.1 Z_byt.1 (setRow_heap _ _ _ _ _ _ k2) _ rfl ⟨?_, ?_⟩
        · have hn := HC.out
          rw [HX.out, HY.out, HX'.out, HY'.out] at hn
          rw [meetR_no _ _ _ _ (meets_not V M V' M' HM.out HM'.out k hlt hn)]; rfl
        · exact below_setRow (hb.trans (u.below.mono hb.size)) (by omega) _
    · obtain rfl : k = 13 := by omega
      go_wp2_with (first
        | (refine wl_loadC rfl _ rfl w.heap.size rfl U N g0 hUl hNl ?_)
        | (refine wl_storeC rfl _ _ rfl (w.heap.size + 2) U N rfl rfl _ g2 rfl hUl hNl _ rfl ?_))
      have e1 : U = meetV V M V' M' := mk_eq U HU.out _ fun i hi => by
        rw [bt_at, HUJ.out _ (by omega), if_pos (by omega), or_yb _ _ ((can_byt V M).2 _) ((can_byt V' M').2 _), ← bt_at, ← bt_at, can_bt _ _ _ hi, can_bt _ _ _ hi]
      have e2 : N = meetM M M' := mk_eq N HN.out _ fun i hi => by
        rw [bt_at, HNJ.out _ (by omega), if_pos (by omega), or_yb _ _ (HM.out.2 _) (HM'.out.2 _), ← bt_at, ← bt_at]
      have e3 := meets_all V M V' M' HM.out HM'.out HNO.out
      subst e1 e2
      refine retCe (p := 4) (u := 5) rfl rfl (w.heap.size + 2) rfl (meetV V M V' M') (meetM M M') hUl hNl (setRow_heap _ _ _ _ _ _ g2) _ rfl ⟨?_, ?_⟩
      · rw [meetR_yes _ _ _ _ e3]; rfl
      · exact below_setRow hb (by omega) _
end Go.Proofs.YtnbklmmampdbfaaDoor
namespace Go.Proofs.YtnbklmmampdbfaaDoor
open Go Go.RowKit
set_option maxRecDepth 20000

theorem info13 : (Tryd.prog.info? 23).map (·.size) = some 13 := by kernel_rfl

/-- A header that lies within a block, from a place on. -/
theorem load_part (w : World) (g off : Nat) (cs : Array Value) (t : TypeId) (fr : Nat × Nat) (L : List Int) (hL : L.length = 13) (hg : w.heap[g]? = some (.cells cs t fr)) (hc : ∀ j, j < 13 → cs[off + j]? = some (.int .u8 (L.getD j 0))) :
    (loadVar 23 ⟨g, off, none⟩).run Tryd.prog w = .ok (.agg (hv L)) w := by
  have hl : (loadCells ⟨g, off, none⟩ ((L.map (Value.int .u8))).length).run Tryd.prog w = .ok (L.map (Value.int .u8)).toArray w :=
    run_loadCells_list (P := Tryd.prog) w ⟨g, off, none⟩ (L.map (Value.int .u8)) (fun j v hv => by
      have hadd : (⟨g, off, none⟩ : Addr).add j = ⟨g, off + j, none⟩ := by unfold Addr.add; split <;> simp_all
      have hj : j < 13 := by
        have := (List.getElem?_eq_some_iff.1 hv).1
        simpa [hL] using this
      rw [hadd, cell_of_row w g (off + j) cs t fr hg, hc j hj]
      rw [List.getElem?_map, List.getElem?_eq_getElem (by omega)] at hv
      simpa [List.getD, hL, hj] using hv)
  have hi := info13
  cases hq : Tryd.prog.info? 23 with
  | none => simp [hq] at hi
  | some i =>
    have hs : i.size = 13 := by simpa [hq] using hi
    have hagg : (isAgg 23).run Tryd.prog w = .ok true w := by
      unfold isAgg
      rw [Sem.run_bind, run_underlying Tryd.underlying23 w]
      rfl
    rw [List.length_map, hL] at hl
    simp [loadVar, Sem.run_bind, hagg, sizeOf, typeInfo, hq, hs, hl, hv]

theorem wl_loadPart {ops : Array Oper} {rest : List Oper} {o : Oper} {a : Act} {w : World} {Q : Exit → Act → World → Prop} (hw : Region.wanted o (yielded ops a.tmps) = true) (x : Operand) (ho : o.op = .load 23 x)
    (g off : Nat) (hx : a.eval x = .pointer (some ⟨g, off, none⟩)) (cs : Array Value) (t : TypeId) (fr : Nat × Nat) (L : List Int) (hL : L.length = 13) (hg : w.heap[g]? = some (.cells cs t fr)) (hc : ∀ j, j < 13 → cs[off + j]? = some (.int .u8 (L.getD j 0)))
    (h : wpList Tryd.prog ops Q rest (a.put o.dst (.agg (hv L))) w) : wpList Tryd.prog ops Q (o :: rest) a w := by
  refine wpList_step fun K hK => ?_
  rw [if_pos hw]
  unfold Oper.wp execOp
  simp only [ho, hx, Instr.loadAt, Instr.sureAddr, Sem.run_bind, Sem.run_pure, Result.andThen_ok, load_part w g off cs t fr L hL hg hc]
  exact hK _ _ h
/-- The mask of a cube in memory. -/
theorem wl_loadM {ops : Array Oper} {rest : List Oper} {o : Oper} {a : Act} {w : World} {Q : Exit → Act → World → Prop} (hw : Region.wanted o (yielded ops a.tmps) = true) (x : Operand) (ho : o.op = .load 23 x)
    (g : Nat) (hx : a.eval x = .pointer (some ⟨g, 13, none⟩)) (V M : List Int) (hg : w.heap[g]? = some (.cells (cv V M) 33 (0, 0))) (hV : V.length = 13) (hM : M.length = 13)
    (h : wpList Tryd.prog ops Q rest (a.put o.dst (.agg (hv M))) w) : wpList Tryd.prog ops Q (o :: rest) a w :=
  wl_loadPart hw x ho g 13 hx _ _ _ M hM hg (fun j hj => cv_mask V M hV hM j hj) h
theorem wl_loadV {ops : Array Oper} {rest : List Oper} {o : Oper} {a : Act} {w : World} {Q : Exit → Act → World → Prop} (hw : Region.wanted o (yielded ops a.tmps) = true) (x : Operand) (ho : o.op = .load 23 x)
    (g : Nat) (hx : a.eval x = .pointer (some ⟨g, 0, none⟩)) (V M : List Int) (hg : w.heap[g]? = some (.cells (cv V M) 33 (0, 0))) (hV : V.length = 13)
    (h : wpList Tryd.prog ops Q rest (a.put o.dst (.agg (hv V))) w) : wpList Tryd.prog ops Q (o :: rest) a w :=
  wl_loadPart hw x ho g 0 hx _ _ _ V hV hg (fun j hj => by rw [Nat.zero_add]; exact cv_val V M hV j hj) h

theorem qlPart {W : World} {ops : Array Oper} {Q : Act → Prop} {rest : List Oper} {o : Oper} {a : Act} (hw : Region.wanted o (yielded ops a.tmps) = true) (x : Operand) (ho : o.op = .load 23 x)
    (g off : Nat) (hx : a.eval x = .pointer (some ⟨g, off, none⟩)) (cs : Array Value) (t : TypeId) (L : List Int) (hL : L.length = 13) (hg : W.heap[g]? = some (.cells cs t (0, 0))) (hc : ∀ j, j < 13 → cs[off + j]? = some (.int .u8 (L.getD j 0)))
    (h : wpQuiet Tryd.prog ops (fun w' => ∃ u : Later W, w' = u.world) Q rest (a.put o.dst (.agg (hv L)))) : wpQuiet Tryd.prog ops (fun w' => ∃ u : Later W, w' = u.world) Q (o :: rest) a := by
  refine BigFrame.wpQuiet_want hw fun K hK => ⟨.agg (hv L), fun w hC => ?_, hK _ h⟩
  unfold Oper.quietAt execOp
  simp only [ho, hx, Instr.loadAt, Instr.sureAddr, Sem.run_bind, Sem.run_pure, Result.andThen_ok, load_part w g off cs t (0, 0) L hL (later_block hg w hC) hc]
  exact ⟨rfl, rfl⟩
theorem qlM {W : World} {ops : Array Oper} {Q : Act → Prop} {rest : List Oper} {o : Oper} {a : Act} (hw : Region.wanted o (yielded ops a.tmps) = true) (x : Operand) (ho : o.op = .load 23 x)
    (g : Nat) (hx : a.eval x = .pointer (some ⟨g, 13, none⟩)) (V M : List Int) (hg : W.heap[g]? = some (.cells (cv V M) 33 (0, 0))) (hV : V.length = 13) (hM : M.length = 13)
    (h : wpQuiet Tryd.prog ops (fun w' => ∃ u : Later W, w' = u.world) Q rest (a.put o.dst (.agg (hv M)))) : wpQuiet Tryd.prog ops (fun w' => ∃ u : Later W, w' = u.world) Q (o :: rest) a :=
  qlPart hw x ho g 13 hx _ _ M hM hg (fun j hj => cv_mask V M hV hM j hj) h
theorem qlV {W : World} {ops : Array Oper} {Q : Act → Prop} {rest : List Oper} {o : Oper} {a : Act} (hw : Region.wanted o (yielded ops a.tmps) = true) (x : Operand) (ho : o.op = .load 23 x)
    (g : Nat) (hx : a.eval x = .pointer (some ⟨g, 0, none⟩)) (V M : List Int) (hg : W.heap[g]? = some (.cells (cv V M) 33 (0, 0))) (hV : V.length = 13)
    (h : wpQuiet Tryd.prog ops (fun w' => ∃ u : Later W, w' = u.world) Q rest (a.put o.dst (.agg (hv V)))) : wpQuiet Tryd.prog ops (fun w' => ∃ u : Later W, w' = u.world) Q (o :: rest) a :=
  qlPart hw x ho g 0 hx _ _ V hV hg (fun j hj => by rw [Nat.zero_add]; exact cv_val V M hV j hj) h

theorem store_part (w : World) (g off : Nat) (cs : Array Value) (t : TypeId) (L : List Int) (hL : L.length = 13) (hg : w.heap[g]? = some (.cells cs t (0, 0))) (hs : off + 13 ≤ cs.size) :
    (storeVar 23 ⟨g, off, none⟩ (.agg (hv L))).run Tryd.prog w = .ok () (w.setRow g (cs.toList.take off ++ L.map (Value.int .u8) ++ cs.toList.drop (off + 13)).toArray) := by
  have hst := run_storeCells_at Tryd.prog g off t (L.map (Value.int .u8)) 0 cs w hg (by simp [hL]; omega) (fun v hv => by
    obtain ⟨z, _, rfl⟩ := List.mem_map.1 hv; rfl)
  have hi := info13
  cases hq : Tryd.prog.info? 23 with
  | none => simp [hq] at hi
  | some i =>
    have hs' : i.size = 13 := by simpa [hq] using hi
    rw [Nat.add_zero, List.length_map, hL] at hst
    simp [storeVar, sizeOf, typeInfo, hq, Value.cells, hs', hv, hL, hst]

theorem wl_storePart {ops : Array Oper} {rest : List Oper} {o : Oper} {a : Act} {w : World} {Q : Exit → Act → World → Prop} (hgd : o.guard = none) (x y : Operand) (ho : o.op = .store 23 x y)
    (g off : Nat) (hx : a.eval x = .pointer (some ⟨g, off, none⟩)) (cs : Array Value) (t : TypeId) (L : List Int) (hy : a.eval y = .agg (hv L)) (hL : L.length = 13) (hg : w.heap[g]? = some (.cells cs t (0, 0))) (hs : off + 13 ≤ cs.size)
    (cs' : Array Value) (hcs' : (cs.toList.take off ++ L.map (Value.int .u8) ++ cs.toList.drop (off + 13)).toArray = cs')
    (h : wpList Tryd.prog ops Q rest (a.put o.dst undef) (w.setRow g cs')) : wpList Tryd.prog ops Q (o :: rest) a w :=
  wpList_plain hgd fun _ hK => by
    unfold Oper.wp execOp
    simp only [ho, hx, hy, Instr.storeAt, Instr.sureAddr, Sem.run_bind, Sem.run_pure, Result.andThen_ok, store_part w g off cs t L hL hg hs, hcs']
    exact hK _ _ h
theorem wl_storeM {ops : Array Oper} {rest : List Oper} {o : Oper} {a : Act} {w : World} {Q : Exit → Act → World → Prop} (hgd : o.guard = none) (x y : Operand) (ho : o.op = .store 23 x y)
    (g : Nat) (hx : a.eval x = .pointer (some ⟨g, 13, none⟩)) (V M L : List Int) (hy : a.eval y = .agg (hv L)) (hV : V.length = 13) (hM : M.length = 13) (hL : L.length = 13) (hg : w.heap[g]? = some (.cells (cv V M) 33 (0, 0)))
    (w' : World) (hw' : w.setRow g (cv V L) = w')
    (h : wpList Tryd.prog ops Q rest (a.put o.dst undef) w') : wpList Tryd.prog ops Q (o :: rest) a w :=
  wl_storePart hgd x y ho g 13 hx _ _ L hy hL hg (by rw [cv_size V M hV hM]; omega) (cv V L) (by unfold cv hv; simp [hV, hM]) (by rw [hw']; exact h)
theorem wl_storeV {ops : Array Oper} {rest : List Oper} {o : Oper} {a : Act} {w : World} {Q : Exit → Act → World → Prop} (hgd : o.guard = none) (x y : Operand) (ho : o.op = .store 23 x y)
    (g : Nat) (hx : a.eval x = .pointer (some ⟨g, 0, none⟩)) (V M L : List Int) (hy : a.eval y = .agg (hv L)) (hV : V.length = 13) (hM : M.length = 13) (hL : L.length = 13) (hg : w.heap[g]? = some (.cells (cv V M) 33 (0, 0)))
    (w' : World) (hw' : w.setRow g (cv L M) = w')
    (h : wpList Tryd.prog ops Q rest (a.put o.dst undef) w') : wpList Tryd.prog ops Q (o :: rest) a w :=
  wl_storePart hgd x y ho g 0 hx _ _ L hy hL hg (by rw [cv_size V M hV hM]; omega) (cv L M) (by unfold cv hv; simp [hV]) (by rw [hw']; exact h)

theorem built_of (L : List Int) : Tryd.prog.built 33 [(0, .agg (hv L))] = Tryd.prog.built 33 [(0, .agg (hv L))] := rfl
end Go.Proofs.YtnbklmmampdbfaaDoor
namespace Go.Proofs.YtnbklmmampdbfaaDoor
open Go Go.RowKit
set_option maxRecDepth 20000

theorem all_any (w : World) : Calls Tryd.prog 17 #[] w fun e w' => e = .returned (.agg (cv Z Z)) ∧ Below w.heap.size w w' := by
  go_enter Tryd.func17, Tryd.ntmps17
  go_wp2_with (refine wl_storeC rfl _ _ rfl w.heap.size Z Z rfl (by rw [← zeroC_eq]; rfl) _ (heap_new _ _ _ rfl) rfl Z_byt.1 Z_byt.1 _ (setRow_new _ _ _ _ _ rfl) ?_)
  refine retC (p := 0) rfl rfl w.heap.size rfl Z Z Z_byt.1 Z_byt.1 (heap_new _ _ _ rfl) ⟨rfl, ?_⟩
  exact (Below.refl _ _).alloc (Nat.le_refl _) _

theorem cisBit_yes (i : Int) (w : World) (h0 : 0 ≤ i) (h1 : i < 104) :
    Calls Tryd.prog 104 #[.int .i64 i] w fun e w' => e = .returned (.bool true) ∧ w' = w := by
  go_enter Tryd.func104, Tryd.ntmps104
  go_wp2
  go_ret
  exact ⟨ret_bool (by simp), rfl⟩
theorem cisBit_no (i : Int) (w : World) (h : ¬ (0 ≤ i ∧ i < 104)) :
    Calls Tryd.prog 104 #[.int .i64 i] w fun e w' => e = .returned (.bool false) ∧ w' = w := by
  by_cases h0 : 0 ≤ i
  · have h1 : 104 ≤ i := by omega
    go_enter Tryd.func104, Tryd.ntmps104
    go_wp2
    go_ret
    exact ⟨ret_bool (by simp; omega), rfl⟩
  · go_enter Tryd.func104, Tryd.ntmps104
    go_wp2
    go_ret
    exact ⟨ret_bool (by simp), rfl⟩

/-- A header with a bit as it is told. -/
def setb (L : List Int) (i : Nat) (b : Bool) : List Int := mk fun k => if k = i then b else bt L k
theorem setb_byt (L : List Int) (i : Nat) (b : Bool) : Byt (setb L i b) := mk_byt _
theorem setb_bt (L : List Int) (i : Nat) (b : Bool) (k : Nat) (hk : k < 104) : bt (setb L i b) k = if k = i then b else bt L k := mk_bt _ k hk
theorem setb_same (L : List Int) (hL : Byt L) (i : Nat) (b : Bool) (h : bt L i = b) : setb L i b = L :=
  (mk_eq L hL _ fun k _ => by
    by_cases e : k = i
    · rw [if_pos e, e, h]
    · rw [if_neg e]).symm

theorem hbit_nat (L : List Int) (hL : Byt L) (i : Nat) (hi : i < 104) (w : World) :
    Calls Tryd.prog 94 #[.agg (hv L), .int .i64 (i : Int)] w fun e w' => e = .returned (.bool (bt L i)) ∧ Below w.heap.size w w' := by
  have := bit_any L hL i w
  rwa [bitB_bt L i hi] at this
theorem rbit_nat (L : List Int) (hL : Byt L) (i : Nat) (hi : i < 104) (w : World) :
    Calls Tryd.prog 40 #[.agg (hv L), .int .i64 (i : Int)] w fun e w' => e = .returned (.bool (bt L i)) ∧ Below w.heap.size w w' := by
  have := refBit_any L hL i w
  rwa [bitB_bt L i hi] at this
theorem flip_nat (L : List Int) (hL : Byt L) (i : Nat) (hi : i < 104) (b : Bool) (h : bt L i ≠ b) (w : World) :
    Calls Tryd.prog 109 #[.agg (hv L), .int .i64 (i : Int)] w fun e w' => e = .returned (.agg (hv (setb L i b))) ∧ Below w.heap.size w w' := by
  have := flip_any L hL i w
  rw [flipL_mk L hL i hi] at this
  rwa [show setb L i b = mk fun k => if k = i then !(bt L k) else bt L k from mk_ext _ _ fun k _ => by
    by_cases e : k = i
    · rw [if_pos e, if_pos e, e]; revert h; cases bt L i <;> cases b <;> simp
    · rw [if_neg e, if_neg e]]

set_option maxHeartbeats 1000000 in
theorem set_any (L : List Int) (hL : Byt L) (i : Nat) (hi : i < 104) (b : Bool) (w : World) :
    Calls Tryd.prog 105 #[.agg (hv L), .int .i64 (i : Int), .bool b] w fun e w' => e = .returned (.agg (hv (setb L i b))) ∧ Below w.heap.size w w' := by
  have hl := hL.1
  by_cases h : bt L i = b
  · rw [setb_same L hL i b h]
    have CB : Hid (∀ W, Calls Tryd.prog 94 #[.agg (hv L), .int .i64 (i : Int)] W fun e w' => e = .returned (.bool b) ∧ Below W.heap.size W w') := by
      have := hbit_nat L hL i hi; rwa [h] at this
    clear h
    go_enter Tryd.func105, Tryd.ntmps105
    go_wp2_with (refine wl_load26 rfl _ rfl w.heap.size rfl L (heap_past _ _ _ _ (heap_new _ _ _ rfl)) hl ?_)
    refine (CB.out _).mono ?_
    rintro e w1 ⟨rfl, hb1⟩
    have g1 : w1.heap[w.heap.size]? = some (.cells (hv L) 23 (0, 0)) := by
      rw [hb1.block _ (by simp; omega)]; exact heap_past _ _ _ _ (heap_new _ _ _ rfl)
    have g2 : w1.heap[w.heap.size + 1]? = some (.cells zero26 23 (0, 0)) := by
      rw [hb1.block _ (by simp)]; exact heap_new _ _ _ (by simp)
    have hB1 : Below w.heap.size w w1 := (((Below.refl _ _).alloc (Nat.le_refl _) _).alloc (by simp) _).trans (hb1.mono (by simp; omega))
    clear hb1
    have hn : (b != b) = false := by simp
    go_wp2_with (first
      | (refine wl_load26 rfl _ rfl w.heap.size rfl L g1 hl ?_)
      | (refine wl_store26 rfl _ _ rfl (w.heap.size + 1) L rfl rfl _ g2 rfl hl _ rfl ?_))
    refine ret26 (p := 6) rfl rfl (w.heap.size + 1) rfl L hl (setRow_heap _ _ _ _ _ _ g2) ⟨rfl, ?_⟩
    exact below_setRow hB1 (by omega) _
  · have CB : Hid (∀ W, Calls Tryd.prog 94 #[.agg (hv L), .int .i64 (i : Int)] W fun e w' => e = .returned (.bool (!b)) ∧ Below W.heap.size W w') := by
      have := hbit_nat L hL i hi
      rwa [show bt L i = !b by revert h; cases bt L i <;> cases b <;> simp] at this
    have CF : Hid (∀ W, Calls Tryd.prog 109 #[.agg (hv L), .int .i64 (i : Int)] W fun e w' => e = .returned (.agg (hv (setb L i b))) ∧ Below W.heap.size W w') := flip_nat L hL i hi b h
    have hsl := (setb_byt L i b).1
    have hn : ((!b) != b) = true := by cases b <;> rfl
    clear h
    go_enter Tryd.func105, Tryd.ntmps105
    go_wp2_with (refine wl_load26 rfl _ rfl w.heap.size rfl L (heap_past _ _ _ _ (heap_new _ _ _ rfl)) hl ?_)
    refine (CB.out _).mono ?_
    rintro e w1 ⟨rfl, hb1⟩
    have g1 : w1.heap[w.heap.size]? = some (.cells (hv L) 23 (0, 0)) := by
      rw [hb1.block _ (by simp; omega)]; exact heap_past _ _ _ _ (heap_new _ _ _ rfl)
    have g2 : w1.heap[w.heap.size + 1]? = some (.cells zero26 23 (0, 0)) := by
      rw [hb1.block _ (by simp)]; exact heap_new _ _ _ (by simp)
    have hB1 : Below w.heap.size w w1 := (((Below.refl _ _).alloc (Nat.le_refl _) _).alloc (by simp) _).trans (hb1.mono (by simp; omega))
    have hz1 := hb1.size
    simp only [World.size_alloc] at hz1
    clear hb1
    go_wp2_with (first
      | (refine wl_load26 rfl _ rfl w.heap.size rfl L g1 hl ?_))
    refine (CF.out _).mono ?_
    rintro e w2 ⟨rfl, hb2⟩
    have g3 : w2.heap[w.heap.size + 1]? = some (.cells zero26 23 (0, 0)) := by
      rw [hb2.block _ (by omega)]; exact g2
    have hB2 : Below w.heap.size w w2 := hB1.trans (hb2.mono hB1.size)
    clear hb2
    go_wp2_with (first
      | (refine wl_store26 rfl _ _ rfl (w.heap.size + 1) (setb L i b) rfl rfl _ g3 rfl hsl _ rfl ?_))
    refine ret26 (p := 6) rfl rfl (w.heap.size + 1) rfl _ hsl (setRow_heap _ _ _ _ _ _ g3) ⟨rfl, ?_⟩
    exact below_setRow hB2 (by omega) _
end Go.Proofs.YtnbklmmampdbfaaDoor
namespace Go.Proofs.YtnbklmmampdbfaaDoor
open Go Go.RowKit
set_option maxRecDepth 20000

set_option maxHeartbeats 1000000 in
theorem fix_no (V M : List Int) (i : Int) (b : Bool) (hi : ¬ (0 ≤ i ∧ i < 104)) (w : World) :
    Calls Tryd.prog 93 #[.agg (cv V M), .int .i64 i, .bool b] w fun e w' => e = .returned (.tuple #[.agg (cv Z Z), .int .i64 3]) ∧ Below w.heap.size w w' := by
  go_enter Tryd.func93, Tryd.ntmps93
  have HI : Hid (¬ (0 ≤ i ∧ i < 104)) := hi
  clear hi
  go_wp2_with (first
    | (go_at_call 104; refine (cisBit_no _ _ HI.out).mono ?_; rintro e w' ⟨rfl, rfl⟩)
    | (refine wl_storeC rfl _ _ rfl (w.heap.size + 1) Z Z rfl (by rw [← zeroC_eq]; rfl) _ (heap_new _ _ _ (by simp)) rfl Z_byt.1 Z_byt.1 _ (setRow_new _ _ _ _ _ (by simp)) ?_))
  refine retCe (p := 6) (u := 7) rfl rfl (w.heap.size + 1) rfl Z Z Z_byt.1 Z_byt.1 (heap_new _ _ _ (by simp)) _ rfl ⟨rfl, ?_⟩
  exact ((Below.refl _ _).alloc (Nat.le_refl _) _).alloc (by simp) _

def fixV (V M : List Int) (i : Nat) (b : Bool) : List Int := setb (can V M) i b
def fixM (M : List Int) (i : Nat) : List Int := setb M i true

set_option maxHeartbeats 2000000 in
theorem fix_in (V M : List Int) (hV : Byt V) (hM : Byt M) (i : Nat) (b : Bool) (hi : i < 104) (w : World) :
    Calls Tryd.prog 93 #[.agg (cv V M), .int .i64 (i : Int), .bool b] w fun e w' => e = .returned (.tuple #[.agg (cv (fixV V M i b) (fixM M i)), .int .i64 0]) ∧ Below w.heap.size w w' := by
  have hVl := hV.1
  have hMl := hM.1
  have hCl := (can_byt V M).1
  have hFl : (fixM M i).length = 13 := (setb_byt M i true).1
  have hGl : (fixV V M i b).length = 13 := (setb_byt _ i b).1
  have CC : Hid (∀ W, Calls Tryd.prog 37 #[.agg (cv V M)] W fun e w' => e = .returned (.agg (cv (can V M) M)) ∧ Below W.heap.size W w') := canon_any V M hV hM
  have C1 : Hid (∀ W, Calls Tryd.prog 105 #[.agg (hv M), .int .i64 (i : Int), .bool true] W fun e w' => e = .returned (.agg (hv (fixM M i))) ∧ Below W.heap.size W w') := set_any M hM i hi true
  have C2 : Hid (∀ W, Calls Tryd.prog 105 #[.agg (hv (can V M)), .int .i64 (i : Int), .bool b] W fun e w' => e = .returned (.agg (hv (fixV V M i b))) ∧ Below W.heap.size W w') := set_any _ (can_byt V M) i hi b
  clear hV hM
  go_enter Tryd.func93, Tryd.ntmps93
  have g0 : ((w.alloc (.cells (cv V M) 33)).alloc (.cells zeroC 33)).heap[w.heap.size]? = some (.cells (cv V M) 33 (0, 0)) := heap_past _ _ _ _ (heap_new _ _ _ rfl)
  have g1 : ((w.alloc (.cells (cv V M) 33)).alloc (.cells zeroC 33)).heap[w.heap.size + 1]? = some (.cells zeroC 33 (0, 0)) := heap_new _ _ _ (by simp)
  have hb : Below w.heap.size w ((w.alloc (.cells (cv V M) 33)).alloc (.cells zeroC 33)) := ((Below.refl _ _).alloc (Nat.le_refl _) _).alloc (by simp) _
  have hsz : w.heap.size + 2 ≤ ((w.alloc (.cells (cv V M) 33)).alloc (.cells zeroC 33)).heap.size := by simp
  go_wp2_with (first
    | (go_at_call 104; refine (cisBit_yes _ _ (by omega) (by omega)).mono ?_; rintro e w' ⟨rfl, rfl⟩)
    | (refine wl_loadC rfl _ rfl w.heap.size rfl V M g0 hVl hMl ?_))
  refine (CC.out _).mono ?_
  rintro e w1 ⟨rfl, hb1⟩
  have k0 : w1.heap[w.heap.size]? = some (.cells (cv V M) 33 (0, 0)) := by rw [hb1.block _ (by simp; omega)]; exact g0
  have k1 : w1.heap[w.heap.size + 1]? = some (.cells zeroC 33 (0, 0)) := by rw [hb1.block _ (by simp)]; exact g1
  have hz1 : w.heap.size + 2 ≤ w1.heap.size := Nat.le_trans hsz hb1.size
  have hB1 := hb.trans (hb1.mono hb.size)
  clear g0 g1 hb hsz hb1 CC
  have l0 : (w1.setRow w.heap.size (cv (can V M) M)).heap[w.heap.size]? = some (.cells (cv (can V M) M) 33 (0, 0)) := setRow_heap _ _ _ _ _ _ k0
  have l1 : (w1.setRow w.heap.size (cv (can V M) M)).heap[w.heap.size + 1]? = some (.cells zeroC 33 (0, 0)) := (setRow_other _ _ _ _ (by omega)).trans k1
  go_wp2_with (first
    | (refine wl_storeC rfl _ _ rfl w.heap.size (can V M) M rfl rfl _ k0 (cv_size _ _ hVl hMl) hCl hMl _ rfl ?_)
    | (refine wl_loadM rfl _ rfl w.heap.size rfl (can V M) M l0 hCl hMl ?_))
  refine (C1.out _).mono ?_
  rintro e w2 ⟨rfl, hb2⟩
  have m0 : w2.heap[w.heap.size]? = some (.cells (cv (can V M) M) 33 (0, 0)) := by rw [hb2.block _ (by simp; omega)]; exact l0
  have m1 : w2.heap[w.heap.size + 1]? = some (.cells zeroC 33 (0, 0)) := by rw [hb2.block _ (by simp; omega)]; exact l1
  have hz2 : w.heap.size + 2 ≤ w2.heap.size := Nat.le_trans (by simpa using hz1) hb2.size
  have hB2 := (below_setRow hB1 (Nat.le_refl _) (cv (can V M) M)).trans (hb2.mono (by simpa using hB1.size))
  clear l0 l1 k0 k1 hB1 hb2 hz1 C1
  have n0 : (w2.setRow w.heap.size (cv (can V M) (fixM M i))).heap[w.heap.size]? = some (.cells (cv (can V M) (fixM M i)) 33 (0, 0)) := setRow_heap _ _ _ _ _ _ m0
  have n1 : (w2.setRow w.heap.size (cv (can V M) (fixM M i))).heap[w.heap.size + 1]? = some (.cells zeroC 33 (0, 0)) := (setRow_other _ _ _ _ (by omega)).trans m1
  go_wp2_with (first
    | (refine wl_storeM rfl _ _ rfl w.heap.size rfl (can V M) M (fixM M i) rfl hCl hMl hFl m0 _ rfl ?_)
    | (refine wl_loadV rfl _ rfl w.heap.size rfl (can V M) (fixM M i) n0 hCl ?_))
  refine (C2.out _).mono ?_
  rintro e w3 ⟨rfl, hb3⟩
  have p0 : w3.heap[w.heap.size]? = some (.cells (cv (can V M) (fixM M i)) 33 (0, 0)) := by rw [hb3.block _ (by simp; omega)]; exact n0
  have p1 : w3.heap[w.heap.size + 1]? = some (.cells zeroC 33 (0, 0)) := by rw [hb3.block _ (by simp; omega)]; exact n1
  have hB3 := (below_setRow hB2 (Nat.le_refl _) (cv (can V M) (fixM M i))).trans (hb3.mono (by simpa using hB2.size))
  clear m0 m1 n0 n1 hB2 hb3 hz2 C2
  have q0 : (w3.setRow w.heap.size (cv (fixV V M i b) (fixM M i))).heap[w.heap.size]? = some (.cells (cv (fixV V M i b) (fixM M i)) 33 (0, 0)) := setRow_heap _ _ _ _ _ _ p0
  have q1 : (w3.setRow w.heap.size (cv (fixV V M i b) (fixM M i))).heap[w.heap.size + 1]? = some (.cells zeroC 33 (0, 0)) := (setRow_other _ _ _ _ (by omega)).trans p1
  go_wp2_with (first
    | (refine wl_storeV rfl _ _ rfl w.heap.size rfl (can V M) (fixM M i) (fixV V M i b) rfl hCl hFl hGl p0 _ rfl ?_)
    | (refine wl_loadC rfl _ rfl w.heap.size rfl (fixV V M i b) (fixM M i) q0 hGl hFl ?_)
    | (refine wl_storeC rfl _ _ rfl (w.heap.size + 1) (fixV V M i b) (fixM M i) rfl rfl _ q1 rfl hGl hFl _ rfl ?_))
  refine retCe (p := 6) (u := 7) rfl rfl (w.heap.size + 1) rfl _ _ hGl hFl (setRow_heap _ _ _ _ _ _ q1) _ rfl ⟨rfl, ?_⟩
  exact below_setRow (below_setRow hB3 (Nat.le_refl _) _) (by omega) _
end Go.Proofs.YtnbklmmampdbfaaDoor
namespace Go.Proofs.YtnbklmmampdbfaaDoor
open Go Go.RowKit
set_option maxRecDepth 20000

/-- Two reads, then two stores; the second read may come behind the first store. -/
def twoB (ops : Array Oper) (n : Nat) : Bool :=
  let l := Array.replicate ops.size false
  decide (Region.ready .any ops l = [0, 1]) && decide (Region.ready .any ops (l.setIfInBounds 0 true) = [1, 2]) && decide (Region.ready .any ops (l.setIfInBounds 1 true) = [0]) &&
  decide (Region.ready .any ops ((l.setIfInBounds 0 true).setIfInBounds 1 true) = [2]) && decide (Region.ready .any ops ((l.setIfInBounds 0 true).setIfInBounds 2 true) = [1]) &&
  Region.seqB .any ops n 3 (((l.setIfInBounds 0 true).setIfInBounds 1 true).setIfInBounds 2 true) && decide (ops.size = n + 3)

theorem any_step {P : Program} {md : Region.Mode} {ops : Array Oper} {Q : Exit → Act → World → Prop} {fuel : Nat} {listed : Array Bool} {a : Act} {w : World} (rs : List Nat) (hr : Region.ready md ops listed = rs) (hne : rs ≠ [])
    (h : ∀ i ∈ rs, wpOp P ops Q i (wpAny P md ops Q fuel (listed.setIfInBounds i true)) a w) : wpAny P md ops Q (fuel + 1) listed a w :=
  ⟨fun h0 => absurd (hr.symm.trans h0) hne, fun i hi => h i (hr ▸ hi)⟩
theorem wpOp_value {P : Program} {ops : Array Oper} {Q : Exit → Act → World → Prop} {i : Nat} {o : Oper} {K : Act → World → Prop} {a : Act} {w w' : World} {v : Value} (hi : ops[i]? = some o) (hg : o.guard = none) (hr : (execOp a.eval o).run P w = .ok (.value v) w') (h : K (a.put o.dst v) w') : wpOp P ops Q i K a w := by
  have hw : Region.wanted o (yielded ops a.tmps) = true := by unfold Region.wanted; rw [hg]
  unfold Go.wpOp
  simp only [hi, hw, if_true]
  left
  unfold Oper.wp
  rw [hr]
  exact h
theorem wpOp_skip {P : Program} {ops : Array Oper} {Q : Exit → Act → World → Prop} {i : Nat} {o : Oper} {K : Act → World → Prop} {a : Act} {w w' : World} (hi : ops[i]? = some o) (hg : o.guard = none) (hr : (execOp a.eval o).run P w = .ok .skip w') (h : K (a.put o.dst undef) w') : wpOp P ops Q i K a w := by
  have hw : Region.wanted o (yielded ops a.tmps) = true := by unfold Region.wanted; rw [hg]
  unfold Go.wpOp
  simp only [hi, hw, if_true]
  left
  unfold Oper.wp
  rw [hr]
  exact h

theorem wp_region_two {P : Program} {id : Nat} {Q : Exit → Act → World → Prop} {a : Act} {w w' : World} {o0 o1 o2 : Oper} {rest : List Oper} {v0 v1 : Value} (hm : P.follows .mixedOrders = true)
    (hB : twoB (o0 :: o1 :: o2 :: rest).toArray rest.length = true) (q0 : o0.guard = none) (q1 : o1.guard = none) (q2 : o2.guard = none) (q3 : o2.dst = none)
    (e0 : (execOp a.eval o0).run P w.drew = .ok (.value v0) w.drew) (e0' : (execOp (a.put o1.dst v1).eval o0).run P w.drew = .ok (.value v0) w.drew)
    (e1 : (execOp a.eval o1).run P w.drew = .ok (.value v1) w.drew) (e1a : (execOp (a.put o0.dst v0).eval o1).run P w.drew = .ok (.value v1) w.drew) (e1b : (execOp (a.put o0.dst v0).eval o1).run P w' = .ok (.value v1) w')
    (e2 : (execOp (a.put o0.dst v0).eval o2).run P w.drew = .ok .skip w') (e2a : (execOp ((a.put o0.dst v0).put o1.dst v1).eval o2).run P w.drew = .ok .skip w')
    (comm : (a.put o1.dst v1).put o0.dst v0 = (a.put o0.dst v0).put o1.dst v1)
    (h : wpList P (o0 :: o1 :: o2 :: rest).toArray Q rest ((a.put o0.dst v0).put o1.dst v1) w') : (Code.region id (o0 :: o1 :: o2 :: rest).toArray true).wp P Q a w := by
  simp only [twoB, Bool.and_eq_true, decide_eq_true_eq] at hB
  obtain ⟨⟨⟨⟨⟨⟨r0, r1⟩, r2⟩, r3⟩, r4⟩, hq⟩, hsz⟩ := hB
  have pn : ∀ (b : Act) (v : Value), b.put none v = b := fun b v => rfl
  have fin : wpAny P .any (o0 :: o1 :: o2 :: rest).toArray Q rest.length ((((Array.replicate (o0 :: o1 :: o2 :: rest).toArray.size false).setIfInBounds 0 true).setIfInBounds 1 true).setIfInBounds 2 true) ((a.put o0.dst v0).put o1.dst v1) w' :=
    wpAny_of_seq rest 3 _ _ w' (fun j => by simp [Nat.add_comm 3 j]) hq h
  refine wp_region_any hm ?_
  rw [hsz]
  refine any_step [0, 1] r0 (by simp) fun i hi => ?_
  simp only [List.mem_cons, List.not_mem_nil, or_false] at hi
  rcases hi with rfl | rfl
  · refine wpOp_value (o := o0) (by simp) q0 e0 (any_step [1, 2] r1 (by simp) fun i hi => ?_)
    simp only [List.mem_cons, List.not_mem_nil, or_false] at hi
    rcases hi with rfl | rfl
    · refine wpOp_value (o := o1) (by simp) q1 e1a (any_step [2] r3 (by simp) fun i hi => ?_)
      simp only [List.mem_cons, List.not_mem_nil, or_false] at hi
      subst hi
      refine wpOp_skip (o := o2) (by simp) q2 e2a ?_
      rw [q3, pn]
      exact fin
    · refine wpOp_skip (o := o2) (by simp) q2 e2 ?_
      rw [q3, pn]
      refine any_step [1] r4 (by simp) fun i hi => ?_
      simp only [List.mem_cons, List.not_mem_nil, or_false] at hi
      subst hi
      refine wpOp_value (o := o1) (by simp) q1 e1b ?_
      rw [Array.setIfInBounds_comm _ _ (by decide : (2 : Nat) ≠ 1)]
      exact fin
  · refine wpOp_value (o := o1) (by simp) q1 e1 (any_step [0] r2 (by simp) fun i hi => ?_)
    simp only [List.mem_cons, List.not_mem_nil, or_false] at hi
    subst hi
    refine wpOp_value (o := o0) (by simp) q0 e0' ?_
    rw [comm, Array.setIfInBounds_comm _ _ (by decide : (1 : Nat) ≠ 0)]
    refine any_step [2] r3 (by simp) fun i hi => ?_
    simp only [List.mem_cons, List.not_mem_nil, or_false] at hi
    subst hi
    refine wpOp_skip (o := o2) (by simp) q2 e2a ?_
    rw [q3, pn]
    exact fin

theorem run_store_row (a : Act) (o : Oper) (w : World) (ty : TypeId) (x y : Operand) (ho : o.op = .store ty x y) (g : Nat) (cells : Array Value) (hx : a.eval x = .pointer (some ⟨g, 0, none⟩)) (hy : a.eval y = .agg cells) (t : TypeId) (old : Array Value) (hg : w.heap[g]? = some (.cells old t (0, 0)))
    (hi : (Tryd.prog.info? ty).map (·.size) = some cells.size) (hold : old.size = cells.size) (h1 : cells.all (·.oneCell') = true) : (execOp a.eval o).run Tryd.prog w = .ok .skip (w.setRow g cells) := by
  unfold execOp
  simp only [ho, hx, hy, Instr.storeAt, Instr.sureAddr, Sem.run_bind, Sem.run_pure, Result.andThen_ok, run_storeVar_row w g t ty old cells hg hi hold h1]
theorem run_loadC (a : Act) (o : Oper) (w : World) (x : Operand) (ho : o.op = .load 33 x) (g : Nat) (hx : a.eval x = .pointer (some ⟨g, 0, none⟩)) (V M : List Int) (hg : w.heap[g]? = some (.cells (cv V M) 33 (0, 0))) (hV : V.length = 13) (hM : M.length = 13) : (execOp a.eval o).run Tryd.prog w = .ok (.value (.agg (cv V M))) w :=
  by
  unfold execOp
  simp only [ho, hx, Instr.loadAt, Instr.sureAddr, Sem.run_bind, Sem.run_pure, Result.andThen_ok, run_loadVar_row w g _ _ (cv V M) (0, 0) _ hg Tryd.underlying33 rfl (sizeC V M hV hM)]
theorem run_loadH (a : Act) (o : Oper) (w : World) (x : Operand) (ho : o.op = .load 23 x) (g : Nat) (hx : a.eval x = .pointer (some ⟨g, 0, none⟩)) (L : List Int) (hg : w.heap[g]? = some (.cells (hv L) 23 (0, 0))) (hL : L.length = 13) : (execOp a.eval o).run Tryd.prog w = .ok (.value (.agg (hv L))) w :=
  by
  unfold execOp
  simp only [ho, hx, Instr.loadAt, Instr.sureAddr, Sem.run_bind, Sem.run_pure, Result.andThen_ok, run_loadVar_row w g _ _ (hv L) (0, 0) _ hg Tryd.underlying23 rfl (size26 L hL)]
theorem run_storeC (a : Act) (o : Oper) (w : World) (x y : Operand) (ho : o.op = .store 33 x y) (g : Nat) (V M : List Int) (hx : a.eval x = .pointer (some ⟨g, 0, none⟩)) (hy : a.eval y = .agg (cv V M)) (old : Array Value) (hg : w.heap[g]? = some (.cells old 33 (0, 0))) (hold : old.size = 26) (hV : V.length = 13) (hM : M.length = 13) : (execOp a.eval o).run Tryd.prog w = .ok .skip (w.setRow g (cv V M)) :=
  run_store_row a o w _ x y ho g _ hx hy _ old hg (sizeC V M hV hM) (by rw [cv_size V M hV hM, hold]) (cv_one V M)
theorem run_storeH (a : Act) (o : Oper) (w : World) (x y : Operand) (ho : o.op = .store 23 x y) (g : Nat) (L : List Int) (hx : a.eval x = .pointer (some ⟨g, 0, none⟩)) (hy : a.eval y = .agg (hv L)) (old : Array Value) (hg : w.heap[g]? = some (.cells old 23 (0, 0))) (hold : old.size = 13) (hL : L.length = 13) : (execOp a.eval o).run Tryd.prog w = .ok .skip (w.setRow g (hv L)) :=
  run_store_row a o w _ x y ho g _ hx hy _ old hg (size26 L hL) (by rw [hv_size, hold, hL]) (hv_one L)
end Go.Proofs.YtnbklmmampdbfaaDoor
namespace Go.Proofs.YtnbklmmampdbfaaDoor
open Go Go.RowKit
set_option maxRecDepth 20000

/-- The end of a function whose results are two cubes in memory, and a plain one. -/
theorem retCCe {fn : Func} {R : Ending → World → Prop} {a : Act} {w : World} {p q u : Tmp} (hr : fn.results = #[.cell p 33, .cell q 33, .tmp u]) (hd : a.defers = []) (g g' : Nat) (hp : a.tmps.getD p undef = .pointer (some ⟨g, 0, none⟩)) (hq : a.tmps.getD q undef = .pointer (some ⟨g', 0, none⟩)) (V M V' M' : List Int) (hV : V.length = 13) (hM : M.length = 13) (hV' : V'.length = 13) (hM' : M'.length = 13)
    (hg : w.heap[g]? = some (.cells (cv V M) 33 (0, 0))) (hg' : w.heap[g']? = some (.cells (cv V' M') 33 (0, 0))) (v : Value) (hu : a.tmps.getD u undef = v) (h : R (.returned (.tuple #[.agg (cv V M), .agg (cv V' M'), v])) w) : bodyPost Tryd.prog fn R .ret a w := by
  refine bodyPost_ret (v := .tuple #[.agg (cv V M), .agg (cv V' M'), v]) ?_ hd h
  simp only [results, hr]
  have hp' : a.tmps[p]?.getD undef = .pointer (some ⟨g, 0, none⟩) := by simpa using hp
  have hq' : a.tmps[q]?.getD undef = .pointer (some ⟨g', 0, none⟩) := by simpa using hq
  have hu' : a.tmps[u]?.getD undef = v := by simpa using hu
  simp [Sem.run_bind, hp', hq', hu', asAddr, run_loadVar_row w g 33 33 (cv V M) (0, 0) _ hg Tryd.underlying33 rfl (sizeC V M hV hM), run_loadVar_row w g' 33 33 (cv V' M') (0, 0) _ hg' Tryd.underlying33 rfl (sizeC V' M' hV' hM')]

end Go.Proofs.YtnbklmmampdbfaaDoor
namespace Go.Proofs.YtnbklmmampdbfaaDoor
open Go Go.RowKit
set_option maxRecDepth 20000

/-- How many bits of a byte are one. -/
def ones (x : Int) : Int := ((List.range 8).filter fun j => yb x j).length

theorem ones_fin : ∀ n : Fin 256, ones (n.val : Int) = (Lib.onesCount n.val : Int) := by decide +kernel
theorem ones_bd : ∀ n : Fin 256, 0 ≤ ones (n.val : Int) ∧ ones (n.val : Int) ≤ 8 := by decide +kernel
theorem ones_le (x : Int) (h0 : 0 ≤ x) (h1 : x < 256) : 0 ≤ ones x ∧ ones x ≤ 8 := by
  have := ones_bd ⟨x.toNat, by omega⟩
  simpa only [Int.toNat_of_nonneg h0] using this

theorem run_idx (L : List Int) (hL : L.length = 13) (k : Nat) (hk : k < 13) (w : World) : (Instr.index 23 (.agg (hv L)) (.int .i64 (k : Int))).run Tryd.prog w = .ok (.int .u8 (L.getD k 0)) w := by
  have hx := hv_at L hL k hk
  have hz : ∀ w, (sizeOf 5).run Tryd.prog w = .ok 1 w := fun w => by kernel_rfl
  simp [Instr.index, run_underlying Tryd.underlying23, asIntOf, go_sem, hz, hx, hk]

/-- How many of the first k bytes' bits are one. -/
def onesN (M : List Int) : Nat → Int
  | 0 => 0
  | k + 1 => onesN M k + ones (M.getD k 0)
theorem onesN_bd (M : List Int) (hM : Byt M) : ∀ k, 0 ≤ onesN M k ∧ onesN M k ≤ 8 * k
  | 0 => by simp [onesN]
  | k + 1 => by
    have := onesN_bd M hM k
    have := ones_le (M.getD k 0) (hM.2 k).1 (hM.2 k).2
    simp only [onesN]
    omega
/-- How many bits of a cube are free. -/
def free (M : List Int) : Int := ((List.range 104).filter fun i => !(bt M i)).length

theorem filter_not_len {α : Type} (p : α → Bool) (l : List α) : (l.filter fun i => !(p i)).length + (l.filter p).length = l.length := by
  induction l with
  | nil => rfl
  | cons a l ih => cases h : p a <;> simp [h] <;> omega

theorem range_add_filter (p : Nat → Bool) (n m : Nat) : ((List.range (n + m)).filter p).length = ((List.range n).filter p).length + ((List.range m).filter fun j => p (n + j)).length := by
  rw [List.range_add, List.filter_append, List.length_append, List.filter_map, List.length_map]
  rfl

theorem onesN_eq (M : List Int) : ∀ k, onesN M k = (((List.range (8 * k)).filter fun i => bt M i).length : Int)
  | 0 => rfl
  | k + 1 => by
    rw [show 8 * (k + 1) = 8 * k + 8 by omega, range_add_filter, onesN, onesN_eq M k]
    have : (fun j => bt M (8 * k + j)) = fun j => yb (M.getD ((8 * k + j) / 8) 0) ((8 * k + j) % 8) := rfl
    have e : ((List.range 8).filter fun j => bt M (8 * k + j)) = ((List.range 8).filter fun j => yb (M.getD k 0) j) := by
      apply List.filter_congr
      intro j hj
      have hj' : j < 8 := List.mem_range.1 hj
      unfold bt
      rw [show (8 * k + j) / 8 = k by omega, show (8 * k + j) % 8 = j by omega]
    rw [e]
    unfold ones
    push_cast
    rfl
theorem free_eq (M : List Int) : 104 - onesN M 13 = free M := by
  rw [onesN_eq, show 8 * 13 = 104 from rfl]
  unfold free
  have := filter_not_len (fun i => bt M i) (List.range 104)
  rw [List.length_range] at this
  omega

end Go.Proofs.YtnbklmmampdbfaaDoor
namespace Go.Proofs.YtnbklmmampdbfaaDoor
open Go Go.RowKit
set_option maxRecDepth 20000

/-- The letter of a bit. -/
def letter (V M : List Int) (i : Nat) : UInt8 := if bt M i then (if bt V i then 49 else 48) else 42
def txt (V M : List Int) : List UInt8 := (List.range 104).map (letter V M)

/-- Bytes as cells. -/
def bv (L : List UInt8) : Array Value := (L.map fun b => Value.int .u8 (b.toNat : Int)).toArray

theorem bv_size (L : List UInt8) : (bv L).size = L.length := by simp [bv]
theorem bv_at (L : List UInt8) (k : Nat) (hk : k < L.length) : (bv L)[k]? = some (.int .u8 ((L.getD k 0).toNat : Int)) := by
  unfold bv
  simp [List.getElem?_eq_getElem hk, List.getD]
theorem bv_set (L : List UInt8) (k : Nat) (b : UInt8) : (bv L).setIfInBounds k (.int .u8 (b.toNat : Int)) = bv (L.set k b) := by
  unfold bv
  rw [List.setIfInBounds_toArray, ← List.map_set]
theorem bset_getD (L : List UInt8) (j k : Nat) (v : UInt8) (hj : j < L.length) : (L.set j v).getD k 0 = if j = k then v else L.getD k 0 := by
  simp only [List.getD, List.getElem?_set]
  by_cases h : j = k
  · subst h; simp [hj]
  · simp [h]

theorem text_step (V M : List Int) (L : List UInt8) (k : Nat) (hL : L.length = 104) (hk : k < 104) (h : ∀ j, j < k → L.getD j 0 = letter V M j) (b : UInt8) (hb : b = letter V M k) : ∀ j, j < k + 1 → (L.set k b).getD j 0 = letter V M j := fun j hj => by
  rw [bset_getD _ _ _ _ (by omega)]
  by_cases e : k = j
  · subst e; rw [if_pos rfl, hb]
  · rw [if_neg e]; exact h j (by omega)

end Go.Proofs.YtnbklmmampdbfaaDoor
namespace Go.Proofs.YtnbklmmampdbfaaDoor
open Go Go.RowKit
set_option maxRecDepth 20000

theorem fold_get (off : Nat) : ∀ (xs : List Value) (n : Nat) (cells : Array Value) (k : Nat), off + n + xs.length ≤ cells.size →
    ((xs.zipIdx n).foldl (fun cs (x : Value × Nat) => cs.setIfInBounds (off + x.2) x.1) cells)[k]? = if off + n ≤ k ∧ k < off + n + xs.length then xs[k - (off + n)]? else cells[k]?
  | [], n, cells, k, _ => by
    simp only [List.zipIdx_nil, List.foldl_nil, List.length_nil, Nat.add_zero]
    rw [if_neg (by omega)]
  | x :: xs, n, cells, k, h => by
    simp only [List.length_cons] at h
    rw [List.zipIdx_cons, List.foldl_cons, fold_get off xs (n + 1) _ k (by simp; omega)]
    simp only [List.length_cons]
    by_cases h1 : off + (n + 1) ≤ k ∧ k < off + (n + 1) + xs.length
    · rw [if_pos h1, if_pos (by omega), show k - (off + n) = (k - (off + (n + 1))) + 1 by omega, List.getElem?_cons_succ]
    · rw [if_neg h1]
      by_cases h2 : k = off + n
      · subst h2
        rw [if_pos (by omega), Nat.sub_self, List.getElem?_cons_zero, Array.getElem?_setIfInBounds_self_of_lt (by omega)]
      · rw [if_neg (by omega), Array.getElem?_setIfInBounds_ne (by omega)]

theorem fold_all (xs cells : Array Value) (h : xs.size = cells.size) : xs.zipIdx.foldl (fun cs (x : Value × Nat) => cs.setIfInBounds (0 + x.2) x.1) cells = xs := by
  have e : xs.zipIdx.foldl (fun cs (x : Value × Nat) => cs.setIfInBounds (0 + x.2) x.1) cells = (xs.toList.zipIdx 0).foldl (fun cs (x : Value × Nat) => cs.setIfInBounds (0 + x.2) x.1) cells := by
    rw [← Array.foldl_toList]; simp
  rw [e]
  apply Array.ext_getElem?
  intro k
  rw [fold_get 0 xs.toList 0 cells k (by simp; omega)]
  by_cases hk : k < xs.size
  · rw [if_pos (by simp; omega)]; simp
  · rw [if_neg (by simp; omega), Array.getElem?_eq_none (by omega), Array.getElem?_eq_none (by omega)]

theorem infoC : ∃ i, Tryd.prog.info? 33 = some i ∧ i.zero = some (.agg zeroC) ∧ i.size = 26 ∧ i.bytes = 26 := by
  cases h : Tryd.prog.info? 33 with
  | none => exact absurd (show (Tryd.prog.info? 33).isSome = true by kernel_rfl) (by rw [h]; simp)
  | some i =>
    have h1 : (Tryd.prog.info? 33).map (fun i => (i.zero, i.size, i.bytes)) = some (some (.agg zeroC), 26, 26) := by kernel_rfl
    rw [h] at h1
    simp only [Option.map_some, Option.some.injEq, Prod.mk.injEq] at h1
    exact ⟨i, rfl, h1.1, h1.2.1, h1.2.2⟩

/-- A slice of one cube. -/
theorem wl_build1 {ops : Array Oper} {rest : List Oper} {o : Oper} {a : Act} {w : World} {Q : Exit → Act → World → Prop} (hg : o.guard = none) (x : Operand) (ho : o.op = .buildSlice 78 1 #[(0, x)]) (V M : List Int) (hV : V.length = 13) (hM : M.length = 13) (hx : a.eval x = .agg (cv V M))
    (h : wpList Tryd.prog ops Q rest (a.put o.dst (.slice (some ⟨w.heap.size, 0, none⟩) 1 1)) (w.alloc (.cells (cv V M) 33))) : wpList Tryd.prog ops Q (o :: rest) a w := by
  obtain ⟨ie, hie, hz, hs, _⟩ := infoC
  refine wpList_buildSlice hg 78 33 1 _ ho (cv V M) ie (.agg zeroC) Tryd.underlying78 hie hz (by rw [hs]; decide) (by rw [hs]; decide) ?_ h
  have hsz := cv_size V M hV hM
  simp only [List.map_toArray, List.map_cons, List.map_nil, hx, Instr.fill, hs, Nat.zero_mul, Value.cells, hsz]
  rw [if_neg (by simp)]
  congr 1
  exact fold_all _ _ (by rw [hsz]; simp)

/-- The cells of a list of cubes. -/
def ccells (C : List (List Int × List Int)) : List Value := C.flatMap fun c => (cv c.1 c.2).toList
theorem ccells_append (C D : List (List Int × List Int)) : ccells (C ++ D) = ccells C ++ ccells D := by simp [ccells]
theorem ccells_one (V M : List Int) : ccells [(V, M)] = (cv V M).toList := by simp [ccells]

theorem cells_new (w : World) (cs : Array Value) (t : TypeId) : ∀ j u, cs.toList[j]? = some u → (w.alloc (.cells cs t)).cell? ((⟨w.heap.size, 0, none⟩ : Addr).add j) = some u := fun j u hu => by
  have hadd : (⟨w.heap.size, 0, none⟩ : Addr).add j = ⟨w.heap.size, j, none⟩ := by unfold Addr.add; split <;> simp_all
  rw [hadd, cell_of_row _ _ _ _ _ _ (heap_new w _ _ rfl)]
  simpa using hu

theorem own_below {w w' : World} {B : Nat} {e : TypeId} {s : Nat} {v : Value} {n : Nat} {xs : List Value} (h : w.ownsRow B e s v n xs) (hb : Below w.heap.size w w') : w'.ownsRow B e s v n xs := by
  obtain ⟨h1, h2 | ⟨g, cap, cur, rfl, hB, hcur, h3⟩⟩ := h
  · exact ⟨h1, .inl h2⟩
  · exact ⟨h1, .inr ⟨g, cap, cur, rfl, hB, (hb.block g (Array.getElem?_eq_some_iff.1 hcur).1).trans hcur, h3⟩⟩
theorem own_setRow {w : World} {B : Nat} {e : TypeId} {s : Nat} {v : Value} {n : Nat} {xs : List Value} (h : w.ownsRow B e s v n xs) (g : Nat) (hg : g < B) (cs : Array Value) : (w.setRow g cs).ownsRow B e s v n xs := by
  obtain ⟨h1, h2 | ⟨g', cap, cur, rfl, hB, hcur, h3⟩⟩ := h
  · exact ⟨h1, .inl h2⟩
  · exact ⟨h1, .inr ⟨g', cap, cur, rfl, hB, (setRow_other _ _ _ _ (by omega)).trans hcur, h3⟩⟩
theorem own_base {w : World} {B B' : Nat} {e : TypeId} {s : Nat} {v : Value} {n : Nat} {xs : List Value} (h : w.ownsRow B e s v n xs) (hB' : B' ≤ B) : w.ownsRow B' e s v n xs := by
  obtain ⟨h1, h2 | ⟨g', cap, cur, rfl, hB, h3⟩⟩ := h
  · exact ⟨h1, .inl h2⟩
  · exact ⟨h1, .inr ⟨g', cap, cur, rfl, by omega, h3⟩⟩
end Go.Proofs.YtnbklmmampdbfaaDoor
namespace Go.Proofs.YtnbklmmampdbfaaDoor
open Go Go.RowKit
set_option maxRecDepth 20000

/-- What the loop of Minus lays, from a bit on. -/
def mGo (bV bM : List Int) : Nat → Nat → List Int → List Int → List (List Int × List Int)
  | 0, _, _, _ => []
  | f + 1, i, V, M => if (V == bV && M == bM) = true then [] else if bt M i = true ∨ bt bM i = false then mGo bV bM f (i + 1) V M else (fixV V M i (!(bt bV i)), fixM M i) :: mGo bV bM f (i + 1) (fixV V M i (bt bV i)) (fixM M i)
/-- What Minus answers. -/
def minusC (V M V' M' : List Int) : List (List Int × List Int) :=
  if meets V M V' M' = true then mGo (meetV V M V' M') (meetM M M') 104 0 (can V M) M else [(can V M, M)]

theorem minusC_no (V M V' M' : List Int) (h : meets V M V' M' = false) : minusC V M V' M' = [(can V M, M)] := by unfold minusC; rw [h]; rfl
theorem minusC_yes (V M V' M' : List Int) (h : meets V M V' M' = true) : minusC V M V' M' = mGo (meetV V M V' M') (meetM M M') 104 0 (can V M) M := by unfold minusC; rw [if_pos h]

/-- A goal at which the walk stands still. -/
def Stopped (p : Prop) : Prop := p
theorem of_stopped {p : Prop} (h : Stopped p) : p := h

theorem mGo_stop (bV bM : List Int) (f i : Nat) (V M : List Int) (h : (V == bV && M == bM) = true) : mGo bV bM f i V M = [] := by
  cases f
  · rfl
  · unfold mGo; rw [if_pos h]
theorem mGo_pass (bV bM : List Int) (f i : Nat) (V M : List Int) (h : (V == bV && M == bM) = false) (h2 : bt M i = true ∨ bt bM i = false) : mGo bV bM (f + 1) i V M = mGo bV bM f (i + 1) V M := by
  rw [mGo, if_neg (by rw [h]; decide), if_pos h2]
theorem mGo_cut (bV bM : List Int) (f i : Nat) (V M : List Int) (h : (V == bV && M == bM) = false) (h2 : bt M i = false) (h3 : bt bM i = true) : mGo bV bM (f + 1) i V M = (fixV V M i (!(bt bV i)), fixM M i) :: mGo bV bM f (i + 1) (fixV V M i (bt bV i)) (fixM M i) := by
  rw [mGo, if_neg (by rw [h]; decide), if_neg (by rw [h2, h3]; simp)]

theorem fixV_byt (V M : List Int) (i : Nat) (b : Bool) : Byt (fixV V M i b) := setb_byt _ _ _
theorem fixM_byt (M : List Int) (i : Nat) : Byt (fixM M i) := setb_byt _ _ _

end Go.Proofs.YtnbklmmampdbfaaDoor
namespace Go.Proofs.YtnbklmmampdbfaaDoor
open Go Go.RowKit
set_option maxRecDepth 20000

/-- A cube that lies within a block, from a place on. -/
theorem load_cube (w : World) (g off : Nat) (cs : Array Value) (t : TypeId) (fr : Nat × Nat) (V M : List Int) (hV : V.length = 13) (hM : M.length = 13) (hg : w.heap[g]? = some (.cells cs t fr)) (hc : ∀ j, j < 26 → cs[off + j]? = (cv V M)[j]?) :
    (loadVar 33 ⟨g, off, none⟩).run Tryd.prog w = .ok (.agg (cv V M)) w := by
  have hsz := cv_size V M hV hM
  have hl : (loadCells ⟨g, off, none⟩ (cv V M).toList.length).run Tryd.prog w = .ok (cv V M).toList.toArray w :=
    run_loadCells_list (P := Tryd.prog) w ⟨g, off, none⟩ (cv V M).toList (fun j v hv => by
      have hadd : (⟨g, off, none⟩ : Addr).add j = ⟨g, off + j, none⟩ := by unfold Addr.add; split <;> simp_all
      have hj : j < 26 := by
        have := (List.getElem?_eq_some_iff.1 hv).1
        simpa [hsz] using this
      rw [hadd, cell_of_row w g (off + j) cs t fr hg, hc j hj]
      simpa using hv)
  obtain ⟨i, hq, _, hs, _⟩ := infoC
  have hagg : (isAgg 33).run Tryd.prog w = .ok true w := by
    unfold isAgg
    rw [Sem.run_bind, run_underlying Tryd.underlying33 w]
    rfl
  rw [Array.length_toList, hsz, Array.toArray_toList] at hl
  simp [loadVar, Sem.run_bind, hagg, sizeOf, typeInfo, hq, hs, hl]
theorem wl_loadCat {ops : Array Oper} {rest : List Oper} {o : Oper} {a : Act} {w : World} {Q : Exit → Act → World → Prop} (hw : Region.wanted o (yielded ops a.tmps) = true) (x : Operand) (ho : o.op = .load 33 x)
    (g off : Nat) (hx : a.eval x = .pointer (some ⟨g, off, none⟩)) (cs : Array Value) (t : TypeId) (fr : Nat × Nat) (V M : List Int) (hV : V.length = 13) (hM : M.length = 13) (hg : w.heap[g]? = some (.cells cs t fr)) (hc : ∀ j, j < 26 → cs[off + j]? = (cv V M)[j]?)
    (h : wpList Tryd.prog ops Q rest (a.put o.dst (.agg (cv V M))) w) : wpList Tryd.prog ops Q (o :: rest) a w := by
  refine wpList_step fun K hK => ?_
  rw [if_pos hw]
  unfold Oper.wp execOp
  simp only [ho, hx, Instr.loadAt, Instr.sureAddr, Sem.run_bind, Sem.run_pure, Result.andThen_ok, load_cube w g off cs t fr V M hV hM hg hc]
  exact hK _ _ h

def m128 : List Int := [128, 0, 0, 0, 0, 0, 0, 0, 0, 0, 0, 0, 0]
def m64 : List Int := [64, 0, 0, 0, 0, 0, 0, 0, 0, 0, 0, 0, 0]
def m192 : List Int := [192, 0, 0, 0, 0, 0, 0, 0, 0, 0, 0, 0, 0]
def m0 : List Int := [0, 0, 0, 0, 0, 0, 0, 0, 0, 0, 0, 0, 0]
theorem Z_m0 : Z = m0 := Z_eq
theorem byt_of (L : List Int) (h1 : L.length = 13) (h2 : ∀ x ∈ L, 0 ≤ x ∧ x < 256) : Byt L := by
  refine ⟨h1, fun k => ?_⟩
  rcases Nat.lt_or_ge k 13 with h | h
  · rw [List.getD, List.getElem?_eq_getElem (by omega)]; exact h2 _ (List.getElem_mem _)
  · rw [List.getD, List.getElem?_eq_none (by omega)]; decide
theorem b128 : Byt m128 := byt_of _ rfl (by decide)
theorem b64 : Byt m64 := byt_of _ rfl (by decide)
theorem b192 : Byt m192 := byt_of _ rfl (by decide)
theorem b0 : Byt m0 := byt_of _ rfl (by decide)

theorem ex1 : fixV m0 m0 0 false = m0 := by kernel_rfl
theorem ex2 : fixM m0 0 = m128 := by kernel_rfl
theorem ex3 : fixV m0 m0 1 true = m64 := by kernel_rfl
theorem ex4 : fixM m0 1 = m64 := by kernel_rfl
theorem ex5 : meets m0 m128 m64 m64 = true := by kernel_rfl
theorem ex6 : meetV m0 m128 m64 m64 = m64 := by kernel_rfl
theorem ex7 : meetM m128 m64 = m192 := by kernel_rfl
theorem ex8 : bt m128 0 = true := by kernel_rfl
theorem ex9 : meets m0 m0 m64 m192 = true := by kernel_rfl
theorem ex10 : meetV m0 m0 m64 m192 = m64 := by kernel_rfl
theorem ex11 : meetM m0 m192 = m192 := by kernel_rfl
theorem ex12 : can m0 m0 = m0 := by kernel_rfl
theorem ex13 : fixV m0 m0 0 true = m128 := by kernel_rfl
theorem ex14 : fixV m0 m128 1 false = m0 := by kernel_rfl
theorem ex15 : fixV m0 m128 1 true = m64 := by kernel_rfl
theorem ex16 : fixM m128 1 = m192 := by kernel_rfl
theorem ex17 : minusC m0 m0 m64 m192 = [(m128, m128), (m0, m192)] := by
  rw [minusC_yes _ _ _ _ ex9, ex10, ex11, ex12, mGo_cut _ _ _ _ _ _ (by kernel_rfl) (by kernel_rfl) (by kernel_rfl), show bt m64 0 = false by kernel_rfl, Bool.not_false, ex13, ex2, ex1, mGo_cut _ _ _ _ _ _ (by kernel_rfl) (by kernel_rfl) (by kernel_rfl), show bt m64 (0 + 1) = true by kernel_rfl, Bool.not_true, ex14, ex15, ex16, mGo_stop _ _ _ _ _ _ (by kernel_rfl)]
theorem ex18 : free m0 = 104 := by kernel_rfl
theorem ex19 : (txt m64 m192).take 3 = [48, 49, 42] := by kernel_rfl
theorem ex20 : (txt m0 m192).take 3 = [48, 48, 42] := by kernel_rfl
theorem txt_length (V M : List Int) : (txt V M).length = 104 := by simp [txt]

theorem all0 (w : World) : Calls Tryd.prog 17 #[] w fun e w' => e = .returned (.agg (cv m0 m0)) ∧ Below w.heap.size w w' := by
  have := all_any w; rwa [Z_m0] at this
theorem fixA (w : World) : Calls Tryd.prog 93 #[.agg (cv m0 m0), .int .i64 0, .bool false] w fun e w' => e = .returned (.tuple #[.agg (cv m0 m128), .int .i64 0]) ∧ Below w.heap.size w w' := by
  have := fix_in m0 m0 b0 b0 0 false (by decide) w; rwa [ex1, ex2] at this
theorem fixB (w : World) : Calls Tryd.prog 93 #[.agg (cv m0 m0), .int .i64 1, .bool true] w fun e w' => e = .returned (.tuple #[.agg (cv m64 m64), .int .i64 0]) ∧ Below w.heap.size w w' := by
  have := fix_in m0 m0 b0 b0 1 true (by decide) w; rwa [ex3, ex4] at this
theorem meetAB (w : World) : Calls Tryd.prog 36 #[.agg (cv m0 m128), .agg (cv m64 m64)] w fun e w' => e = .returned (.tuple #[.agg (cv m64 m192), .bool true]) ∧ Below w.heap.size w w' := by
  have := meet_any m0 m128 m64 m64 b0 b128 b64 b64 w; rwa [meetR_yes _ _ _ _ ex5, ex6, ex7] at this
theorem take3 (T : List UInt8) : ((⟨T.toArray⟩ : ByteArray).extract 0 3).toList = T.take 3 := by
  rw [ByteArray.toList_eq, ByteArray.data_extract, Array.toList_extract]
  simp

end Go.Proofs.YtnbklmmampdbfaaDoor
namespace Go.Proofs.YtnbklmmampdbfaaDoor
open Go Go.RowKit
set_option maxRecDepth 20000

/-- A bit of a cube: 0, 1, or 2, if it is free. -/
def atI (V M : List Int) (i : Nat) : Int := if bt M i then (if bt V i then 1 else 0) else 2
theorem at_ne2 (V M : List Int) (i : Nat) : (atI V M i != 2) = bt M i := by
  unfold atI; cases bt M i <;> cases bt V i <;> rfl
theorem at_eq1 (V M : List Int) (i : Nat) : (atI V M i == 1) = (bt V i && bt M i) := by
  unfold atI; cases bt M i <;> cases bt V i <;> rfl
theorem at_ne0 (V M : List Int) (i : Nat) : (atI V M i != 0) = ((bt V i && bt M i) || !(bt M i)) := by
  unfold atI; cases bt M i <;> cases bt V i <;> rfl
theorem at_cases (V M : List Int) (i : Nat) : atI V M i = 0 ∨ atI V M i = 1 ∨ atI V M i = 2 := by
  unfold atI; cases bt M i <;> cases bt V i <;> simp

set_option maxHeartbeats 1000000 in
theorem at_any (V M : List Int) (hV : Byt V) (hM : Byt M) (i : Nat) (hi : i < 104) (w : World) :
    Calls Tryd.prog 39 #[.agg (cv V M), .int .i64 (i : Int)] w fun e w' => e = .returned (.int .i64 (atI V M i)) ∧ Below w.heap.size w w' := by
  have hVl := hV.1
  have hMl := hM.1
  have CM : Hid (∀ W, Calls Tryd.prog 40 #[.agg (hv M), .int .i64 (i : Int)] W fun e w' => e = .returned (.bool (bt M i)) ∧ Below W.heap.size W w') := rbit_nat M hM i hi
  have CV : Hid (∀ W, Calls Tryd.prog 40 #[.agg (hv V), .int .i64 (i : Int)] W fun e w' => e = .returned (.bool (bt V i)) ∧ Below W.heap.size W w') := rbit_nat V hV i hi
  clear hV hM
  unfold atI
  obtain ⟨bm, hbm⟩ : ∃ b, b = bt M i := ⟨_, rfl⟩
  obtain ⟨bv, hbv⟩ : ∃ b, b = bt V i := ⟨_, rfl⟩
  rw [← hbm] at CM ⊢
  rw [← hbv] at CV ⊢
  clear hbm hbv
  go_enter Tryd.func39, Tryd.ntmps39
  go_wp2_with (first
    | (refine wl_loadM rfl _ rfl w.heap.size rfl V M (heap_new _ _ _ rfl) hVl hMl ?_))
  refine (CM.out _).mono ?_
  rintro e w1 ⟨rfl, hb1⟩
  have g0 : w1.heap[w.heap.size]? = some (.cells (cv V M) 33 (0, 0)) := by rw [hb1.block _ (by simp)]; exact heap_new _ _ _ rfl
  have B1 : Below w.heap.size w w1 := ((Below.refl _ _).alloc (Nat.le_refl _) _).trans (hb1.mono (by simp))
  clear hb1 CM
  cases bm
  · go_wp2_with fail
    go_ret
    exact ⟨rfl, B1⟩
  · go_wp2_with (first
      | (refine wl_loadV rfl _ rfl w.heap.size rfl V M g0 hVl ?_))
    refine (CV.out _).mono ?_
    rintro e w2 ⟨rfl, hb2⟩
    have B2 := B1.trans (hb2.mono B1.size)
    clear hb2 CV
    cases bv
    · go_wp2_with fail
      go_ret
      exact ⟨rfl, B2⟩
    · go_wp2_with fail
      go_ret
      exact ⟨rfl, B2⟩

/-- The bits ahead of a place, all others nought. -/
def upto (k : Nat) (f : Nat → Bool) : List Int := mk fun j => decide (j < k) && f j
theorem upto_byt (k : Nat) (f : Nat → Bool) : Byt (upto k f) := mk_byt _
theorem upto_zero (f : Nat → Bool) : upto 0 f = Z := mk_ext _ _ fun i _ => by simp
theorem upto_all (f : Nat → Bool) : upto 104 f = mk f := mk_ext _ _ fun i hi => by simp [hi]
theorem upto_succ (k : Nat) (f : Nat → Bool) : setb (upto k f) k (f k) = upto (k + 1) f :=
  mk_ext _ _ fun i hi => by
    by_cases e : i = k
    · subst e; simp
    · rw [if_neg e]
      unfold upto
      rw [mk_bt _ i hi]
      congr 1
      rw [decide_eq_decide]
      omega
end Go.Proofs.YtnbklmmampdbfaaDoor
namespace Go.Proofs.YtnbklmmampdbfaaDoor
open Go Go.RowKit
set_option maxRecDepth 20000

theorem wl_zeroC {ops : Array Oper} {rest : List Oper} {o : Oper} {a : Act} {w : World} {Q : Exit → Act → World → Prop} (hg : o.guard = none) (ho : o.op = .build 33 #[])
    (h : wpList Tryd.prog ops Q rest (a.put o.dst (.agg (cv Z Z))) w) : wpList Tryd.prog ops Q (o :: rest) a w :=
  wpList_plain hg fun _ hK => by
    unfold Oper.wp execOp
    have e : ((#[] : Array (Nat × Operand)).map (fun (i, x) => (i, a.eval x))) = #[] := by simp
    have hb : (Instr.build 33 #[]).run Tryd.prog w = .ok (.agg (cv Z Z)) w := by
      rw [← zeroC_eq]; kernel_rfl
    simp only [ho, Sem.run_bind]
    rw [e, hb]
    exact hK _ _ h

set_option maxHeartbeats 2000000 in
theorem rhas_any (V M H : List Int) (hV : Byt V) (hM : Byt M) (hH : Byt H) (w : World) :
    Calls Tryd.prog 24 #[.agg (cv V M), .agg (hv H)] w fun e w' => e = .returned (.bool (has V M H)) ∧ Below w.heap.size w w' := by
  have hVl := hV.1
  have hMl := hM.1
  have hHl := hH.1
  have CA : Hid (∀ k : Nat, k < 104 → ∀ W, Calls Tryd.prog 39 #[.agg (cv V M), .int .i64 (k : Int)] W fun e w' => e = .returned (.int .i64 (atI V M k)) ∧ Below W.heap.size W w') := fun k hk => at_any V M hV hM k hk
  have CB : Hid (∀ k : Nat, k < 104 → ∀ W, Calls Tryd.prog 40 #[.agg (hv H), .int .i64 (k : Int)] W fun e w' => e = .returned (.bool (bt H k)) ∧ Below W.heap.size W w') := fun k hk => rbit_nat H hH k hk
  clear hV hM hH
  go_enter Tryd.func24, Tryd.ntmps24
  go_wp2_with fail
  go_loopw [5] (fun i wr => ∃ k : Nat, k ≤ 104 ∧ i = .int .i64 k ∧ (∀ j, j < k → bt M j = true → bt V j = bt H j) ∧ wr.heap[w.heap.size]? = some (.cells (cv V M) 33 (0, 0)) ∧ wr.heap[w.heap.size + 1]? = some (.cells (hv H) 23 (0, 0)) ∧ Below w.heap.size w wr) (fun i _ => 104 - (intOf i).toNat)
  case atStart => exact ⟨0, Nat.zero_le _, rfl, fun j hj => by omega, heap_past _ _ _ _ (heap_new _ _ _ rfl), heap_new _ _ _ (by simp), ((Below.refl _ _).alloc (Nat.le_refl _) _).alloc (by simp) _⟩
  case round =>
    obtain ⟨k, hk, rfl, hj, g0, g1, hb⟩ := hrel
    have HJ : Hid (∀ j, j < k → bt M j = true → bt V j = bt H j) := hj
    have hz := (Array.getElem?_eq_some_iff.1 g1).1
    clear hj
    by_cases hlt : k < 104
    · go_wp2_with (first
        | (refine wl_loadC rfl _ rfl w.heap.size rfl V M g0 hVl hMl ?_))
      refine (CA.out k hlt _).mono ?_
      rintro e w1 ⟨rfl, hb1⟩
      have k0 : w1.heap[w.heap.size]? = some (.cells (cv V M) 33 (0, 0)) := by rw [hb1.block _ (by omega)]; exact g0
      have k1 : w1.heap[w.heap.size + 1]? = some (.cells (hv H) 23 (0, 0)) := by rw [hb1.block _ (by omega)]; exact g1
      have B1 := hb.trans (hb1.mono hb.size)
      have hz1 := Nat.lt_of_lt_of_le hz hb1.size
      clear g0 g1 hb hb1 hz
      by_cases hm : bt M k = true
      · have HM : Hid (bt M k = true) := hm
        obtain ⟨bv, hbv⟩ : ∃ b, b = bt V k := ⟨_, rfl⟩
        have ea : atI V M k = if bv then 1 else 0 := by unfold atI; rw [hm, ← hbv]; rfl
        rw [ea]
        obtain ⟨bh, hbh⟩ : ∃ b, b = bt H k := ⟨_, rfl⟩
        have C1 : Hid (∀ W, Calls Tryd.prog 40 #[.agg (hv H), .int .i64 (k : Int)] W fun e w' => e = .returned (.bool bh) ∧ Below W.heap.size W w') := by rw [hbh]; exact CB.out k hlt
        have HBV : Hid (bv = bt V k) := hbv
        have HBH : Hid (bh = bt H k) := hbh
        clear hm ea hbv hbh
        cases bv <;> cases bh
        all_goals
          go_wp2_with (first
            | (refine wl_loadHg rfl _ rfl (w.heap.size + 1) rfl H k1 hHl ?_))
          refine (C1.out _).mono ?_
          rintro e w2 ⟨rfl, hb2⟩
          have l0 : w2.heap[w.heap.size]? = some (.cells (cv V M) 33 (0, 0)) := by rw [hb2.block _ (by omega)]; exact k0
          have l1 : w2.heap[w.heap.size + 1]? = some (.cells (hv H) 23 (0, 0)) := by rw [hb2.block _ (by omega)]; exact k1
          have B2 := B1.trans (hb2.mono B1.size)
          clear k0 k1 hb2 C1 B1 hz1
          go_wp2_with fail
        · go_roundw
          case rel =>
            refine ⟨k + 1, by omega, by go_num, fun j hj hm => ?_, l0, l1, B2⟩
            by_cases e : j = k
            · subst e; rw [← HBV.out, ← HBH.out]
            · exact HJ.out j (by omega) hm
          case measure => simp [intOf]; omega
        · go_ret
          refine ⟨ret_bool ?_, B2⟩
          cases e : has V M H
          · rfl
          · have := (has_iff V M H).1 e k hlt HM.out
            rw [← HBV.out, ← HBH.out] at this; cases this
        · go_ret
          refine ⟨ret_bool ?_, B2⟩
          cases e : has V M H
          · rfl
          · have := (has_iff V M H).1 e k hlt HM.out
            rw [← HBV.out, ← HBH.out] at this; cases this
        · go_roundw
          case rel =>
            refine ⟨k + 1, by omega, by go_num, fun j hj hm => ?_, l0, l1, B2⟩
            by_cases e : j = k
            · subst e; rw [← HBV.out, ← HBH.out]
            · exact HJ.out j (by omega) hm
          case measure => simp [intOf]; omega
      · have hm' : bt M k = false := by simpa using hm
        have HM : Hid (bt M k = false) := hm'
        have ea : atI V M k = 2 := by unfold atI; rw [hm']; rfl
        rw [ea]
        clear hm hm' ea
        go_wp2_with fail
        go_roundw
        case rel =>
          refine ⟨k + 1, by omega, by go_num, fun j hj hm => ?_, k0, k1, B1⟩
          by_cases e : j = k
          · subst e; rw [HM.out] at hm; cases hm
          · exact HJ.out j (by omega) hm
        case measure => simp [intOf]; omega
    · obtain rfl : k = 104 := by omega
      go_wp2_with fail
      go_ret
      exact ⟨ret_bool ((has_iff V M H).2 HJ.out).symm, hb⟩
end Go.Proofs.YtnbklmmampdbfaaDoor
namespace Go.Proofs.YtnbklmmampdbfaaDoor
open Go Go.RowKit
set_option maxRecDepth 20000

theorem clash_at (V M V' M' : List Int) (k : Nat) : (atI V M k + atI V' M' k == 1) = (bt M k && bt M' k && (bt V k != bt V' k)) := by
  unfold atI; cases bt M k <;> cases bt V k <;> cases bt M' k <;> cases bt V' k <;> rfl
theorem min_ne2 (V M V' M' : List Int) (k : Nat) : ((if atI V' M' k < atI V M k then atI V' M' k else atI V M k) != 2) = (bt M k || bt M' k) := by
  unfold atI; cases bt M k <;> cases bt V k <;> cases bt M' k <;> cases bt V' k <;> rfl
theorem min_eq1 (V M V' M' : List Int) (k : Nat) (h : (bt M k && bt M' k && (bt V k != bt V' k)) = false) : ((if atI V' M' k < atI V M k then atI V' M' k else atI V M k) == 1) = ((bt V k && bt M k) || (bt V' k && bt M' k)) := by
  revert h; unfold atI; cases bt M k <;> cases bt V k <;> cases bt M' k <;> cases bt V' k <;> decide

end Go.Proofs.YtnbklmmampdbfaaDoor
namespace Go.Proofs.YtnbklmmampdbfaaDoor
open Go Go.RowKit
set_option maxRecDepth 20000

/-- The pieces as the chapter lays them. -/
def rGo (M V' M' : List Int) : Nat → Nat → List Int → List Int → List (List Int × List Int)
  | 0, _, _, _ => []
  | f + 1, i, RV, RM => if bt M i = false ∧ bt M' i = true then (setb RV i (!(bt V' i)), setb RM i true) :: rGo M V' M' f (i + 1) (setb RV i (bt V' i)) (setb RM i true) else rGo M V' M' f (i + 1) RV RM
theorem rGo_cut (M V' M' : List Int) (f i : Nat) (RV RM : List Int) (h : bt M i = false) (h2 : bt M' i = true) : rGo M V' M' (f + 1) i RV RM = (setb RV i (!(bt V' i)), setb RM i true) :: rGo M V' M' f (i + 1) (setb RV i (bt V' i)) (setb RM i true) := by
  rw [rGo, if_pos ⟨h, h2⟩]
theorem rGo_pass (M V' M' : List Int) (f i : Nat) (RV RM : List Int) (h : ¬ (bt M i = false ∧ bt M' i = true)) : rGo M V' M' (f + 1) i RV RM = rGo M V' M' f (i + 1) RV RM := by
  rw [rGo, if_neg h]
theorem rGo_nil (M V' M' : List Int) : ∀ (f i : Nat) (RV RM : List Int), i + f ≤ 104 → (∀ j, i ≤ j → j < 104 → ¬ (bt M j = false ∧ bt M' j = true)) → rGo M V' M' f i RV RM = []
  | 0, _, _, _, _, _ => rfl
  | f + 1, i, RV, RM, h, hj => by
    rw [rGo_pass M V' M' f i RV RM (hj i (Nat.le_refl _) (by omega))]
    exact rGo_nil M V' M' f (i + 1) RV RM (by omega) fun j h1 h2 => hj j (by omega) h2

theorem bt_setb (L : List Int) (i : Nat) (b : Bool) (k : Nat) (hk : k < 104) : bt (setb L i b) k = if k = i then b else bt L k := setb_bt L i b k hk

theorem mGo_rGo (V M V' M' : List Int) : ∀ (f i : Nat) (RV RM : List Int), i + f = 104 → (∀ j, i ≤ j → j < 104 → bt RM j = bt M j) → can RV RM = RV →
    mGo (meetV V M V' M') (meetM M M') f i RV RM = rGo M V' M' f i RV RM
  | 0, _, _, _, _, _, _ => rfl
  | f + 1, i, RV, RM, hf, hj, hc => by
    have hi : i < 104 := by omega
    have eM : ∀ j, j < 104 → bt (meetM M M') j = (bt M j || bt M' j) := fun j h => mk_bt _ j h
    have eV : bt (meetV V M V' M') i = ((bt V i && bt M i) || (bt V' i && bt M' i)) := mk_bt _ i hi
    by_cases hst : (RV == meetV V M V' M' && RM == meetM M M') = true
    · rw [mGo_stop _ _ _ _ _ _ hst]
      symm
      refine rGo_nil M V' M' (f + 1) i RV RM (by omega) fun j h1 h2 => ?_
      rw [Bool.and_eq_true, beq_iff_eq, beq_iff_eq] at hst
      have h3 := hj j h1 h2
      rw [hst.2, eM j h2] at h3
      rintro ⟨h4, h5⟩
      rw [h4, h5] at h3
      cases h3
    · have hst' : (RV == meetV V M V' M' && RM == meetM M M') = false := by simpa using hst
      have h3 := hj i (Nat.le_refl _) hi
      by_cases hcut : bt M i = false ∧ bt M' i = true
      · obtain ⟨h4, h5⟩ := hcut
        rw [mGo_cut _ _ _ _ _ _ hst' (by rw [h3]; exact h4) (by rw [eM i hi, h5]; simp), rGo_cut M V' M' f i RV RM h4 h5]
        rw [h4, h5] at eV
        simp only [Bool.and_false, Bool.and_true, Bool.false_or] at eV
        rw [eV]
        unfold fixV fixM
        rw [hc]
        congr 1
        refine mGo_rGo V M V' M' f (i + 1) _ _ (by omega) (fun j h6 h7 => ?_) ?_
        · rw [bt_setb _ _ _ _ h7, if_neg (by omega)]; exact hj j (by omega) h7
        · refine bt_ext _ _ (can_byt _ _) (setb_byt _ _ _) fun k hk => ?_
          rw [can_bt _ _ k hk, bt_setb _ _ _ _ hk, bt_setb _ _ _ _ hk]
          by_cases e : k = i
          · rw [if_pos e, if_pos e, Bool.and_true]
          · rw [if_neg e, if_neg e, ← can_bt _ _ k hk, hc]
      · rw [rGo_pass M V' M' f i RV RM hcut, mGo_pass _ _ _ _ _ _ hst' (by
          rw [h3, eM i hi]
          revert hcut
          cases bt M i <;> cases bt M' i <;> simp)]
        exact mGo_rGo V M V' M' f (i + 1) RV RM (by omega) (fun j h1 h2 => hj j (by omega) h2) hc

/-- How many of a list's cubes have a header. -/
def cnt (H : List Int) : List (List Int × List Int) → Nat
  | [] => 0
  | c :: C => (if has c.1 c.2 H = true then 1 else 0) + cnt H C
theorem cnt_append (H : List Int) : ∀ (C D : List (List Int × List Int)), cnt H (C ++ D) = cnt H C + cnt H D
  | [], D => by simp [cnt]
  | c :: C, D => by rw [List.cons_append, cnt, cnt, cnt_append H C D]; omega
theorem cnt_le (H : List Int) : ∀ C : List (List Int × List Int), cnt H C ≤ C.length
  | [] => Nat.le_refl _
  | c :: C => by have := cnt_le H C; rw [cnt, List.length_cons]; split <;> omega

theorem has_setb (RV RM H : List Int) (i : Nat) (b : Bool) (hi : i < 104) (hf : bt RM i = false) : has (setb RV i b) (setb RM i true) H = (has RV RM H && (bt H i == b)) := by
  rw [Bool.eq_iff_iff, Bool.and_eq_true, has_iff, has_iff, beq_iff_eq]
  constructor
  · intro g
    constructor
    · intro k hk hm
      have hki : k ≠ i := by rintro rfl; rw [hf] at hm; cases hm
      have := g k hk (by rw [bt_setb _ _ _ _ hk, if_neg hki]; exact hm)
      rwa [bt_setb _ _ _ _ hk, if_neg hki] at this
    · have := g i hi (by rw [bt_setb _ _ _ _ hi, if_pos rfl])
      rw [bt_setb _ _ _ _ hi, if_pos rfl] at this
      exact this.symm
  · rintro ⟨g1, g2⟩ k hk hm
    rw [bt_setb _ _ _ _ hk]
    rw [bt_setb _ _ _ _ hk] at hm
    by_cases h : k = i
    · rw [if_pos h, h, g2]
    · rw [if_neg h] at hm ⊢
      exact g1 k hk hm

/-- Is there a bit, from a place on, that is free in the first cube, fixed in the second one, and another one in the header? -/
def far (M V' M' H : List Int) : Nat → Nat → Bool
  | 0, _ => false
  | f + 1, i => (!(bt M i) && bt M' i && (bt H i != bt V' i)) || far M V' M' H f (i + 1)
theorem far_iff (M V' M' H : List Int) : ∀ f i, far M V' M' H f i = true ↔ ∃ j, i ≤ j ∧ j < i + f ∧ bt M j = false ∧ bt M' j = true ∧ bt H j ≠ bt V' j
  | 0, i => by
    simp only [far, Bool.false_eq_true, false_iff]
    rintro ⟨j, h1, h2, _⟩; omega
  | f + 1, i => by
    rw [far, Bool.or_eq_true, far_iff M V' M' H f (i + 1)]
    constructor
    · rintro (h | ⟨j, h1, h2, h3⟩)
      · refine ⟨i, Nat.le_refl _, by omega, ?_⟩
        revert h
        cases bt M i <;> cases bt M' i <;> simp
      · exact ⟨j, by omega, by omega, h3⟩
    · rintro ⟨j, h1, h2, h3, h4, h5⟩
      by_cases e : j = i
      · subst e; left; rw [h3, h4]; simpa using h5
      · right; exact ⟨j, by omega, by omega, h3, h4, h5⟩

theorem cnt_rGo (M V' M' H : List Int) : ∀ (f i : Nat) (RV RM : List Int), i + f = 104 → (∀ j, i ≤ j → j < 104 → bt RM j = bt M j) →
    cnt H (rGo M V' M' f i RV RM) = if (has RV RM H && far M V' M' H f i) = true then 1 else 0
  | 0, _, _, _, _, _ => by simp [rGo, cnt, far]
  | f + 1, i, RV, RM, hf, hj => by
    have hi : i < 104 := by omega
    have h3 := hj i (Nat.le_refl _) hi
    by_cases hcut : bt M i = false ∧ bt M' i = true
    · obtain ⟨h4, h5⟩ := hcut
      have hj' : ∀ j, i + 1 ≤ j → j < 104 → bt (setb RM i true) j = bt M j := fun j h6 h7 => by
        rw [bt_setb _ _ _ _ h7, if_neg (by omega)]; exact hj j (by omega) h7
      rw [rGo_cut M V' M' f i RV RM h4 h5, cnt, cnt_rGo M V' M' H f (i + 1) _ _ (by omega) hj', has_setb _ _ _ _ _ hi (by rw [h3]; exact h4), has_setb _ _ _ _ _ hi (by rw [h3]; exact h4), far, h4, h5]
      cases has RV RM H <;> cases bt H i <;> cases bt V' i <;> cases far M V' M' H f (i + 1) <;> rfl
    · rw [rGo_pass M V' M' f i RV RM hcut, cnt_rGo M V' M' H f (i + 1) RV RM (by omega) fun j h1 h2 => hj j (by omega) h2, far]
      rw [show (!(bt M i) && bt M' i && (bt H i != bt V' i)) = false by
        revert hcut
        cases bt M i <;> cases bt M' i <;> simp, Bool.false_or]

theorem minus_rGo (V M V' M' : List Int) (h : meets V M V' M' = true) : minusC V M V' M' = rGo M V' M' 104 0 (can V M) M := by
  rw [minusC_yes _ _ _ _ h]
  refine mGo_rGo V M V' M' 104 0 _ _ rfl (fun _ _ _ => rfl) ?_
  refine bt_ext _ _ (can_byt _ _) (can_byt _ _) fun i hi => ?_
  rw [can_bt _ _ i hi, can_bt _ _ i hi]; cases bt V i <;> cases bt M i <;> rfl

theorem has_can' (V M H : List Int) : has (can V M) M H = has V M H := by
  rw [Bool.eq_iff_iff, has_iff, has_iff]
  constructor
  · intro h i hi hm
    have := h i hi hm
    rwa [can_bt _ _ i hi, hm, Bool.and_true] at this
  · intro h i hi hm
    rw [can_bt _ _ i hi, hm, Bool.and_true]; exact h i hi hm

theorem cnt_minus (V M V' M' H : List Int) : cnt H (minusC V M V' M') = if (has V M H && !(has V' M' H)) = true then 1 else 0 := by
  cases hm : meets V M V' M'
  · rw [minusC_no _ _ _ _ hm, cnt, cnt, has_can', Nat.add_zero]
    cases hx : has V M H
    · rfl
    · cases hy : has V' M' H
      · rfl
      · rw [has_iff] at hx hy
        have : meets V M V' M' = true := (meets_iff _ _ _ _).2 fun i hi h1 h2 => by rw [hx i hi h1, hy i hi h2]
        rw [hm] at this; cases this
  · rw [minus_rGo _ _ _ _ hm, cnt_rGo M V' M' H 104 0 _ _ rfl (fun _ _ _ => rfl), has_can']
    cases hx : has V M H
    · rfl
    · rw [Bool.true_and, Bool.true_and]
      have e : far M V' M' H 104 0 = !(has V' M' H) := by
        rw [Bool.eq_iff_iff, far_iff, Bool.not_eq_true']
        rw [has_iff] at hx
        rw [meets_iff] at hm
        constructor
        · rintro ⟨j, _, h2, h3, h4, h5⟩
          cases hy : has V' M' H
          · rfl
          · rw [has_iff] at hy
            exact absurd (hy j (by omega) h4).symm h5
        · intro hy
          refine Classical.byContradiction fun hn => ?_
          have : has V' M' H = true := (has_iff _ _ _).2 fun i hi h1 => by
            cases h2 : bt M i
            · refine Classical.byContradiction fun h3 => hn ⟨i, Nat.zero_le _, by omega, h2, h1, fun h4 => h3 h4.symm⟩
            · rw [← hm i hi h2 h1]; exact hx i hi h2
          rw [hy] at this; cases this
      rw [e]
end Go.Proofs.YtnbklmmampdbfaaDoor
namespace Go.Proofs.YtnbklmmampdbfaaDoor
open Go Go.RowKit
set_option maxRecDepth 20000

theorem own_setRow_ne {w : World} {B : Nat} {e : TypeId} {s : Nat} {v : Value} {n : Nat} {xs : List Value} (h : w.ownsRow B e s v n xs) (g : Nat) (hg : v.ownBlock ≠ some g) (cs : Array Value) : (w.setRow g cs).ownsRow B e s v n xs := by
  obtain ⟨h1, h2 | ⟨g', cap, cur, rfl, hB, hcur, h3⟩⟩ := h
  · exact ⟨h1, .inl h2⟩
  · exact ⟨h1, .inr ⟨g', cap, cur, rfl, hB, (setRow_other _ _ _ _ (fun e => hg (by rw [e]; rfl))).trans hcur, h3⟩⟩

end Go.Proofs.YtnbklmmampdbfaaDoor
namespace Go.Proofs.YtnbklmmampdbfaaDoor
open Go Go.RowKit
set_option maxRecDepth 20000

/-- All cubes of a list have their bytes. -/
def Byts (C : List (List Int × List Int)) : Prop := ∀ c ∈ C, Byt c.1 ∧ Byt c.2
theorem byts_rGo (M V' M' : List Int) : ∀ (f i : Nat) (RV RM : List Int), Byts (rGo M V' M' f i RV RM)
  | 0, _, _, _ => fun c hc => by simp [rGo] at hc
  | f + 1, i, RV, RM => by
    rw [rGo]
    split
    · intro c hc
      rcases List.mem_cons.1 hc with h | h
      · rw [h]; exact ⟨setb_byt _ _ _, setb_byt _ _ _⟩
      · exact byts_rGo M V' M' f (i + 1) _ _ c h
    · exact byts_rGo M V' M' f (i + 1) _ _
theorem byts_minus (V M V' M' : List Int) (hM : Byt M) : Byts (minusC V M V' M') := by
  cases h : meets V M V' M'
  · rw [minusC_no _ _ _ _ h]
    intro c hc
    have : c = (can V M, M) := by simpa using hc
    rw [this]; exact ⟨can_byt _ _, hM⟩
  · rw [minus_rGo _ _ _ _ h]; exact byts_rGo _ _ _ _ _ _ _
theorem len_rGo (M V' M' : List Int) : ∀ (f i : Nat) (RV RM : List Int), (rGo M V' M' f i RV RM).length ≤ f
  | 0, _, _, _ => by simp [rGo]
  | f + 1, i, RV, RM => by
    rw [rGo]
    split
    · rw [List.length_cons]; exact Nat.succ_le_succ (len_rGo M V' M' f (i + 1) _ _)
    · exact Nat.le_succ_of_le (len_rGo M V' M' f (i + 1) _ _)
theorem len_minus (V M V' M' : List Int) : (minusC V M V' M').length ≤ 104 := by
  cases h : meets V M V' M'
  · rw [minusC_no _ _ _ _ h]; simp
  · rw [minus_rGo _ _ _ _ h]; exact len_rGo _ _ _ _ _ _ _

theorem ccells_at : ∀ (C : List (List Int × List Int)), Byts C → ∀ (i : Nat) (hi : i < C.length) (j : Nat), j < 26 → (ccells C)[26 * i + j]? = (cv C[i].1 C[i].2)[j]?
  | [], _, i, hi, _, _ => by simp at hi
  | c :: C, hC, i, hi, j, hj => by
    have h1 := hC c (by simp)
    have hl : (cv c.1 c.2).toList.length = 26 := by rw [Array.length_toList, cv_size _ _ h1.1.1 h1.2.1]
    have e : ccells (c :: C) = (cv c.1 c.2).toList ++ ccells C := by simp [ccells]
    rw [e]
    match i, hi with
    | 0, _ =>
      rw [List.getElem?_append_left (by omega)]
      simp
    | i + 1, hi =>
      rw [List.getElem?_append_right (by omega), hl, show 26 * (i + 1) + j - 26 = 26 * i + j by omega, ccells_at C (fun c hc => hC c (by simp [hc])) i (by simpa using hi) j hj]
      rfl

/-- A slice whose elements are these cubes. -/
def Row (w : World) (v : Value) (C : List (List Int × List Int)) : Prop :=
  ∃ (o : Option Addr) (cap : Nat), v = .slice o C.length cap ∧ ∀ (i : Nat) (hi : i < C.length), ∃ g cur, o = some ⟨g, 0, none⟩ ∧ w.heap[g]? = some (.cells cur 33 (0, 0)) ∧ ∀ j, j < 26 → cur[26 * i + j]? = (cv C[i].1 C[i].2)[j]?
theorem row_of {w : World} {B : Nat} {v : Value} {C : List (List Int × List Int)} (h : w.ownsRow B 33 26 v C.length (ccells C)) (hC : Byts C) : Row w v C := by
  obtain ⟨h1, ⟨rfl, h2⟩ | ⟨g, cap, cur, rfl, hB, hcur, _, _, _, h4⟩⟩ := h
  · exact ⟨none, 0, by rw [h2], fun i hi => by omega⟩
  · refine ⟨_, cap, rfl, fun i hi => ⟨g, cur, rfl, hcur, fun j hj => ?_⟩⟩
    rw [← ccells_at C hC i hi j hj, ← h4, List.getElem?_take_of_lt (by omega)]
    simp
theorem Row.below {w w' : World} {v : Value} {C : List (List Int × List Int)} (h : Row w v C) (hb : Below w.heap.size w w') : Row w' v C := by
  obtain ⟨o, cap, rfl, h2⟩ := h
  refine ⟨o, cap, rfl, fun i hi => ?_⟩
  obtain ⟨g, cur, h3, h4, h5⟩ := h2 i hi
  exact ⟨g, cur, h3, (hb.block g (Array.getElem?_eq_some_iff.1 h4).1).trans h4, h5⟩

theorem qlCat {W : World} {ops : Array Oper} {Q : Act → Prop} {rest : List Oper} {o : Oper} {a : Act} (hw : Region.wanted o (yielded ops a.tmps) = true) (x : Operand) (ho : o.op = .load 33 x)
    (g off : Nat) (hx : a.eval x = .pointer (some ⟨g, off, none⟩)) (cs : Array Value) (t : TypeId) (V M : List Int) (hV : V.length = 13) (hM : M.length = 13) (hg : W.heap[g]? = some (.cells cs t (0, 0))) (hc : ∀ j, j < 26 → cs[off + j]? = (cv V M)[j]?)
    (h : wpQuiet Tryd.prog ops (fun w' => ∃ u : Later W, w' = u.world) Q rest (a.put o.dst (.agg (cv V M)))) : wpQuiet Tryd.prog ops (fun w' => ∃ u : Later W, w' = u.world) Q (o :: rest) a := by
  refine BigFrame.wpQuiet_want hw fun K hK => ⟨.agg (cv V M), fun w hC => ?_, hK _ h⟩
  unfold Oper.quietAt execOp
  simp only [ho, hx, Instr.loadAt, Instr.sureAddr, Sem.run_bind, Sem.run_pure, Result.andThen_ok, load_cube w g off cs t (0, 0) V M hV hM (later_block hg w hC) hc]
  exact ⟨rfl, rfl⟩

end Go.Proofs.YtnbklmmampdbfaaDoor
namespace Go.Proofs.YtnbklmmampdbfaaDoor
open Go Go.RowKit
set_option maxRecDepth 20000

/-- Has one of these cubes a header? -/
def hasL (C : List (List Int × List Int)) (H : List Int) : Bool := C.any fun c => has c.1 c.2 H

/-- A slice, wherever it lies, whose elements are these cubes. -/
def Sl (w : World) (v : Value) (C : List (List Int × List Int)) : Prop :=
  Byts C ∧ ∃ (o : Option Addr) (cap : Nat), v = .slice o C.length cap ∧ C.length ≤ cap ∧ cap ≤ maxLen ∧ ∀ (i : Nat) (hi : i < C.length), ∃ g off cur t fr, o = some ⟨g, off, none⟩ ∧ w.heap[g]? = some (.cells cur t fr) ∧ ∀ j, j < 26 → cur[off + i * 26 + j]? = (cv C[i].1 C[i].2)[j]?

theorem Sl.byts {w : World} {v : Value} {C : List (List Int × List Int)} (h : Sl w v C) : Byts C := h.1
theorem Sl.below {w w' : World} {v : Value} {C : List (List Int × List Int)} (h : Sl w v C) (hb : Below w.heap.size w w') : Sl w' v C := by
  obtain ⟨h0, o, cap, rfl, h1, h2, h3⟩ := h
  refine ⟨h0, o, cap, rfl, h1, h2, fun i hi => ?_⟩
  obtain ⟨g, off, cur, t, fr, h4, h5, h6⟩ := h3 i hi
  exact ⟨g, off, cur, t, fr, h4, (hb.block g (Array.getElem?_eq_some_iff.1 h5).1).trans h5, h6⟩
/-- The same, but that blocks from a place on may have turned. -/
theorem Sl.belowAt {w w' : World} {v : Value} {C : List (List Int × List Int)} {B : Nat} (h : Sl w v C) (hw : w.heap.size ≤ B) (hb : Below B w w') : Sl w' v C := h.below (hb.mono hw)
theorem Sl.slice {w : World} {v : Value} {C : List (List Int × List Int)} (h : Sl w v C) : ∃ (o : Option Addr) (cap : Nat), v = .slice o C.length cap ∧ C.length ≤ cap ∧ cap ≤ maxLen := by
  obtain ⟨_, o, cap, h1, h2, h3, _⟩ := h
  exact ⟨o, cap, h1, h2, h3⟩
/-- One element. -/
theorem Sl.at {w : World} {o : Option Addr} {n cap : Nat} {C : List (List Int × List Int)} (h : Sl w (.slice o n cap) C) (k : Nat) (hk : k < n) :
    ∃ g off cur t fr U N, o = some ⟨g, off, none⟩ ∧ w.heap[g]? = some (.cells cur t fr) ∧ (∀ j, j < 26 → cur[off + k * 26 + j]? = (cv U N)[j]?) ∧ C[k]? = some (U, N) ∧ Byt U ∧ Byt N := by
  obtain ⟨h0, o', cap', h1, _, _, h3⟩ := h
  simp only [Value.slice.injEq] at h1
  obtain ⟨rfl, rfl, rfl⟩ := h1
  obtain ⟨g, off, cur, t, fr, h4, h5, h6⟩ := h3 k hk
  exact ⟨g, off, cur, t, fr, C[k].1, C[k].2, h4, h5, h6, List.getElem?_eq_getElem hk, (h0 _ (List.getElem_mem _)).1, (h0 _ (List.getElem_mem _)).2⟩
theorem Sl.len {w : World} {o : Option Addr} {n cap : Nat} {C : List (List Int × List Int)} (h : Sl w (.slice o n cap) C) : n = C.length ∧ n ≤ cap ∧ cap ≤ maxLen := by
  obtain ⟨h0, o', cap', h1, h2, h3, _⟩ := h
  simp only [Value.slice.injEq] at h1
  obtain ⟨rfl, rfl, rfl⟩ := h1
  exact ⟨rfl, h2, h3⟩
/-- The first ones of a slice. -/
theorem Sl.take {w : World} {o : Option Addr} {n cap : Nat} {C : List (List Int × List Int)} (h : Sl w (.slice o n cap) C) (k : Nat) (hk : k ≤ n) : Sl w (.slice o k cap) (C.take k) := by
  obtain ⟨h0, o', cap', h1, h2, h3, h4⟩ := h
  simp only [Value.slice.injEq] at h1
  obtain ⟨rfl, rfl, rfl⟩ := h1
  have e : (C.take k).length = k := by rw [List.length_take]; omega
  refine ⟨fun c hc => h0 c (List.mem_of_mem_take hc), o, cap, by rw [e], by omega, h3, fun i hi => ?_⟩
  obtain ⟨g, off, cur, t, fr, h5, h6, h7⟩ := h4 i (by omega)
  exact ⟨g, off, cur, t, fr, h5, h6, fun j hj => by rw [h7 j hj, List.getElem_take]⟩
theorem sl_of {w : World} {B : Nat} {v : Value} {C : List (List Int × List Int)} (h : w.ownsRow B 33 26 v C.length (ccells C)) (hC : Byts C) : Sl w v C := by
  refine ⟨hC, ?_⟩
  obtain ⟨h1, ⟨rfl, h2⟩ | ⟨g, cap, cur, rfl, hB, hcur, h5, h6, _, h4⟩⟩ := h
  · exact ⟨none, 0, by rw [h2], by omega, Nat.zero_le _, fun i hi => by omega⟩
  · refine ⟨_, cap, rfl, h5, h6, fun i hi => ⟨g, 0, cur, _, _, rfl, hcur, fun j hj => ?_⟩⟩
    rw [← ccells_at C hC i hi j hj, ← h4, List.getElem?_take_of_lt (by omega), Nat.zero_add, Nat.mul_comm]
    simp

theorem qlSl {W : World} {ops : Array Oper} {Q : Act → Prop} {rest : List Oper} {o : Oper} {a : Act} (hw : Region.wanted o (yielded ops a.tmps) = true) (x : Operand) (ho : o.op = .load 33 x)
    (g off : Nat) (hx : a.eval x = .pointer (some ⟨g, off, none⟩)) (cs : Array Value) (t : TypeId) (fr : Nat × Nat) (V M : List Int) (hV : V.length = 13) (hM : M.length = 13) (hg : W.heap[g]? = some (.cells cs t fr)) (hc : ∀ j, j < 26 → cs[off + j]? = (cv V M)[j]?)
    (h : wpQuiet Tryd.prog ops (fun w' => ∃ u : Later W, w' = u.world) Q rest (a.put o.dst (.agg (cv V M)))) : wpQuiet Tryd.prog ops (fun w' => ∃ u : Later W, w' = u.world) Q (o :: rest) a := by
  refine BigFrame.wpQuiet_want hw fun K hK => ⟨.agg (cv V M), fun w hC => ?_, hK _ h⟩
  unfold Oper.quietAt execOp
  simp only [ho, hx, Instr.loadAt, Instr.sureAddr, Sem.run_bind, Sem.run_pure, Result.andThen_ok, load_cube w g off cs t fr V M hV hM (later_block hg w hC) hc]
  exact ⟨rfl, rfl⟩

theorem hasL_at {C : List (List Int × List Int)} {H U N : List Int} {k : Nat} (hk : C[k]? = some (U, N)) (h : has U N H = true) : hasL C H = true := by
  unfold hasL
  rw [List.any_eq_true]
  exact ⟨(U, N), List.mem_of_getElem? hk, h⟩
theorem hasL_take {C : List (List Int × List Int)} {H U N : List Int} {k : Nat} (hk : C[k]? = some (U, N)) (h : has U N H = false) (hp : hasL (C.take k) H = false) : hasL (C.take (k + 1)) H = false := by
  unfold hasL at *
  rw [List.take_add_one, hk, List.any_append, hp]
  simp [h]
end Go.Proofs.YtnbklmmampdbfaaDoor
