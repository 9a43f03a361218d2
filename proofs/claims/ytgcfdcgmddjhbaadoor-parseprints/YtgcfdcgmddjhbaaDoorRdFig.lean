import Derived.Test.YtgcfdcgmddjhbaaDoorRdTake
namespace Go.Proofs.YtgcfdcgmddjhbaaDoor
open Go Go.RowKit
set_option maxRecDepth 20000

theorem retB {e : Ending} {c q : Nat} (h : Fault e c q) : e = .panicked [{ v := faultV c q, recovered := false }] := h
set_option maxHeartbeats 2000000 in
theorem figure_any (W0 w : World) (g E : Nat) (T : List Tok) (h : Rd W0 w g E T) :
    Calls Tryd.prog 27 #[.pointer (some ⟨g, 0, none⟩)] w fun e w' => Took W0 w g E (fun _ f v => v = .agg (figV f)) (takeF E T) e w' := by
  have C1 : Hid (∀ W, Below w.heap.size w W → Calls Tryd.prog 18 #[.pointer (some ⟨g, 0, none⟩), .int .i64 2] W fun e w' => Took W0 W g E (fun _ t v => v = .agg (encT t)) (takeK E 2 T) e w') := fun W hb => take_any W0 W g E 2 (by decide) T (h.below hb)
  have hgl := h.size
  unfold takeF
  cases hK : takeK E 2 T with
  | error x =>
    obtain ⟨c, q⟩ := x
    rw [hK] at C1
    clear hK
    go_enter Tryd.func27, Tryd.ntmps27
    go_wp2_with fail
    refine (C1.out _ ?_).mono ?_
    · exact (Below.refl _ _).alloc (Nat.le_refl _) _
    rintro e w1 ⟨hg1, rfl⟩
    have G1 := grown_trans (gb_alloc (gb_refl w g) _) hg1
    go_wp2_with fail
    exact ⟨rfl, G1, rfl⟩
  | ok x =>
    obtain ⟨t, T'⟩ := x
    rw [hK] at C1
    clear hK
    go_enter Tryd.func27, Tryd.ntmps27
    go_wp2_with fail
    refine (C1.out _ ?_).mono ?_
    · exact (Below.refl _ _).alloc (Nat.le_refl _) _
    rintro e w1 ⟨hg1, ⟨v, rfl, rfl⟩, R1⟩
    have z1 : w.heap.size < w1.heap.size := by have := hg1.size; simp at this; omega
    have G1 := grown_trans (gb_alloc (gb_refl w g) _) hg1
    obtain ⟨t0, t1, t2, t3⟩ := tok_cells (heap_new w1 (.cells (encT t) 52) _ rfl)
    have hr1 : Hid ((w1.alloc (.cells (encT t) 52)).heap[w.heap.size]? = some (.cells (figV ⟨0, 0⟩) 25 (0, 0))) := (heap_past _ _ _ _ ((hg1.block _ (by simp) (by simp; omega)).trans (heap_new _ _ _ rfl)))
    have HR : Hid (Rd W0 w1 g E T') := R1
    have HG : Hid (w.grownBy w1 (some g)) := G1
    clear hg1 R1 G1
    go_wp2_with (first
      | (refine wl_storeE (E := TokE) TokOk rfl _ _ rfl w1.heap.size (encT t) (tv_fits _ _ _ _) rfl rfl _ (heap_new _ _ _ rfl) rfl _ (setRow_new _ _ _ _ _ rfl) ?_)
      | (refine wl_storeE (E := FigE) FigOk rfl _ _ rfl w.heap.size (figV ⟨(t.num : Int), (t.pos : Int)⟩) (fig_fits _) rfl rfl _ hr1.out rfl _ rfl ?_))
    refine retE (E := FigE) FigOk rfl rfl w.heap.size rfl (figV ⟨(t.num : Int), (t.pos : Int)⟩) rfl (setRow_heap _ _ _ _ _ _ hr1.out) ?_
    exact ⟨gb_setRow (gb_alloc HG.out _) (.inr (Nat.le_refl _)) _, ⟨_, rfl, rfl⟩, rd_setRow (HR.out.alloc _) (by omega) (by omega) _⟩

/-- Whether a token of a kind follows; then it is taken. -/
def follT (E k : Nat) (T : List Tok) : Res (Bool × List Tok) := if (hd E T).kind = k then .ok (true, T.tail) else .ok (false, T)
set_option maxHeartbeats 2000000 in
theorem follows_any (W0 w : World) (g E k : Nat) (hk : k ≠ 0) (T : List Tok) (h : Rd W0 w g E T) :
    Calls Tryd.prog 42 #[.pointer (some ⟨g, 0, none⟩), .int .i64 (k : Int)] w fun e w' => Took W0 w g E (fun _ b v => v = .bool b) (follT E k T) e w' := by
  have C1 : Hid (∀ W, Below w.heap.size w W → Calls Tryd.prog 17 #[.pointer (some ⟨g, 0, none⟩)] W fun e w' => e = .returned (.agg (encT (hd E T))) ∧ Below W.heap.size W w') := fun W hb => peek_any W0 W g E T (h.below hb)
  have C2 : Hid (∀ W, Below w.heap.size w W → Calls Tryd.prog 18 #[.pointer (some ⟨g, 0, none⟩), .int .i64 (k : Int)] W fun e w' => Took W0 W g E (fun _ t v => v = .agg (encT t)) (takeK E k T) e w') := fun W hb => take_any W0 W g E k hk T (h.below hb)
  have H : Hid (Rd W0 w g E T) := h
  unfold follT
  by_cases hc : (hd E T).kind = k
  · rw [if_pos hc]
    obtain ⟨T', hT, hR⟩ := takeK_yes hk hc
    rw [hR] at C2
    have hT2 : T.tail = T' := by rw [hT]; rfl
    rw [hT2]
    have hne : (((hd E T).kind : Int) != (k : Int)) = false := by simp; omega
    clear hc hR hT2 h
    obtain ⟨t, ht⟩ : ∃ t, t = hd E T := ⟨_, rfl⟩
    rw [← ht] at C1 C2 hne
    clear ht hT
    have hf0 := tok_f0 t
    go_enter Tryd.func42, Tryd.ntmps42
    go_wp2_with fail
    refine (C1.out _ (Below.refl _ _)).mono ?_
    rintro e w1 ⟨rfl, hb1⟩
    go_wp2_with fail
    refine (C2.out _ hb1).mono ?_
    rintro e w2 ⟨hg2, ⟨v, rfl, rfl⟩, R2⟩
    go_wp2_with fail
    go_ret
    exact ⟨grown_trans (grown_below hb1) hg2, ⟨_, rfl, rfl⟩, R2⟩
  · rw [if_neg hc]
    have hne : (((hd E T).kind : Int) != (k : Int)) = true := by simp; omega
    clear hc C2 h
    obtain ⟨t, ht⟩ : ∃ t, t = hd E T := ⟨_, rfl⟩
    rw [← ht] at C1 hne
    clear ht
    have hf0 := tok_f0 t
    go_enter Tryd.func42, Tryd.ntmps42
    go_wp2_with fail
    refine (C1.out _ (Below.refl _ _)).mono ?_
    rintro e w1 ⟨rfl, hb1⟩
    go_wp2_with fail
    go_ret
    exact ⟨grown_below hb1, ⟨_, rfl, rfl⟩, H.out.below hb1⟩

/-- An address: four numbers with a Dot between. -/
def addrT (E : Nat) (T : List Tok) : Res (List Fig × List Tok) := (takeF E T).bind fun x => (takeD E 3 x.2).map fun y => (x.1 :: y.1, y.2)
def FigsOwn (B : Nat) (w : World) (F : List Fig) (v : Value) : Prop := w.ownsRow B 25 2 v F.length (gcells figV F)
set_option maxHeartbeats 4000000 in
theorem address_any (W0 w : World) (g E : Nat) (T : List Tok) (h : Rd W0 w g E T) :
    Calls Tryd.prog 41 #[.pointer (some ⟨g, 0, none⟩)] w fun e w' => Took W0 w g E (FigsOwn w.heap.size) (addrT E T) e w' := by
  have CF : Hid (∀ W T, Rd W0 W g E T → Calls Tryd.prog 27 #[.pointer (some ⟨g, 0, none⟩)] W fun e w' => Took W0 W g E (fun _ f v => v = .agg (figV f)) (takeF E T) e w') := fun W T h => figure_any W0 W g E T h
  have CK : Hid (∀ W T, Rd W0 W g E T → Calls Tryd.prog 18 #[.pointer (some ⟨g, 0, none⟩), .int .i64 3] W fun e w' => Took W0 W g E (fun _ t v => v = .agg (encT t)) (takeK E 3 T) e w') := fun W T h => take_any W0 W g E 3 (by decide) T h
  have hgl := h.size
  have H : Hid (Rd W0 w g E T) := h
  obtain ⟨A, hA⟩ : ∃ A, A = addrT E T := ⟨_, rfl⟩
  rw [← hA]
  unfold addrT at hA
  clear h
  go_enter Tryd.func41, Tryd.ntmps41
  go_wp2_with fail
  refine (CF.out _ T H.out).mono ?_
  cases hF : takeF E T with
  | error x =>
    obtain ⟨c, q⟩ := x
    have HA : Hid (A = .error (c, q)) := by rw [hA, hF]; rfl
    clear hA hF
    rintro e w1 ⟨hg1, rfl⟩
    go_wp2_with fail
    rw [HA.out]
    exact ⟨rfl, hg1, rfl⟩
  | ok x =>
    obtain ⟨f, T1⟩ := x
    have HA : Hid (A = (takeD E 3 T1).map fun y => (f :: y.1, y.2)) := by rw [hA, hF]; rfl
    clear hA hF
    rintro e w1 ⟨hg1, ⟨v, rfl, rfl⟩, R1⟩
    have z1 := hg1.size
    have n1 := heap_new w1 (.cells (figV f) 25) _ rfl
    go_wp2_with (first
      | (refine wl_buildE (E := FigE) FigOk rfl _ rfl (figV f) rfl rfl ?_))
    go_loopw [3] (fun out wr => ∃ (n : Nat) (F : List Fig) (T2 : List Tok), n ≤ 3 ∧ F.length = 4 - n ∧ Hid (A = (takeD E n T2).map fun y => (F ++ y.1, y.2)) ∧ w.grownBy wr (some g) ∧ Rd W0 wr g E T2 ∧ wr.ownsRow w.heap.size 25 2 out F.length (gcells figV F)) (fun out _ => 4 - (match out with | .slice _ n _ => n | _ => 0))
    case atStart => exact ⟨3, [f], T1, Nat.le_refl _, rfl, HA, gb_alloc hg1 _, R1.alloc _, ⟨rfl, Or.inr ⟨w1.heap.size, 1, figV f, rfl, z1, n1, Nat.le_refl 1, by decide, rfl, rfl⟩⟩⟩
    case round =>
      obtain ⟨n, F, T2, hn, hFl, HA2, hg, R2, hown⟩ := hrel
      clear HA n1 R1 hg1 z1
      obtain ⟨o, cap, rfl⟩ := gown_slice hown
      obtain ⟨L, hL⟩ : ∃ L, L = F.length := ⟨_, rfl⟩
      have HL : Hid (L = F.length) := hL
      rw [← hL] at hown ⊢
      have HOWN : Hid (wr.ownsRow w.heap.size 25 2 (.slice o L cap) F.length (gcells figV F)) := by rw [← hL]; exact hown
      have HG : Hid (w.grownBy wr (some g)) := hg
      have HR2 : Hid (Rd W0 wr g E T2) := R2
      clear hown hg R2
      cases n with
      | zero =>
        have h4 : (4 : Int) ≤ (L : Int) := by omega
        have hA : A = .ok (F, T2) := by rw [HA2.out]; simp [takeD, Except.map]
        have HA3 : Hid (A = .ok (F, T2)) := hA
        clear hA HA2 hL
        go_wp2_with fail
        go_ret
        rw [HA3.out]
        exact ⟨HG.out, ⟨_, rfl, HOWN.out⟩, HR2.out⟩
      | succ n =>
        have h4 : (L : Int) < 4 := by omega
        have hl3 : L ≤ 3 := by omega
        clear hL
        go_wp2_with fail
        refine (CK.out _ T2 HR2.out).mono ?_
        cases hK : takeK E 3 T2 with
        | error x =>
          obtain ⟨c, q⟩ := x
          have HA3 : Hid (A = .error (c, q)) := by show _ = _; rw [HA2.out, takeD, hK]; rfl
          clear hK
          rintro e w3 ⟨hg3, rfl⟩
          go_wp2_with fail
          rw [HA3.out]
          exact ⟨rfl, grown_trans HG.out hg3, rfl⟩
        | ok x =>
          obtain ⟨t, T3⟩ := x
          rintro e w3 ⟨hg3, ⟨v, rfl, rfl⟩, R3⟩
          have HG3 : Hid (w.grownBy w3 (some g)) := grown_trans HG.out hg3
          have HOWN3 : Hid (w3.ownsRow w.heap.size 25 2 (.slice o L cap) F.length (gcells figV F)) := own_by hg3 hgl.2 HOWN.out
          have HR3 : Hid (Rd W0 w3 g E T3) := R3
          clear hg3 R3
          go_wp2_with fail
          refine (CF.out _ T3 HR3.out).mono ?_
          cases hF : takeF E T3 with
          | error x =>
            obtain ⟨c, q⟩ := x
            have HA3 : Hid (A = .error (c, q)) := by show _ = _; rw [HA2.out, takeD, hK]; show ((takeF E T3).bind _).map _ = _; rw [hF]; rfl
            clear hK hF
            rintro e w4 ⟨hg4, rfl⟩
            go_wp2_with fail
            rw [HA3.out]
            exact ⟨rfl, grown_trans HG3.out hg4, rfl⟩
          | ok x =>
            obtain ⟨f2, T4⟩ := x
            have HA3 : Hid (A = (takeD E n T4).map fun y => (F ++ [f2] ++ y.1, y.2)) := by
              show _ = _
              rw [HA2.out, takeD, hK]
              show ((takeF E T3).bind _).map _ = _
              rw [hF]
              show ((takeD E n T4).map _).map _ = _
              cases takeD E n T4 with
              | error x => rfl
              | ok x => simp [Except.map]
            clear hK hF
            rintro e w4 ⟨hg4, ⟨v, rfl, rfl⟩, R4⟩
            have HG4 : Hid (w.grownBy w4 (some g)) := grown_trans HG3.out hg4
            have HOWN4 : Hid (w4.ownsRow w.heap.size 25 2 (.slice o L cap) F.length (gcells figV F)) := own_by hg4 hgl.2 HOWN3.out
            have HR4 : Hid (Rd W0 w4 g E T4) := R4
            clear hg4 R4
            go_wp2_with (first
              | (refine wl_buildE (E := FigE) FigOk rfl _ rfl (figV f2) rfl rfl ?_)
              | (at_builtin; refine of_stopT ?_))
            unfold StopT
            have HO5 : Hid ((w4.alloc (.cells (figV f2) 25)).ownsRow w.heap.size 25 2 (.slice o L cap) F.length (gcells figV F)) := HOWN4.out.alloc _
            refine wl_appendE (E := FigE) FigOk figV rfl _ _ rfl w.heap.size _ F f2 (fig_fits _) rfl HO5.out _ 1 rfl (heap_new _ _ _ rfl) (by omega) (by have := HG4.out.size; simp; omega) ?_
            intro v' w5 hown5 hgr5 _
            have HG5 : Hid (w.grownBy w5 (some g)) := gb_own (gb_alloc HG4.out _) hgr5 fun k hk => (HO5.out.lt k hk).1
            have HR5 : Hid (Rd W0 w5 g E T4) := rd_own (HR4.out.alloc _) hgr5 fun k hk => Nat.lt_of_lt_of_le hgl.2 (HO5.out.lt k hk).1
            have HOWN5 : Hid (w5.ownsRow w.heap.size 25 2 v' (F ++ [f2]).length (gcells figV (F ++ [f2]))) := hown5
            obtain ⟨o5, cap5, rfl⟩ := gown_slice hown5
            clear hown5 hgr5
            simp only [Act.put, List.setIfInBounds_toArray, List.set_cons_succ, List.set_cons_zero]
            go_wp2_with fail
            go_roundw
            case rel => exact ⟨n, F ++ [f2], T4, by omega, by simp; omega, HA3, HG5.out, HR5.out, HOWN5.out⟩
            case measure => have := HL.out; simp; omega
end Go.Proofs.YtgcfdcgmddjhbaaDoor
