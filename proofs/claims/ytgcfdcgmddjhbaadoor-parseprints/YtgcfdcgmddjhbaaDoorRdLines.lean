import Derived.Test.YtgcfdcgmddjhbaaDoorRdLine
namespace Go.Proofs.YtgcfdcgmddjhbaaDoor
open Go Go.RowKit
set_option maxRecDepth 20000

/-- Lines in memory that are one's own. -/
def RawsOwn (B : Nat) (w : World) (L : List Raw) (v : Value) : Prop := NOwn RawE rawV (fun w x u => ClasOwn B w x.clauses u) w B v L
theorem RawsOwn.by {w w' : World} {g B : Nat} (hgr : w.grownBy w' (some g)) (hB : g < B) {L : List Raw} {v : Value} (h : RawsOwn B w L v) : RawsOwn B w' L v := by
  obtain ⟨P, h1, h2, h3⟩ := h
  exact ⟨P, h1, own_by hgr hB h2, fun p hp => (h3 p hp).by hgr hB⟩
theorem RawsOwn.below {w w' : World} {B : Nat} (hb : Below w.heap.size w w') {L : List Raw} {v : Value} (h : RawsOwn B w L v) : RawsOwn B w' L v := by
  obtain ⟨P, h1, h2, h3⟩ := h
  exact ⟨P, h1, gown_below h2 hb, fun p hp => (h3 p hp).below hb⟩
theorem clas_grown {w w' : World} {B B' : Nat} {n : Nat} {v : Value} {xs : List Value} (hown : w.ownsRow B' 28 8 v n xs) (hgr : w.grownBy w' v.ownBlock) {C : List Cla} {u : Value} (h : ClasOwn B w C u) : ClasOwn B w' C u := by
  obtain ⟨P, h1, h2, h3⟩ := h
  exact ⟨P, h1, own_grown hgr h2 (own_apart hown h2 (by decide)), fun p hp => own_grown hgr (h3 p hp) (own_apart hown (h3 p hp) (by decide))⟩
theorem takeL_fuel (E : Nat) : ∀ (f f' : Nat) (had : List Raw) (T : List Tok), T.length < f → T.length < f' → takeL E f had T = takeL E f' had T
  | 0, _, _, _, h, _ => absurd h (by omega)
  | _ + 1, 0, _, _, _, h => absurd h (by omega)
  | f + 1, f' + 1, had, [], _, _ => rfl
  | f + 1, f' + 1, had, t :: T, h, h' => by
    simp only [List.length_cons] at h h'
    rw [takeL, takeL]
    split
    · exact takeL_fuel E f f' had T (by omega) (by omega)
    · split
      · rfl
      · cases hR : takeR E (t :: T) with
        | error x => rfl
        | ok x =>
          obtain ⟨A, t6, B, hT, _, _, _, _⟩ := eats_R (x := x.1) (T' := x.2) hR
          have := congrArg List.length hT
          simp only [List.length_cons, List.length_append] at this
          exact takeL_fuel E f f' _ x.2 (by omega) (by omega)
theorem line_len {E : Nat} {T T' : List Tok} {x : Raw} (h : lineT E T = .ok (x, T')) : T'.length < T.length ∧ ∃ A, T = A ++ T' := by
  unfold lineT at h
  obtain ⟨a, h1, h2⟩ := bind_ok h
  obtain ⟨b, h3, h4⟩ := bind_ok h2
  obtain ⟨c, h5, h6⟩ := map_ok h4
  cases h6
  have e6 := (takeK_in (t := b.1) (T' := b.2) h3).1
  have eA : ∃ A, b.2 = A ++ c.2 := by
    rw [takeA_eq] at h5
    obtain ⟨d, h7, h8⟩ := bind_ok h5
    have e7 := (takeK_in (t := d.1) (T' := d.2) h7).1
    split at h8
    · cases h8; exact ⟨[d.1], e7⟩
    · split at h8
      · obtain ⟨e, h9, h10⟩ := map_ok h8
        cases h10
        obtain ⟨A, hA, _⟩ := eats_F (f := e.1) (T' := e.2) h9
        exact ⟨d.1 :: A, by rw [e7, hA]; rfl⟩
      · cases h8
  have eH : ∃ A, T = A ++ a.2 := by
    cases T with
    | nil => cases h1
    | cons t T =>
      have h1' : (if t.kind = 1 ∧ t.text = wDefault then (.ok ((true, ⟨0, 0⟩, []), T) : Res ((Bool × Fig × List Cla) × List Tok)) else (takeF E (t :: T)).bind fun x => (takeCs E x.2.length [] x.2).map fun y => ((false, x.1, y.1), y.2)) = .ok a := h1
      by_cases hc : t.kind = 1 ∧ t.text = wDefault
      · rw [if_pos hc] at h1'
        cases h1'
        exact ⟨[t], rfl⟩
      · rw [if_neg hc] at h1'
        obtain ⟨d, h7, h8⟩ := bind_ok h1'
        obtain ⟨e, h9, h10⟩ := map_ok h8
        cases h10
        obtain ⟨A, hA, _⟩ := eats_F (f := d.1) (T' := d.2) h7
        obtain ⟨B, hB, _⟩ := eats_Cs (l := e.1) (T' := e.2) h9
        exact ⟨A ++ B, by rw [hA, hB]; simp⟩
  obtain ⟨A, hA⟩ := eA
  obtain ⟨B, hB⟩ := eH
  rw [hB, e6, hA]
  refine ⟨by simp; omega, ⟨B ++ b.1 :: A, by simp⟩⟩
/-- What is asked of the tokens: a word's text stands in a Word alone. -/
def WordT (T : List Tok) : Prop := ∀ t ∈ T, t.text = wDefault → t.kind = 1
theorem rd_cell {W0 w : World} {g E : Nat} {T : List Tok} (h : Rd W0 w g E T) : ∃ o cap, w.cell? ⟨g, 0, none⟩ = some (.slice o T.length cap) := by
  obtain ⟨_, _, v, h2, h3⟩ := h
  obtain ⟨o, cap, rfl, _, _⟩ := h3.slice
  exact ⟨o, cap, by rw [cell_of_row _ _ _ _ _ _ h2]; rfl⟩

set_option maxHeartbeats 8000000 in
theorem lines_any (W0 w : World) (g E : Nat) (T : List Tok) (hTl : T.length ≤ 5000) (hW : WordT T) (h : Rd W0 w g E T) :
    Calls Tryd.prog 12 #[.pointer (some ⟨g, 0, none⟩)] w fun e w' => Took W0 w g E (RawsOwn w.heap.size) ((takeL E (T.length + 1) [] T).map fun l => (l, ([] : List Tok))) e w' := by
  have CP : Hid (∀ W T, Rd W0 W g E T → Calls Tryd.prog 17 #[.pointer (some ⟨g, 0, none⟩)] W fun e w' => e = .returned (.agg (encT (hd E T))) ∧ Below W.heap.size W w') := fun W T h => peek_any W0 W g E T h
  have CK : Hid (∀ W T, Rd W0 W g E T → Calls Tryd.prog 18 #[.pointer (some ⟨g, 0, none⟩), .int .i64 7] W fun e w' => Took W0 W g E (fun _ t v => v = .agg (encT t)) (takeK E 7 T) e w') := fun W T h => take_any W0 W g E 7 (by decide) T h
  have CL : Hid (∀ W t T, (t :: T).length ≤ 5000 → (t.text = wDefault → t.kind = 1) → Rd W0 W g E (t :: T) → Calls Tryd.prog 19 #[.pointer (some ⟨g, 0, none⟩)] W fun e w' => Took W0 W g E (RawR W.heap.size) (lineT E (t :: T)) e w') := fun W t T hl hw h => line_any W0 W g E t T hl hw h
  have hgl := h.size
  have H : Hid (Rd W0 w g E T) := h
  obtain ⟨A, hA⟩ : ∃ A, A = takeL E (T.length + 1) [] T := ⟨_, rfl⟩
  rw [← hA]
  have HA0 : Hid (A = takeL E (T.length + 1) [] T) := hA
  have HW0 : Hid (WordT T) := hW
  clear h hA hW
  go_enter Tryd.func12, Tryd.ntmps12
  go_wp2_with fail
  go_loopw [3] (fun out wr => ∃ (f : Nat) (had : List Raw) (T1 : List Tok), T1.length < f ∧ had.length ≤ 64 ∧ T1.length ≤ 5000 ∧ Hid (WordT T1) ∧ Hid (A = takeL E f had T1) ∧ w.grownBy wr (some g) ∧ Rd W0 wr g E T1 ∧ RawsOwn w.heap.size wr had out) (fun _ wr => restN wr g)
  case atStart => exact ⟨T.length + 1, [], T, by omega, by simp, hTl, HW0, HA0, gb_refl _ _, H.out, NOwn.nil _ _ _ _ _⟩
  case round =>
    obtain ⟨f, had, T1, hf, h64, hl, HW, HA, hg, R1, hown⟩ := hrel
    obtain ⟨o3, cap3, rfl⟩ : ∃ o cap, u3 = .slice o had.length cap := by
      obtain ⟨P, hP, hP2, _⟩ := hown
      obtain ⟨o, cap, e⟩ := gown_slice hP2
      exact ⟨o, cap, by rw [e, ← hP, List.length_map]⟩
    have OWN : Hid (RawsOwn w.heap.size wr had (.slice o3 had.length cap3)) := hown
    have HG : Hid (w.grownBy wr (some g)) := hg
    have HR : Hid (Rd W0 wr g E T1) := R1
    obtain ⟨o, cap, c0⟩ := rd_cell R1
    have HRest : Hid (restN wr g = T1.length) := rest_is R1
    clear hown hg R1 HA0 HW0
    cases T1 with
    | nil =>
      have HA2 : Hid (A = .ok had) := by
        show _ = _
        rw [HA.out]
        cases f with
        | zero => rfl
        | succ f => rfl
      simp only [List.length_nil] at c0
      clear HA
      go_wp2_with fail
      go_ret
      rw [HA2.out]
      exact ⟨HG.out, ⟨_, rfl, OWN.out⟩, HR.out⟩
    | cons t T2 =>
      obtain ⟨f', rfl⟩ : ∃ f', f = f' + 1 := ⟨f - 1, by omega⟩
      simp only [List.length_cons] at c0 hf hl
      have hpos : (0 : Int) < (T2.length : Int) + 1 := by omega
      have HRest2 : Hid (restN wr g = T2.length + 1) := HRest.out
      clear HRest
      go_wp2_with fail
      refine (CP.out _ (t :: T2) HR.out).mono ?_
      rintro e w1 ⟨rfl, hb1⟩
      have hhd : hd E (t :: T2) = t := rfl
      rw [hhd]
      clear hhd c0
      have HR1 : Hid (Rd W0 (w1.alloc (.cells (encT t) 52)) g E (t :: T2)) := (HR.out.below hb1).alloc _
      have HG1 : Hid (w.grownBy (w1.alloc (.cells (encT t) 52)) (some g)) := gb_alloc (grown_trans HG.out (grown_below hb1)) _
      have OWN1 : Hid (RawsOwn w.heap.size (w1.alloc (.cells (encT t) 52)) had (.slice o3 had.length cap3)) := (OWN.out.below hb1).below ((Below.refl _ _).alloc (Nat.le_refl _) _)
      obtain ⟨t0, t1, _, _⟩ := tok_cells (heap_new w1 (.cells (encT t) 52) _ rfl)
      clear hb1
      by_cases hk7 : t.kind = 7
      · have hk' : ((t.kind : Int) == 7) = true := by simp; omega
        have HA2 : Hid (A = takeL E f' had T2) := by show _ = _; rw [HA.out, takeL, if_pos hk7]
        have HK : Hid (takeK E 7 (t :: T2) = .ok (t, T2)) := if_pos hk7
        have HW2 : Hid (WordT T2) := fun u hu => HW.out u (by simp [hu])
        clear hk7 HA
        go_wp2_with (first
          | (refine wl_storeE (E := TokE) TokOk rfl _ _ rfl w1.heap.size (encT t) (tv_fits _ _ _ _) rfl rfl _ (heap_new _ _ _ rfl) rfl _ (setRow_new _ _ _ _ _ rfl) ?_))
        refine (CK.out _ (t :: T2) HR1.out).mono ?_
        rw [HK.out]
        rintro e w2 ⟨hg2, ⟨v, rfl, rfl⟩, R2⟩
        have HR2 : Hid (Rd W0 w2 g E T2) := R2
        have HG2 : Hid (w.grownBy w2 (some g)) := grown_trans HG1.out hg2
        have OWN2 : Hid (RawsOwn w.heap.size w2 had (.slice o3 had.length cap3)) := OWN1.out.by hg2 hgl.2
        clear hg2 R2 t0 t1
        go_wp2_with fail
        go_roundw
        case rel => exact ⟨f', had, T2, by omega, h64, by omega, HW2, HA2, HG2.out, HR2.out, OWN2.out⟩
        case measure => rw [HRest2.out, rest_is HR2.out]; omega
      · have hk' : ((t.kind : Int) == 7) = false := by simp; omega
        by_cases hm : had.length = 64
        · have HA2 : Hid (A = .error (4, t.pos)) := by show _ = _; rw [HA.out, takeL, if_neg hk7, if_pos hm]
          have hm' : ((had.length : Int) == 64) = true := by simp; omega
          clear hk7 hm HA
          go_wp2_with (first
            | (refine wl_storeE (E := TokE) TokOk rfl _ _ rfl w1.heap.size (encT t) (tv_fits _ _ _ _) rfl rfl _ (heap_new _ _ _ rfl) rfl _ (setRow_new _ _ _ _ _ rfl) ?_))
          rw [HA2.out]
          exact ⟨rfl, HG1.out, rfl⟩
        · have HA2 : Hid (A = (takeR E (t :: T2)).bind fun x => takeL E f' (had ++ [x.1]) x.2) := by show _ = _; rw [HA.out, takeL, if_neg hk7, if_neg hm]
          have hm' : ((had.length : Int) == 64) = false := by simp; omega
          have hm2 : had.length + 1 ≤ 64 := by omega
          have HWt : Hid (t.text = wDefault → t.kind = 1) := HW.out t (by simp)
          clear hk7 hm HA
          go_wp2_with (first
            | (refine wl_storeE (E := TokE) TokOk rfl _ _ rfl w1.heap.size (encT t) (tv_fits _ _ _ _) rfl rfl _ (heap_new _ _ _ rfl) rfl _ (setRow_new _ _ _ _ _ rfl) ?_))
          refine (CL.out _ t T2 (by simp; omega) HWt.out HR1.out).mono ?_
          cases hL : lineT E (t :: T2) with
          | error x =>
            obtain ⟨c, q⟩ := x
            have HA3 : Hid (A = .error (c, q)) := by show _ = _; rw [HA2.out, takeR_line, hL]; rfl
            clear hL HA2
            rintro e w2 ⟨hg2, rfl⟩
            go_wp2_with fail
            rw [HA3.out]
            exact ⟨rfl, grown_trans HG1.out hg2, rfl⟩
          | ok x =>
            obtain ⟨x, T3⟩ := x
            obtain ⟨hlen, A3, hT3⟩ := line_len hL
            simp only [List.length_cons] at hlen
            have HA3 : Hid (A = ((takeE T3).map fun u => (x, u)).bind fun x => takeL E f' (had ++ [x.1]) x.2) := by show _ = _; rw [HA2.out, takeR_line, hL]; rfl
            have HW3 : Hid (WordT T3) := fun u hu => HW.out u (by rw [hT3]; simp [hu])
            clear hL HA2 hT3
            rintro e w2 ⟨hg2, ⟨v, rfl, u, rfl, hcl2⟩, R2⟩
            have z1 := HG1.out.size
            have HR2 : Hid (Rd W0 w2 g E T3) := R2
            have HG2 : Hid (w.grownBy w2 (some g)) := grown_trans HG1.out hg2
            have OWN2 : Hid (RawsOwn w.heap.size w2 had (.slice o3 had.length cap3)) := OWN1.out.by hg2 hgl.2
            have HC2 : Hid (ClasOwn w.heap.size w2 x.clauses u) := clas_base hcl2 z1
            obtain ⟨o5, n5, m5, rfl⟩ := clas_slice hcl2
            clear hg2 R2 t0 t1 hcl2
            go_wp2_with (first
              | (refine wl_buildE (E := RawE) RawOk rfl _ rfl (rawV x (.slice o5 n5 m5)) rfl rfl ?_)
              | (at_builtin; refine of_stopT ?_))
            unfold StopT
            obtain ⟨P, hP1, hP2, hP3⟩ := OWN2.out
            have HO6 : Hid ((w2.alloc (.cells (rawV x (.slice o5 n5 m5)) 28)).ownsRow w.heap.size 28 8 (.slice o3 had.length cap3) P.length (gcells (fun p : Raw × Value => rawV p.1 p.2) P)) := hP2.alloc _
            have hPl : P.length = had.length := by rw [← hP1, List.length_map]
            have z5 := HG2.out.size
            refine wl_appendE (E := RawE) RawOk (fun p : Raw × Value => rawV p.1 p.2) rfl _ _ rfl w.heap.size _ P (x, .slice o5 n5 m5) (raw_fits _ _ ⟨_, _, _, rfl⟩) rfl HO6.out _ 1 rfl (heap_new _ _ _ rfl) (by omega) (by simp; omega) ?_
            intro v' w6 hown6 hgr6 _
            have alc : Below w2.heap.size w2 (w2.alloc (.cells (rawV x (.slice o5 n5 m5)) 28)) := (Below.refl _ _).alloc (Nat.le_refl _) _
            have HOWN6 : Hid (RawsOwn w.heap.size w6 (had ++ [x]) v') := NOwn.snoc (E := RawE) (row := rawV) (R := fun w' x u => ClasOwn w.heap.size w' x.clauses u) hP1 hown6 (fun p hp => clas_grown HO6.out hgr6 ((hP3 p hp).below alc)) (clas_grown HO6.out hgr6 (HC2.out.below alc))
            have HG6 : Hid (w.grownBy w6 (some g)) := gb_own (gb_alloc HG2.out _) hgr6 fun k hk => (HO6.out.lt k hk).1
            have R6 : Rd W0 w6 g E T3 := rd_own (HR2.out.alloc _) hgr6 fun k hk => Nat.lt_of_lt_of_le hgl.2 (HO6.out.lt k hk).1
            have HR6 : Hid (Rd W0 w6 g E T3) := R6
            obtain ⟨o7, cap7, c7⟩ := rd_cell R6
            obtain ⟨o6, cap6, rfl⟩ := gown_slice hown6
            clear hown6 hgr6 hP1 hP2 hP3 hPl HO6 alc R6
            simp only [Act.put, List.setIfInBounds_toArray, List.set_cons_succ, List.set_cons_zero]
            cases T3 with
            | nil =>
              have HA4 : Hid (A = takeL E f' (had ++ [x]) []) := HA3.out
              simp only [List.length_nil] at c7
              clear HA3
              go_wp2_with fail
              go_roundw
              case rel => exact ⟨f', had ++ [x], [], by simp; omega, by simp; omega, by simp, HW3, HA4, HG6.out, HR6.out, HOWN6.out⟩
              case measure => rw [HRest2.out, rest_is HR6.out]; simp
            | cons t7 T4 =>
              simp only [List.length_cons] at c7 hlen
              have hpos7 : (0 : Int) < (T4.length : Int) + 1 := by omega
              go_wp2_with fail
              refine (CK.out _ (t7 :: T4) HR6.out).mono ?_
              by_cases hk8 : t7.kind = 7
              · obtain ⟨f2, rfl⟩ : ∃ f2, f' = f2 + 1 := ⟨f' - 1, by omega⟩
                have HK : Hid (takeK E 7 (t7 :: T4) = .ok (t7, T4)) := if_pos hk8
                have HA4 : Hid (A = takeL E f2 (had ++ [x]) T4) := by
                  show _ = _
                  have hE : takeE (t7 :: T4) = .ok (t7 :: T4) := if_pos hk8
                  rw [HA3.out, hE]
                  show takeL E (f2 + 1) (had ++ [x]) (t7 :: T4) = _
                  rw [takeL, if_pos hk8]
                have HW4 : Hid (WordT T4) := fun u hu => HW3.out u (by simp [hu])
                rw [HK.out]
                clear hk8 HA3
                rintro e w8 ⟨hg8, ⟨v, rfl, rfl⟩, R8⟩
                have HR8 : Hid (Rd W0 w8 g E T4) := R8
                have HG8 : Hid (w.grownBy w8 (some g)) := grown_trans HG6.out hg8
                have OWN8 := HOWN6.out.by hg8 hgl.2
                have HOWN8 : Hid (RawsOwn w.heap.size w8 (had ++ [x]) (.slice o6 (P ++ [(x, Value.slice o5 n5 m5)]).length cap6)) := OWN8
                clear hg8 R8 OWN8 c7
                go_wp2_with fail
                go_roundw
                case rel => exact ⟨f2, had ++ [x], T4, by omega, by simp; omega, by omega, HW4, HA4, HG8.out, HR8.out, by have := HOWN8.out; simpa using this⟩
                case measure => rw [HRest2.out, rest_is HR8.out]; omega
              · have HK : Hid (takeK E 7 (t7 :: T4) = .error (8, t7.pos)) := if_neg hk8
                have HA4 : Hid (A = .error (8, t7.pos)) := by
                  show _ = _
                  have hE : takeE (t7 :: T4) = .error (8, t7.pos) := if_neg hk8
                  rw [HA3.out, hE]
                  rfl
                rw [HK.out]
                clear hk8 HA3
                rintro e w8 ⟨hg8, rfl⟩
                go_wp2_with fail
                rw [HA4.out]
                exact ⟨rfl, grown_trans HG6.out hg8, rfl⟩
end Go.Proofs.YtgcfdcgmddjhbaaDoor
