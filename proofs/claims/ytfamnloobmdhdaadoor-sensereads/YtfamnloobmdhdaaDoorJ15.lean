import Derived.Test.YtfamnloobmdhdaaDoorJ14
import Derived.Test.YtfamnloobmdhdaaDoorJ2
import Derived.Shelf.Strconv.Clone
import Derived.WalkMore
namespace Go.Proofs.YtfamnloobmdhdaaDoor
open Go Go.RowKit
set_option maxRecDepth 20000

/-- Lines in memory that are one's own. -/
def RawsOwn (B : Nat) (w : World) (L : List Raw) (v : Value) : Prop := NOwn RawE rawV (fun w x u => ClasOwn B w x.clauses u) w B v L
theorem RawsOwn.by {w w' : World} {g B : Nat} (hgr : w.grownBy w' (some g)) (hB : g < B) {L : List Raw} {v : Value} (h : RawsOwn B w L v) : RawsOwn B w' L v := by
  obtain ⟨P, h1, h2, h3⟩ := h
  exact ⟨P, h1, own_by hgr hB h2, fun p hp => (h3 p hp).by hgr hB⟩
theorem RawsOwn.below {w w' : World} {B : Nat} (hb : Below w.heap.size w w') {L : List Raw} {v : Value} (h : RawsOwn B w L v) : RawsOwn B w' L v := by
  obtain ⟨P, h1, h2, h3⟩ := h
  exact ⟨P, h1, gown_below h2 hb, fun p hp => (h3 p hp).below hb⟩
theorem clas_grown {w w' : World} {B B' : Nat} {n : Nat} {v : Value} {xs : List Value} (hown : w.ownsRow B' 51 8 v n xs) (hgr : w.grownBy w' v.ownBlock) {C : List Cla} {u : Value} (h : ClasOwn B w C u) : ClasOwn B w' C u := by
  obtain ⟨P, h1, h2, h3⟩ := h
  exact ⟨P, h1, own_grown hgr h2 (own_apart hown h2 (by decide)), fun p hp => own_grown hgr (h3 p hp) (own_apart hown (h3 p hp) (by decide))⟩
theorem line_len {E : Nat} {T T' : List Tok} {x : Raw} (h : lineT E T = .ok (x, T')) : T'.length < T.length ∧ ∃ A, T = A ++ T' := by
  unfold lineT at h
  obtain ⟨a, h1, h2⟩ := bind_ok h
  obtain ⟨b, h3, h4⟩ := bind_ok h2
  obtain ⟨c, h5, h6⟩ := map_ok h4
  cases h6
  have e6 := (takeK_in (t := b.1) (T' := b.2) h3).1
  have eA : ∃ A, b.2 = A ++ c.2 := by
    rw [takeA_eq] at h5
    obtain ⟨d, h7, h8⟩ := bind_ok h5
    have e7 := (takeK_in (t := d.1) (T' := d.2) h7).1
    split at h8
    · cases h8; exact ⟨[d.1], e7⟩
    · split at h8
      · obtain ⟨e, h9, h10⟩ := map_ok h8
        cases h10
        obtain ⟨A, hA, _⟩ := eats_F (f := e.1) (T' := e.2) h9
        exact ⟨d.1 :: A, by rw [e7, hA]; rfl⟩
      · cases h8
  have eH : ∃ A, T = A ++ a.2 := by
    cases T with
    | nil => cases h1
    | cons t T =>
      have h1' : (if t.kind = 1 ∧ t.text = wDefault then (.ok ((true, ⟨0, 0⟩, []), T) : Res ((Bool × Fig × List Cla) × List Tok)) else (takeF E (t :: T)).bind fun x => (takeCs E x.2.length [] x.2).map fun y => ((false, x.1, y.1), y.2)) = .ok a := h1
      by_cases hc : t.kind = 1 ∧ t.text = wDefault
      · rw [if_pos hc] at h1'
        cases h1'
        exact ⟨[t], rfl⟩
      · rw [if_neg hc] at h1'
        obtain ⟨d, h7, h8⟩ := bind_ok h1'
        obtain ⟨e, h9, h10⟩ := map_ok h8
        cases h10
        obtain ⟨A, hA, _⟩ := eats_F (f := d.1) (T' := d.2) h7
        obtain ⟨B, hB, _⟩ := eats_Cs (l := e.1) (T' := e.2) h9
        exact ⟨A ++ B, by rw [hA, hB]; simp⟩
  obtain ⟨A, hA⟩ := eA
  obtain ⟨B, hB⟩ := eH
  rw [hB, e6, hA]
  refine ⟨by simp; omega, ⟨B ++ b.1 :: A, by simp⟩⟩
/-- What is asked of the tokens: a word's text stands in a Word alone. -/
def WordT (T : List Tok) : Prop := ∀ t ∈ T, t.text = wDefault → t.kind = 1
theorem rd_cell {W0 w : World} {g E : Nat} {T : List Tok} (h : Rd W0 w g E T) : ∃ o cap, w.cell? ⟨g, 0, none⟩ = some (.slice o T.length cap) := by
  obtain ⟨_, _, v, h2, h3⟩ := h
  obtain ⟨o, cap, rfl, _, _⟩ := h3.slice
  exact ⟨o, cap, by rw [cell_of_row _ _ _ _ _ _ h2]; rfl⟩

set_option maxHeartbeats 8000000 in
theorem lines_any (W0 w : World) (g E : Nat) (T : List Tok) (hTl : T.length ≤ 5000) (hW : WordT T) (h : Rd W0 w g E T) :
    Calls Tryd.prog 43 #[.pointer (some ⟨g, 0, none⟩)] w fun e w' => Took W0 w g E (RawsOwn w.heap.size) ((takeL E (T.length + 1) [] T).map fun l => (l, ([] : List Tok))) e w' := by
  have CP : Hid (∀ W T, Rd W0 W g E T → Calls Tryd.prog 66 #[.pointer (some ⟨g, 0, none⟩)] W fun e w' => e = .returned (.agg (encT (hd E T))) ∧ Below W.heap.size W w') := fun W T h => peek_any W0 W g E T h
  have CK : Hid (∀ W T, Rd W0 W g E T → Calls Tryd.prog 67 #[.pointer (some ⟨g, 0, none⟩), .int .i64 7] W fun e w' => Took W0 W g E (fun _ t v => v = .agg (encT t)) (takeK E 7 T) e w') := fun W T h => take_any W0 W g E 7 (by decide) T h
  have CL : Hid (∀ W t T, (t :: T).length ≤ 5000 → (t.text = wDefault → t.kind = 1) → Rd W0 W g E (t :: T) → Calls Tryd.prog 68 #[.pointer (some ⟨g, 0, none⟩)] W fun e w' => Took W0 W g E (RawR W.heap.size) (lineT E (t :: T)) e w') := fun W t T hl hw h => line_any W0 W g E t T hl hw h
  have hgl := h.size
  have H : Hid (Rd W0 w g E T) := h
  obtain ⟨A, hA⟩ : ∃ A, A = takeL E (T.length + 1) [] T := ⟨_, rfl⟩
  rw [← hA]
  have HA0 : Hid (A = takeL E (T.length + 1) [] T) := hA
  have HW0 : Hid (WordT T) := hW
  clear h hA hW
  go_enter Tryd.func43, Tryd.ntmps43
  go_wp2_with fail
  go_loopw [3] (fun out wr => ∃ (f : Nat) (had : List Raw) (T1 : List Tok), T1.length < f ∧ had.length ≤ 64 ∧ T1.length ≤ 5000 ∧ Hid (WordT T1) ∧ Hid (A = takeL E f had T1) ∧ w.grownBy wr (some g) ∧ Rd W0 wr g E T1 ∧ RawsOwn w.heap.size wr had out) (fun _ wr => restN wr g)
  case atStart => exact ⟨T.length + 1, [], T, by omega, by simp, hTl, HW0, HA0, gb_refl _ _, H.out, NOwn.nil _ _ _ _ _⟩
  case round =>
    obtain ⟨f, had, T1, hf, h64, hl, HW, HA, hg, R1, hown⟩ := hrel
    obtain ⟨o3, cap3, rfl⟩ : ∃ o cap, u3 = .slice o had.length cap := by
      obtain ⟨P, hP, hP2, _⟩ := hown
      obtain ⟨o, cap, e⟩ := gown_slice hP2
      exact ⟨o, cap, by rw [e, ← hP, List.length_map]⟩
    have OWN : Hid (RawsOwn w.heap.size wr had (.slice o3 had.length cap3)) := hown
    have HG : Hid (w.grownBy wr (some g)) := hg
    have HR : Hid (Rd W0 wr g E T1) := R1
    obtain ⟨o, cap, c0⟩ := rd_cell R1
    have HRest : Hid (restN wr g = T1.length) := rest_is R1
    clear hown hg R1 HA0 HW0
    cases T1 with
    | nil =>
      have HA2 : Hid (A = .ok had) := by
        show _ = _
        rw [HA.out]
        cases f with
        | zero => rfl
        | succ f => rfl
      simp only [List.length_nil] at c0
      clear HA
      go_wp2_with fail
      go_ret
      rw [HA2.out]
      exact ⟨HG.out, ⟨_, rfl, OWN.out⟩, HR.out⟩
    | cons t T2 =>
      obtain ⟨f', rfl⟩ : ∃ f', f = f' + 1 := ⟨f - 1, by omega⟩
      simp only [List.length_cons] at c0 hf hl
      have hpos : (0 : Int) < (T2.length : Int) + 1 := by omega
      have HRest2 : Hid (restN wr g = T2.length + 1) := HRest.out
      clear HRest
      go_wp2_with fail
      refine (CP.out _ (t :: T2) HR.out).mono ?_
      rintro e w1 ⟨rfl, hb1⟩
      have hhd : hd E (t :: T2) = t := rfl
      rw [hhd]
      clear hhd c0
      have HR1 : Hid (Rd W0 (w1.alloc (.cells (encT t) 90)) g E (t :: T2)) := (HR.out.below hb1).alloc _
      have HG1 : Hid (w.grownBy (w1.alloc (.cells (encT t) 90)) (some g)) := gb_alloc (grown_trans HG.out (grown_below hb1)) _
      have OWN1 : Hid (RawsOwn w.heap.size (w1.alloc (.cells (encT t) 90)) had (.slice o3 had.length cap3)) := (OWN.out.below hb1).below ((Below.refl _ _).alloc (Nat.le_refl _) _)
      obtain ⟨t0, t1, _, _⟩ := tok_cells (heap_new w1 (.cells (encT t) 90) _ rfl)
      clear hb1
      by_cases hk7 : t.kind = 7
      · have hk' : ((t.kind : Int) == 7) = true := by simp; omega
        have HA2 : Hid (A = takeL E f' had T2) := by show _ = _; rw [HA.out, takeL, if_pos hk7]
        have HK : Hid (takeK E 7 (t :: T2) = .ok (t, T2)) := if_pos hk7
        have HW2 : Hid (WordT T2) := fun u hu => HW.out u (by simp [hu])
        clear hk7 HA
        go_wp2_with (first
          | (refine wl_storeE (E := TokE) TokOk rfl _ _ rfl w1.heap.size (encT t) (tv_fits _ _ _ _) rfl rfl _ (heap_new _ _ _ rfl) rfl _ (setRow_new _ _ _ _ _ rfl) ?_))
        refine (CK.out _ (t :: T2) HR1.out).mono ?_
        rw [HK.out]
        rintro e w2 ⟨hg2, ⟨v, rfl, rfl⟩, R2⟩
        have HR2 : Hid (Rd W0 w2 g E T2) := R2
        have HG2 : Hid (w.grownBy w2 (some g)) := grown_trans HG1.out hg2
        have OWN2 : Hid (RawsOwn w.heap.size w2 had (.slice o3 had.length cap3)) := OWN1.out.by hg2 hgl.2
        clear hg2 R2 t0 t1
        go_wp2_with fail
        go_roundw
        case rel => exact ⟨f', had, T2, by omega, h64, by omega, HW2, HA2, HG2.out, HR2.out, OWN2.out⟩
        case measure => rw [HRest2.out, rest_is HR2.out]; omega
      · have hk' : ((t.kind : Int) == 7) = false := by simp; omega
        by_cases hm : had.length = 64
        · have HA2 : Hid (A = .error (4, t.pos)) := by show _ = _; rw [HA.out, takeL, if_neg hk7, if_pos hm]
          have hm' : ((had.length : Int) == 64) = true := by simp; omega
          clear hk7 hm HA
          go_wp2_with (first
            | (refine wl_storeE (E := TokE) TokOk rfl _ _ rfl w1.heap.size (encT t) (tv_fits _ _ _ _) rfl rfl _ (heap_new _ _ _ rfl) rfl _ (setRow_new _ _ _ _ _ rfl) ?_))
          rw [HA2.out]
          exact ⟨rfl, HG1.out, rfl⟩
        · have HA2 : Hid (A = (takeR E (t :: T2)).bind fun x => takeL E f' (had ++ [x.1]) x.2) := by show _ = _; rw [HA.out, takeL, if_neg hk7, if_neg hm]
          have hm' : ((had.length : Int) == 64) = false := by simp; omega
          have hm2 : had.length + 1 ≤ 64 := by omega
          have HWt : Hid (t.text = wDefault → t.kind = 1) := HW.out t (by simp)
          clear hk7 hm HA
          go_wp2_with (first
            | (refine wl_storeE (E := TokE) TokOk rfl _ _ rfl w1.heap.size (encT t) (tv_fits _ _ _ _) rfl rfl _ (heap_new _ _ _ rfl) rfl _ (setRow_new _ _ _ _ _ rfl) ?_))
          refine (CL.out _ t T2 (by simp; omega) HWt.out HR1.out).mono ?_
          cases hL : lineT E (t :: T2) with
          | error x =>
            obtain ⟨c, q⟩ := x
            have HA3 : Hid (A = .error (c, q)) := by show _ = _; rw [HA2.out, takeR_line, hL]; rfl
            clear hL HA2
            rintro e w2 ⟨hg2, rfl⟩
            go_wp2_with fail
            rw [HA3.out]
            exact ⟨rfl, grown_trans HG1.out hg2, rfl⟩
          | ok x =>
            obtain ⟨x, T3⟩ := x
            obtain ⟨hlen, A3, hT3⟩ := line_len hL
            simp only [List.length_cons] at hlen
            have HA3 : Hid (A = ((takeE T3).map fun u => (x, u)).bind fun x => takeL E f' (had ++ [x.1]) x.2) := by show _ = _; rw [HA2.out, takeR_line, hL]; rfl
            have HW3 : Hid (WordT T3) := fun u hu => HW.out u (by rw [hT3]; simp [hu])
            clear hL HA2 hT3
            rintro e w2 ⟨hg2, ⟨v, rfl, u, rfl, hcl2⟩, R2⟩
            have z1 := HG1.out.size
            have HR2 : Hid (Rd W0 w2 g E T3) := R2
            have HG2 : Hid (w.grownBy w2 (some g)) := grown_trans HG1.out hg2
            have OWN2 : Hid (RawsOwn w.heap.size w2 had (.slice o3 had.length cap3)) := OWN1.out.by hg2 hgl.2
            have HC2 : Hid (ClasOwn w.heap.size w2 x.clauses u) := clas_base hcl2 z1
            obtain ⟨o5, n5, m5, rfl⟩ := clas_slice hcl2
            clear hg2 R2 t0 t1 hcl2
            go_wp2_with (first
              | (refine wl_buildE (E := RawE) RawOk rfl _ rfl (rawV x (.slice o5 n5 m5)) rfl rfl ?_)
              | (at_builtin; refine of_stopT ?_))
            unfold StopT
            obtain ⟨P, hP1, hP2, hP3⟩ := OWN2.out
            have HO6 : Hid ((w2.alloc (.cells (rawV x (.slice o5 n5 m5)) 51)).ownsRow w.heap.size 51 8 (.slice o3 had.length cap3) P.length (gcells (fun p : Raw × Value => rawV p.1 p.2) P)) := hP2.alloc _
            have hPl : P.length = had.length := by rw [← hP1, List.length_map]
            have z5 := HG2.out.size
            refine wl_appendE (E := RawE) RawOk (fun p : Raw × Value => rawV p.1 p.2) rfl _ _ rfl w.heap.size _ P (x, .slice o5 n5 m5) (raw_fits _ _ ⟨_, _, _, rfl⟩) rfl HO6.out _ 1 rfl (heap_new _ _ _ rfl) (by omega) (by simp; omega) ?_
            intro v' w6 hown6 hgr6 _
            have alc : Below w2.heap.size w2 (w2.alloc (.cells (rawV x (.slice o5 n5 m5)) 51)) := (Below.refl _ _).alloc (Nat.le_refl _) _
            have HOWN6 : Hid (RawsOwn w.heap.size w6 (had ++ [x]) v') := NOwn.snoc (E := RawE) (row := rawV) (R := fun w' x u => ClasOwn w.heap.size w' x.clauses u) hP1 hown6 (fun p hp => clas_grown HO6.out hgr6 ((hP3 p hp).below alc)) (clas_grown HO6.out hgr6 (HC2.out.below alc))
            have HG6 : Hid (w.grownBy w6 (some g)) := gb_own (gb_alloc HG2.out _) hgr6 fun k hk => (HO6.out.lt k hk).1
            have R6 : Rd W0 w6 g E T3 := rd_own (HR2.out.alloc _) hgr6 fun k hk => Nat.lt_of_lt_of_le hgl.2 (HO6.out.lt k hk).1
            have HR6 : Hid (Rd W0 w6 g E T3) := R6
            obtain ⟨o7, cap7, c7⟩ := rd_cell R6
            obtain ⟨o6, cap6, rfl⟩ := gown_slice hown6
            clear hown6 hgr6 hP1 hP2 hP3 hPl HO6 alc R6
            simp only [Act.put, List.setIfInBounds_toArray, List.set_cons_succ, List.set_cons_zero]
            cases T3 with
            | nil =>
              have HA4 : Hid (A = takeL E f' (had ++ [x]) []) := HA3.out
              simp only [List.length_nil] at c7
              clear HA3
              go_wp2_with fail
              go_roundw
              case rel => exact ⟨f', had ++ [x], [], by simp; omega, by simp; omega, by simp, HW3, HA4, HG6.out, HR6.out, HOWN6.out⟩
              case measure => rw [HRest2.out, rest_is HR6.out]; simp
            | cons t7 T4 =>
              simp only [List.length_cons] at c7 hlen
              have hpos7 : (0 : Int) < (T4.length : Int) + 1 := by omega
              go_wp2_with fail
              refine (CK.out _ (t7 :: T4) HR6.out).mono ?_
              by_cases hk8 : t7.kind = 7
              · obtain ⟨f2, rfl⟩ : ∃ f2, f' = f2 + 1 := ⟨f' - 1, by omega⟩
                have HK : Hid (takeK E 7 (t7 :: T4) = .ok (t7, T4)) := if_pos hk8
                have HA4 : Hid (A = takeL E f2 (had ++ [x]) T4) := by
                  show _ = _
                  have hE : takeE (t7 :: T4) = .ok (t7 :: T4) := if_pos hk8
                  rw [HA3.out, hE]
                  show takeL E (f2 + 1) (had ++ [x]) (t7 :: T4) = _
                  rw [takeL, if_pos hk8]
                have HW4 : Hid (WordT T4) := fun u hu => HW3.out u (by simp [hu])
                rw [HK.out]
                clear hk8 HA3
                rintro e w8 ⟨hg8, ⟨v, rfl, rfl⟩, R8⟩
                have HR8 : Hid (Rd W0 w8 g E T4) := R8
                have HG8 : Hid (w.grownBy w8 (some g)) := grown_trans HG6.out hg8
                have OWN8 := HOWN6.out.by hg8 hgl.2
                have HOWN8 : Hid (RawsOwn w.heap.size w8 (had ++ [x]) (.slice o6 (P ++ [(x, Value.slice o5 n5 m5)]).length cap6)) := OWN8
                clear hg8 R8 OWN8 c7
                go_wp2_with fail
                go_roundw
                case rel => exact ⟨f2, had ++ [x], T4, by omega, by simp; omega, by omega, HW4, HA4, HG8.out, HR8.out, by have := HOWN8.out; simpa using this⟩
                case measure => rw [HRest2.out, rest_is HR8.out]; omega
              · have HK : Hid (takeK E 7 (t7 :: T4) = .error (8, t7.pos)) := if_neg hk8
                have HA4 : Hid (A = .error (8, t7.pos)) := by
                  show _ = _
                  have hE : takeE (t7 :: T4) = .error (8, t7.pos) := if_neg hk8
                  rw [HA3.out, hE]
                  rfl
                rw [HK.out]
                clear hk8 HA3
                rintro e w8 ⟨hg8, rfl⟩
                go_wp2_with fail
                rw [HA4.out]
                exact ⟨rfl, grown_trans HG6.out hg8, rfl⟩
end Go.Proofs.YtfamnloobmdhdaaDoor
/-
  The library's contract of stringslite.Clone, laid at this seat's program, and strings.Clone above it.
-/
namespace Go.Proofs
open Go.Shelf
set_option maxRecDepth 20000
def Tryd.lays316_ren : Go.Shelf.Ren := ⟨fun | 316 => 101 | n => n, fun | 37 => 68 | 127 => 113 | n => n, fun | n => n⟩
theorem Tryd.lays316 : Go.Proofs.LaysM.n316 Tryd.prog Tryd.lays316_ren := {
  mixed := by kernel_rfl
  f316 := Tryd.func101.trans (congrArg some (by kernel_rfl))
  t0 := Tryd.underlying0
  a0 := Tryd.isAgg0
  z0 := Tryd.sizeOf0
  v0 := Tryd.zeroValue0
  t3 := Tryd.underlying3
  a3 := Tryd.isAgg3
  z3 := Tryd.sizeOf3
  v3 := Tryd.zeroValue3
  t4 := Tryd.underlying4
  a4 := Tryd.isAgg4
  z4 := Tryd.sizeOf4
  v4 := Tryd.zeroValue4
  t5 := Tryd.underlying5
  a5 := Tryd.isAgg5
  z5 := Tryd.sizeOf5
  v5 := Tryd.zeroValue5
  t9 := Tryd.underlying9
  a9 := Tryd.isAgg9
  z9 := Tryd.sizeOf9
  v9 := Tryd.zeroValue9
  t37 := Tryd.underlying68
  a37 := Tryd.isAgg68
  z37 := Tryd.sizeOf68
  v37 := Tryd.zeroValue68
  t127 := Tryd.underlying113
  a127 := Tryd.isAgg113
  z127 := Tryd.sizeOf113
  v127 := Tryd.zeroValue113
  i0 := by kernel_rfl
  i3 := by kernel_rfl
  i4 := by kernel_rfl
  i5 := by kernel_rfl
  i9 := by kernel_rfl
  i37 := by kernel_rfl
  i127 := by kernel_rfl }
namespace YtfamnloobmdhdaaDoor
open Go Go.RowKit

theorem clone_in (s : ByteArray) (w : World) (hlim : s.size ≤ 281474976710656) :
    Calls Tryd.prog 101 #[.string s] w fun e w' => e = .returned (.string s) ∧ Below w.heap.size w w' := Any.stringslite_Clone Tryd.lays316 s w hlim

theorem clone_any (s : ByteArray) (w : World) (hlim : s.size ≤ 281474976710656) :
    Calls Tryd.prog 90 #[.string s] w fun e w' => e = .returned (.string s) ∧ Below w.heap.size w w' := by
  have C : Hid (∀ W, Calls Tryd.prog 101 #[.string s] W fun e w' => e = .returned (.string s) ∧ Below W.heap.size W w') := fun W => clone_in s W hlim
  clear hlim
  go_enter Tryd.func90, Tryd.ntmps90
  go_wp2_with fail
  refine (C.out _).mono ?_
  rintro e w1 ⟨rfl, hb1⟩
  go_wp2_with fail
  go_ret
  exact ⟨rfl, hb1⟩
end YtfamnloobmdhdaaDoor
end Go.Proofs
namespace Go.Proofs.YtfamnloobmdhdaaDoor
open Go Go.RowKit
set_option maxRecDepth 20000

/-- The sign with which a text begins. -/
def signR (c : UInt8) (r : List UInt8) : Nat × Nat :=
  if c == 46 then (3, 1) else if c == 47 then (4, 1) else if c == 45 then (if r.head? == some 62 then (6, 2) else (5, 1)) else if c == 10 then (7, 1) else (0, 0)

set_option maxHeartbeats 1000000 in
theorem arrow_any (s : ByteArray) (hs : s.size ≤ maxLen) (w : World) :
    Calls Tryd.prog 102 #[.string s, .string ⟨#[45, 62]⟩] w fun e w' => e = .returned (.bool (Lib.hasPrefix s.data.toList [45, 62])) ∧ w' = w := by
  unfold maxLen at hs
  have C : Hid (∀ W, Calls Tryd.prog 107 #[.string s, .string ⟨#[45, 62]⟩] W fun e w' => e = .returned (.bool (Lib.hasPrefix s.data.toList [45, 62])) ∧ w' = W) := fun W => by
    have hr := Lib.hasPrefix_raw s ⟨#[45, 62]⟩
    have hsz : (⟨#[45, 62]⟩ : ByteArray).size = 2 := rfl
    rw [hsz] at hr
    obtain ⟨R, hR⟩ : ∃ R, R = Lib.hasPrefix s.data.toList [45, 62] := ⟨_, rfl⟩
    rw [show (⟨#[45, 62]⟩ : ByteArray).data.toList = [45, 62] from rfl, ← hR] at hr
    rw [← hR]
    clear hR
    by_cases h2 : 2 ≤ s.size
    · have h2' : ((2 : Nat) : Int) ≤ (s.size : Int) := by omega
      rw [decide_eq_true h2, Bool.true_and] at hr
      go_enter Tryd.func107, Tryd.ntmps107
      go_wp2
      go_ret
      exact ⟨ret_bool (by rw [ByteArray.toList_eq ⟨#[45, 62]⟩] at hr; exact hr), rfl⟩
    · have h2' : (s.size : Int) < 2 := by omega
      rw [decide_eq_false h2, Bool.false_and] at hr
      subst hr
      go_enter Tryd.func107, Tryd.ntmps107
      go_wp2
      go_ret
      exact ⟨rfl, rfl⟩
  clear hs
  go_enter Tryd.func102, Tryd.ntmps102
  go_wp2_with fail
  refine (C.out _).mono ?_
  rintro e w1 ⟨rfl, rfl⟩
  go_wp2_with fail
  go_ret
  exact ⟨rfl, rfl⟩

theorem arrow_pre (c : UInt8) (r : List UInt8) : Lib.hasPrefix (c :: r) [45, 62] = (c == 45 && r.head? == some 62) := by
  unfold Lib.hasPrefix
  cases r with
  | nil => simp [List.isPrefixOf]
  | cons d r =>
    simp only [List.isPrefixOf, Bool.and_true, List.head?_cons]
    rw [show (45 == c) = (c == 45) from Bool.beq_comm, show (some d == some 62) = (d == 62) from rfl, show (62 == d) = (d == 62) from Bool.beq_comm]

set_option maxHeartbeats 1000000 in
theorem sign_any (s : ByteArray) (hs : s.size ≤ maxLen) (c : UInt8) (r : List UInt8) (hS : s.data.toList = c :: r) (w : World) :
    Calls Tryd.prog 92 #[.string s] w fun e w' => e = .returned (.tuple #[.int .i64 ((signR c r).1 : Nat), .int .i64 ((signR c r).2 : Nat)]) ∧ w' = w := by
  have h0 : 0 < s.size := by rw [Lib.size_eq, hS]; simp
  have C : Hid (∀ W, Calls Tryd.prog 102 #[.string s, .string ⟨#[45, 62]⟩] W fun e w' => e = .returned (.bool (c == 45 && r.head? == some 62)) ∧ w' = W) := fun W => by
    have := arrow_any s hs W
    rwa [hS, arrow_pre] at this
  have hc : s[0] = c := by
    have := byte_q s 0 h0
    rw [hS] at this
    simpa using this.symm
  have hix : ∀ W, (Instr.index 9 (.string s) (.int .i64 0)).run Tryd.prog W = .ok (.int .u8 (c.toNat : Int)) W := fun W => by
    rw [← hc]
    simp [go_sem, Tryd.underlying9, h0]
  have e1 : ((c.toNat : Int) == 46) = (c == 46) := byte_beq c 46
  have e2 : ((c.toNat : Int) == 47) = (c == 47) := byte_beq c 47
  have e3 : ((c.toNat : Int) == 45) = (c == 45) := byte_beq c 45
  have e4 : ((c.toNat : Int) == 10) = (c == 10) := byte_beq c 10
  unfold signR
  clear hc h0 hS hs
  by_cases c1 : (c == 46) = true
  · rw [c1] at e1
    simp only [c1, if_true]
    go_enter Tryd.func92, Tryd.ntmps92
    go_wp2_with fail
    go_ret2
    exact ⟨rfl, rfl⟩
  have c1' : (c == 46) = false := by simpa using c1
  clear c1
  rw [c1'] at e1
  by_cases c2 : (c == 47) = true
  · rw [c2] at e2
    simp only [c1', c2, if_true, Bool.false_eq_true, if_false]
    go_enter Tryd.func92, Tryd.ntmps92
    go_wp2_with fail
    go_ret2
    exact ⟨rfl, rfl⟩
  have c2' : (c == 47) = false := by simpa using c2
  clear c2
  rw [c2'] at e2
  by_cases c3 : (c == 45) = true
  · rw [c3] at e3
    by_cases c4 : (r.head? == some 62) = true
    · have C' : Hid (∀ W, Calls Tryd.prog 102 #[.string s, .string ⟨#[45, 62]⟩] W fun e w' => e = .returned (.bool true) ∧ w' = W) := by
        have := C.out
        rw [c3, c4] at this
        exact this
      simp only [c1', c2', c3, c4, if_true, Bool.false_eq_true, if_false]
      clear C
      go_enter Tryd.func92, Tryd.ntmps92
      go_wp2_with fail
      refine (C'.out _).mono ?_
      rintro e w1 ⟨rfl, rfl⟩
      go_wp2_with fail
      go_ret2
      exact ⟨rfl, rfl⟩
    · have c4' : (r.head? == some 62) = false := by simpa using c4
      have C' : Hid (∀ W, Calls Tryd.prog 102 #[.string s, .string ⟨#[45, 62]⟩] W fun e w' => e = .returned (.bool false) ∧ w' = W) := by
        have := C.out
        rw [c3, c4'] at this
        exact this
      simp only [c1', c2', c3, c4', if_true, Bool.false_eq_true, if_false]
      clear C c4
      go_enter Tryd.func92, Tryd.ntmps92
      go_wp2_with fail
      refine (C'.out _).mono ?_
      rintro e w1 ⟨rfl, rfl⟩
      go_wp2_with fail
      go_ret2
      exact ⟨rfl, rfl⟩
  have c3' : (c == 45) = false := by simpa using c3
  clear c3
  rw [c3'] at e3
  have C' : Hid (∀ W, Calls Tryd.prog 102 #[.string s, .string ⟨#[45, 62]⟩] W fun e w' => e = .returned (.bool false) ∧ w' = W) := by
    have := C.out
    rw [c3'] at this
    exact this
  clear C
  by_cases c5 : (c == 10) = true
  · rw [c5] at e4
    simp only [c1', c2', c3', c5, if_true, Bool.false_eq_true, if_false]
    go_enter Tryd.func92, Tryd.ntmps92
    go_wp2_with fail
    refine (C'.out _).mono ?_
    rintro e w1 ⟨rfl, rfl⟩
    go_wp2_with fail
    go_ret2
    exact ⟨rfl, rfl⟩
  · have c5' : (c == 10) = false := by simpa using c5
    clear c5
    rw [c5'] at e4
    simp only [c1', c2', c3', c5', Bool.false_eq_true, if_false]
    go_enter Tryd.func92, Tryd.ntmps92
    go_wp2_with fail
    refine (C'.out _).mono ?_
    rintro e w1 ⟨rfl, rfl⟩
    go_wp2_with fail
    go_ret2
    exact ⟨rfl, rfl⟩
end Go.Proofs.YtfamnloobmdhdaaDoor
namespace Go.Proofs.YtfamnloobmdhdaaDoor
open Go Go.RowKit
set_option maxRecDepth 20000

/-- A number and what is wrong with it. -/
def numR (D : List UInt8) : Nat × Nat := match numOf D with | some n => (n, 0) | none => (0, 7)
theorem val_app (D : List UInt8) (c : UInt8) : val (D ++ [c]) = val D * 10 + (c.toNat - 48) := by unfold val; rw [List.foldl_append]; rfl
theorem val_grow : ∀ (E : List UInt8) (n : Nat), n ≤ E.foldl (fun n c => n * 10 + (c.toNat - 48)) n
  | [], n => Nat.le_refl n
  | c :: E, n => by
    rw [List.foldl_cons]
    exact Nat.le_trans (by omega) (val_grow E _)
theorem val_mono (D E : List UInt8) : val D ≤ val (D ++ E) := by
  unfold val
  rw [List.foldl_append]
  exact val_grow E _
theorem val_take (D : List UInt8) (k : Nat) (hk : k < D.length) : val (D.take (k + 1)) = val (D.take k) * 10 + (D[k].toNat - 48) := by
  rw [List.take_succ_eq_append_getElem hk, val_app]
theorem val_take_le (D : List UInt8) (k : Nat) : val (D.take k) ≤ val D := by
  have := val_mono (D.take k) (D.drop k)
  rwa [List.take_append_drop] at this

set_option maxHeartbeats 1000000 in
theorem number_any (s : ByteArray) (hs : s.size ≤ maxLen) (h0 : 0 < s.size) (hD : ∀ c ∈ s.data.toList, isDig c = true) (w : World) :
    Calls Tryd.prog 91 #[.string s] w fun e w' => e = .returned (.tuple #[.int .i64 ((numR s.data.toList).1 : Nat), .int .i64 ((numR s.data.toList).2 : Nat)]) ∧ w' = w := by
  unfold maxLen at hs
  have hlen : s.data.toList.length = s.size := (Lib.size_eq s).symm
  obtain ⟨S, hS⟩ : ∃ S, S = s.data.toList := ⟨_, rfl⟩
  have hby : ∀ k (hk : k < s.size), ∃ b : Nat, 48 ≤ b ∧ b ≤ 57 ∧ s[k].toNat = b ∧ val (S.take (k + 1)) = val (S.take k) * 10 + (b - 48) := fun k hk => by
    have hm : s[k] ∈ s.data.toList := List.mem_of_getElem? (byte_q s k hk)
    have := hD _ hm
    unfold isDig at this
    simp only [Bool.and_eq_true, decide_eq_true_eq] at this
    refine ⟨_, this.1, this.2, rfl, ?_⟩
    have hk' : k < S.length := by rw [hS, hlen]; exact hk
    rw [val_take S k hk']
    have e : S[k] = s[k] := by
      have := byte_q s k hk
      rw [← hS, List.getElem?_eq_getElem hk'] at this
      simpa using this
    rw [e]
  have HBY : Hid (∀ k (hk : k < s.size), ∃ b : Nat, 48 ≤ b ∧ b ≤ 57 ∧ s[k].toNat = b ∧ val (S.take (k + 1)) = val (S.take k) * 10 + (b - 48)) := hby
  have hh : S.head? = some s[0] := by
    have := byte_q s 0 h0
    rw [← hS] at this
    rw [List.head?_eq_getElem?]; exact this
  have hz : ((s[0].toNat : Int) == 48) = (S.head? == some 48) := by
    rw [hh]; exact byte_beq s[0] 48
  have hix0 : ∀ W, (Instr.index 9 (.string s) (.int .i64 0)).run Tryd.prog W = .ok (.int .u8 (s[0].toNat : Int)) W := fun W => by
    simp [go_sem, Tryd.underlying9, h0]
  have HL : Hid (S.length = s.size) := by rw [hS]; exact hlen
  rw [← hS]
  obtain ⟨R, hR⟩ : ∃ R, R = numR S := ⟨_, rfl⟩
  have HR : Hid (R = if decide (4294967295 < val S) || (decide (1 < s.size) && S.head? == some 48) then (0, 7) else (val S, 0)) := by
    show R = _
    rw [hR, ← HL.out]
    unfold numR numOf
    split <;> rename_i h1
    · split at h1
      · cases h1
      · obtain rfl := Option.some.inj h1; rw [if_neg (by assumption)]
    · split at h1
      · rw [if_pos (by assumption)]
      · cases h1
  rw [← hR]
  obtain ⟨z0, hz0⟩ : ∃ z0 : Int, z0 = (s[0].toNat : Int) := ⟨_, rfl⟩
  rw [← hz0] at hz hix0
  clear hR hS hD hlen hby hh hz0
  have LOOP : Hid (Hid (R = if decide (4294967295 < val S) then (0, 7) else (val S, 0)) → (1 < (s.size : Int) → (z0 == 48) = false) → Calls Tryd.prog 91 #[.string s] w fun e w' => e = .returned (.tuple #[.int .i64 (R.1 : Nat), .int .i64 (R.2 : Nat)]) ∧ w' = w) := by
    intro HR2 hg
    clear HR hz
    by_cases h1 : 1 < (s.size : Int)
    · have hg1 := hg h1
      clear hg
      go_enter Tryd.func91, Tryd.ntmps91
      go_wp2_with fail
      go_loop [4, 16] (fun v i => ∃ k : Nat, k ≤ s.size ∧ i = .int .i64 (k : Int) ∧ v = .int .i64 ((val (S.take k) : Nat) : Int) ∧ val (S.take k) ≤ 4294967295) (fun _ i => s.size - (intOf i).toNat)
      case atStart => exact ⟨0, Nat.zero_le _, rfl, rfl, Nat.zero_le _⟩
      case round =>
        obtain ⟨k, hk, rfl, rfl, hv⟩ := hrel
        by_cases hlt : k < s.size
        · obtain ⟨b, hb1, hb2, hb3, hb4⟩ := HBY.out k hlt
          have hix : ∀ W, (Instr.index 9 (.string s) (.int .i64 (k : Int))).run Tryd.prog W = .ok (.int .u8 (b : Int)) W := fun W => by
            rw [← hb3]
            simp [go_sem, Tryd.underlying9, hlt]
          obtain ⟨x, hx⟩ : ∃ x, x = val (S.take k) := ⟨_, rfl⟩
          rw [← hx] at hv hb4 ⊢
          obtain ⟨y, hy⟩ : ∃ y, y = x * 10 + (b - 48) := ⟨_, rfl⟩
          have hyz : (x : Int) * 10 + ((b : Int) - 48) = (y : Int) := by omega
          have HB4 : Hid (val (S.take (k + 1)) = y) := by show _ = _; rw [hb4, hy]
          have hlt' : (k : Int) < (s.size : Int) := by omega
          have hy2 : y ≤ 100000000000 := by omega
          clear hb4 hb3 hx hy
          by_cases hbig : 4294967295 < y
          · have HRZ : Hid (R = (0, 7)) := by
              show _ = _
              rw [HR2.out, if_pos]
              have := val_take_le S (k + 1)
              rw [HB4.out] at this
              exact decide_eq_true (by omega)
            go_wp2_with fail
            go_ret2
            exact ⟨by rw [HRZ.out]; rfl, rfl⟩
          · go_wp2_with fail
            go_round
            case rel => exact ⟨k + 1, by omega, by go_num, by rw [HB4.out], by rw [HB4.out]; omega⟩
            case measure => simp [intOf]; omega
        · have hk' : k = s.size := by omega
          have hlt' : (s.size : Int) ≤ (k : Int) := by omega
          have HRZ : Hid (R = (val (S.take k), 0)) := by
            show _ = _
            have e : S.take k = S := by rw [List.take_of_length_le]; rw [HL.out]; omega
            rw [e] at hv ⊢
            rw [HR2.out, if_neg (by simpa using hv)]
          clear hk' hlt
          go_wp2_with fail
          go_ret2
          exact ⟨by rw [HRZ.out]; rfl, rfl⟩
    · clear hg
      go_enter Tryd.func91, Tryd.ntmps91
      go_wp2_with fail
      go_loop [4, 16] (fun v i => ∃ k : Nat, k ≤ s.size ∧ i = .int .i64 (k : Int) ∧ v = .int .i64 ((val (S.take k) : Nat) : Int) ∧ val (S.take k) ≤ 4294967295) (fun _ i => s.size - (intOf i).toNat)
      case atStart => exact ⟨0, Nat.zero_le _, rfl, rfl, Nat.zero_le _⟩
      case round =>
        obtain ⟨k, hk, rfl, rfl, hv⟩ := hrel
        by_cases hlt : k < s.size
        · obtain ⟨b, hb1, hb2, hb3, hb4⟩ := HBY.out k hlt
          have hix : ∀ W, (Instr.index 9 (.string s) (.int .i64 (k : Int))).run Tryd.prog W = .ok (.int .u8 (b : Int)) W := fun W => by
            rw [← hb3]
            simp [go_sem, Tryd.underlying9, hlt]
          obtain ⟨x, hx⟩ : ∃ x, x = val (S.take k) := ⟨_, rfl⟩
          rw [← hx] at hv hb4 ⊢
          obtain ⟨y, hy⟩ : ∃ y, y = x * 10 + (b - 48) := ⟨_, rfl⟩
          have hyz : (x : Int) * 10 + ((b : Int) - 48) = (y : Int) := by omega
          have HB4 : Hid (val (S.take (k + 1)) = y) := by show _ = _; rw [hb4, hy]
          have hlt' : (k : Int) < (s.size : Int) := by omega
          have hy2 : y ≤ 100000000000 := by omega
          clear hb4 hb3 hx hy
          by_cases hbig : 4294967295 < y
          · have HRZ : Hid (R = (0, 7)) := by
              show _ = _
              rw [HR2.out, if_pos]
              have := val_take_le S (k + 1)
              rw [HB4.out] at this
              exact decide_eq_true (by omega)
            go_wp2_with fail
            go_ret2
            exact ⟨by rw [HRZ.out]; rfl, rfl⟩
          · go_wp2_with fail
            go_round
            case rel => exact ⟨k + 1, by omega, by go_num, by rw [HB4.out], by rw [HB4.out]; omega⟩
            case measure => simp [intOf]; omega
        · have hk' : k = s.size := by omega
          have hlt' : (s.size : Int) ≤ (k : Int) := by omega
          have HRZ : Hid (R = (val (S.take k), 0)) := by
            show _ = _
            have e : S.take k = S := by rw [List.take_of_length_le]; rw [HL.out]; omega
            rw [e] at hv ⊢
            rw [HR2.out, if_neg (by simpa using hv)]
          clear hk' hlt
          go_wp2_with fail
          go_ret2
          exact ⟨by rw [HRZ.out]; rfl, rfl⟩
  by_cases h1 : 1 < (s.size : Int)
  · by_cases hzz : (S.head? == some 48) = true
    · have hR2 : R = (0, 7) := by
        rw [HR.out, if_pos]
        rw [hzz, decide_eq_true (by omega : 1 < s.size)]; simp
      subst hR2
      rw [hzz] at hz
      clear HR LOOP
      go_enter Tryd.func91, Tryd.ntmps91
      go_wp2_with fail
      go_ret2
      exact ⟨rfl, rfl⟩
    · have hzz' : (S.head? == some 48) = false := by simpa using hzz
      refine LOOP.out ?_ fun _ => by rw [hz]; exact hzz'
      show R = _
      rw [HR.out, hzz']; simp
  · refine LOOP.out ?_ fun h => absurd h h1
    show R = _
    rw [HR.out, decide_eq_false (by omega : ¬ 1 < s.size)]; simp
end Go.Proofs.YtfamnloobmdhdaaDoor
namespace Go.Proofs.YtfamnloobmdhdaaDoor
open Go Go.RowKit
set_option maxRecDepth 20000

/-- What 'first' answers. -/
def FirstR (x : Lx × Nat) (e : Ending) : Prop :=
  match x with
  | (.ok (some (k, t, v)), n) => e = .returned (.tuple #[.agg (tv (k : Nat) 0 ⟨t.toArray⟩ (v : Nat)), .int .i64 ((n + 1 : Nat) : Int), .int .i64 0])
  | (.error er, _) => ∃ k v m : Int, e = .returned (.tuple #[.agg (tv k 0 ⟨#[]⟩ v), .int .i64 m, .int .i64 (er : Nat)])
  | (.ok none, _) => False

theorem abc_str : (⟨#[97, 98, 99, 100, 101, 102, 103, 104, 105, 106, 107, 108, 109, 110, 111, 112, 113, 114, 115, 116, 117, 118, 119, 120, 121, 122]⟩ : ByteArray).data.toList = abcL := rfl
theorem dig_str : (⟨#[48, 49, 50, 51, 52, 53, 54, 55, 56, 57]⟩ : ByteArray).data.toList = digL := rfl
theorem abc_row (s : ByteArray) (hs : s.size ≤ maxLen) (w : World) :
    Calls Tryd.prog 89 #[.string s, .string ⟨#[97, 98, 99, 100, 101, 102, 103, 104, 105, 106, 107, 108, 109, 110, 111, 112, 113, 114, 115, 116, 117, 118, 119, 120, 121, 122]⟩] w fun e w' => e = .returned (.int .i64 ((s.data.toList.takeWhile isLet).length : Nat)) ∧ w' = w :=
  row_any s hs _ isLet (fun c => by rw [abc_str]; exact abc_let c) w
theorem dig_row (s : ByteArray) (hs : s.size ≤ maxLen) (w : World) :
    Calls Tryd.prog 89 #[.string s, .string ⟨#[48, 49, 50, 51, 52, 53, 54, 55, 56, 57]⟩] w fun e w' => e = .returned (.int .i64 ((s.data.toList.takeWhile isDig).length : Nat)) ∧ w' = w :=
  row_any s hs _ isDig (fun c => by rw [dig_str]; exact dig_dig c) w

theorem mk_of_data {s : ByteArray} {x : List UInt8} (h : s.data.toList = x) : s = ⟨x.toArray⟩ := by
  subst h; exact (Lib.mk_data s).symm

theorem dig_all {c : UInt8} {r : List UInt8} (h : isDig c = true) : ∀ b ∈ c :: r.takeWhile isDig, isDig b = true := fun b hb => by
  rcases List.mem_cons.1 hb with rfl | hb
  · exact h
  · exact takeWhile_all _ _ b hb

set_option maxHeartbeats 2000000 in
theorem first_any (s : ByteArray) (hs : s.size ≤ 4096) (c : UInt8) (r : List UInt8) (hS : s.data.toList = c :: r) (hb : isBlank c = false) (hh : (c == 35) = false) (w : World) :
    Calls Tryd.prog 65 #[.string s] w fun e w' => FirstR (lexeme c r) e ∧ Below w.heap.size w w' := by
  have hsz : s.size = r.length + 1 := by rw [Lib.size_eq, hS]; rfl
  have hm : s.size ≤ maxLen := by unfold maxLen; omega
  have C1 : Hid (∀ W, Calls Tryd.prog 89 #[.string s, .string ⟨#[97, 98, 99, 100, 101, 102, 103, 104, 105, 106, 107, 108, 109, 110, 111, 112, 113, 114, 115, 116, 117, 118, 119, 120, 121, 122]⟩] W fun e w' => e = .returned (.int .i64 (((c :: r).takeWhile isLet).length : Nat)) ∧ w' = W) := fun W => by
    rw [← hS]; exact abc_row s hm W
  have C2 : Hid (∀ W, Calls Tryd.prog 89 #[.string s, .string ⟨#[48, 49, 50, 51, 52, 53, 54, 55, 56, 57]⟩] W fun e w' => e = .returned (.int .i64 (((c :: r).takeWhile isDig).length : Nat)) ∧ w' = W) := fun W => by
    rw [← hS]; exact dig_row s hm W
  have C3 : Hid (∀ W, Calls Tryd.prog 92 #[.string s] W fun e w' => e = .returned (.tuple #[.int .i64 ((signR c r).1 : Nat), .int .i64 ((signR c r).2 : Nat)]) ∧ w' = W) := fun W => sign_any s hm c r hS W
  by_cases c1 : isLet c = true
  · have hx : lexeme c r = (Lx.tok 1 (c :: r.takeWhile isLet) 0, (r.takeWhile isLet).length) := by
      unfold lexeme
      simp only [hb, c1, Bool.false_eq_true, if_false, if_true]
    rw [hx]
    clear hx
    have ht : ((c :: r).takeWhile isLet).length = (r.takeWhile isLet).length + 1 := by rw [List.takeWhile_cons, if_pos c1]; rfl
    have hle := takeWhile_le isLet r
    have hd : (s.extract 0 ((r.takeWhile isLet).length + 1)).data.toList = c :: r.takeWhile isLet := by
      rw [Lib.extract_data, hS, List.drop_zero, Nat.sub_zero, List.take_succ_cons, takeWhile_take]
    have hE := mk_of_data hd
    obtain ⟨n, hn⟩ : ∃ n, n = (r.takeWhile isLet).length := ⟨_, rfl⟩
    obtain ⟨t, ht2⟩ : ∃ t, t = c :: r.takeWhile isLet := ⟨_, rfl⟩
    rw [← hn] at ht hle hE
    rw [← ht2] at hE
    rw [ht] at C1
    rw [← hn, ← ht2]
    have C4 : Hid (∀ W, Calls Tryd.prog 90 #[.string (s.extract 0 (n + 1))] W fun e w' => e = .returned (.string (s.extract 0 (n + 1))) ∧ Below W.heap.size W w') := fun W => clone_any _ W (by
      rw [ByteArray.size_extract]; omega)
    clear ht2 hn hd ht c1 hS C2 C3 hb hh hm
    have HE : Hid (s.extract 0 (n + 1) = ⟨t.toArray⟩) := hE
    clear hE
    go_enter Tryd.func65, Tryd.ntmps65
    go_wp2_with fail
    refine (C1.out _).mono ?_
    rintro e w1 ⟨rfl, rfl⟩
    go_wp2_with fail
    refine (C4.out _).mono ?_
    rintro e w2 ⟨rfl, hb2⟩
    rw [HE.out]
    have g2 : w2.heap[w.heap.size]? = some (.cells (tv 0 0 ⟨#[]⟩ 0) 90 (0, 0)) := by rw [hb2.block _ (by simp)]; exact heap_new _ _ _ rfl
    have B2 : Below w.heap.size w w2 := ((Below.refl _ _).alloc (Nat.le_refl _) _).trans (hb2.mono (by simp))
    go_wp2_with (first
      | (refine wl_storeE (E := TokE) TokOk rfl _ _ rfl w.heap.size (tv 1 0 ⟨t.toArray⟩ 0) (tv_fits _ _ _ _) rfl rfl _ g2 rfl _ rfl ?_))
    refine retT (p := 2) (u := 3) (u' := 4) rfl rfl w.heap.size rfl (tv 1 0 ⟨t.toArray⟩ 0) rfl (setRow_heap _ _ _ _ _ _ g2) _ _ rfl rfl ⟨rfl, ?_⟩
    exact below_setRow B2 (Nat.le_refl _) _
  have c1' : isLet c = false := by simpa using c1
  have t1 : ((c :: r).takeWhile isLet).length = 0 := by rw [List.takeWhile_cons, if_neg c1]; rfl
  rw [t1] at C1
  clear t1 c1
  by_cases c2 : isDig c = true
  · have hx : lexeme c r = (match numOf (c :: r.takeWhile isDig) with | some n => Lx.tok 2 [] n | Option.none => Lx.err 7, (r.takeWhile isDig).length) := by
      unfold lexeme
      simp only [hb, c1', c2, Bool.false_eq_true, if_false, if_true]
      rfl
    have ht : ((c :: r).takeWhile isDig).length = (r.takeWhile isDig).length + 1 := by rw [List.takeWhile_cons, if_pos c2]; rfl
    have hle := takeWhile_le isDig r
    have hd : (s.extract 0 ((r.takeWhile isDig).length + 1)).data.toList = c :: r.takeWhile isDig := by
      rw [Lib.extract_data, hS, List.drop_zero, Nat.sub_zero, List.take_succ_cons, takeWhile_take]
    have C4 : Hid (∀ W, Calls Tryd.prog 91 #[.string (s.extract 0 ((r.takeWhile isDig).length + 1))] W fun e w' => e = .returned (.tuple #[.int .i64 ((numR (c :: r.takeWhile isDig)).1 : Nat), .int .i64 ((numR (c :: r.takeWhile isDig)).2 : Nat)]) ∧ w' = W) := fun W => by
      have := number_any (s.extract 0 ((r.takeWhile isDig).length + 1)) (by rw [ByteArray.size_extract]; unfold maxLen; omega) (by rw [ByteArray.size_extract]; omega) (by rw [hd]; exact dig_all c2) W
      rwa [hd] at this
    have HX : Hid (∀ m : Int, FirstR (lexeme c r) (.returned (.tuple #[.agg (tv 2 0 ⟨#[]⟩ ((numR (c :: r.takeWhile isDig)).1 : Nat)), .int .i64 (((r.takeWhile isDig).length + 1 : Nat) : Int), .int .i64 ((numR (c :: r.takeWhile isDig)).2 : Nat)]))) := fun _ => by
      rw [hx]
      unfold numR
      cases numOf (c :: r.takeWhile isDig) with
      | some v => exact rfl
      | none => exact ⟨_, _, _, rfl⟩
    obtain ⟨n, hn⟩ : ∃ n, n = (r.takeWhile isDig).length := ⟨_, rfl⟩
    obtain ⟨R, hR⟩ : ∃ R, R = numR (c :: r.takeWhile isDig) := ⟨_, rfl⟩
    rw [← hR, ← hn] at C4 HX
    rw [← hn] at ht hle
    rw [ht] at C2
    clear hR hn hd ht c2 hS C3 hb hh hm hx
    go_enter Tryd.func65, Tryd.ntmps65
    go_wp2_with fail
    refine (C1.out _).mono ?_
    rintro e w1 ⟨rfl, rfl⟩
    go_wp2_with fail
    refine (C2.out _).mono ?_
    rintro e w1 ⟨rfl, rfl⟩
    go_wp2_with fail
    refine (C4.out _).mono ?_
    rintro e w1 ⟨rfl, rfl⟩
    go_wp2_with (first
      | (refine wl_storeE (E := TokE) TokOk rfl _ _ rfl w.heap.size (tv 2 0 ⟨#[]⟩ (R.1 : Nat)) (tv_fits _ _ _ _) rfl rfl _ (heap_new _ _ _ rfl) rfl _ (setRow_new _ _ _ _ _ rfl) ?_))
    refine retT (p := 2) (u := 3) (u' := 4) rfl rfl w.heap.size rfl (tv 2 0 ⟨#[]⟩ (R.1 : Nat)) rfl (heap_new _ _ _ rfl) _ _ rfl rfl ⟨HX.out 0, ?_⟩
    exact (Below.refl _ _).alloc (Nat.le_refl _) _
  have c2' : isDig c = false := by simpa using c2
  have t2 : ((c :: r).takeWhile isDig).length = 0 := by rw [List.takeWhile_cons, if_neg c2]; rfl
  rw [t2] at C2
  clear t2 c2
  have HX : Hid (if (signR c r).2 = 0 then lexeme c r = (Lx.err 6, 0) else ∃ m, (signR c r).2 = m + 1 ∧ lexeme c r = (Lx.tok (signR c r).1 [] 0, m)) := by
    show ite _ _ _
    unfold lexeme signR
    simp only [hb, c1', c2', Bool.false_eq_true, if_false]
    by_cases k1 : (c == 46) = true
    · simp [k1]
    · have k1' : (c == 46) = false := by simpa using k1
      by_cases k2 : (c == 47) = true
      · simp [k1', k2]
      · have k2' : (c == 47) = false := by simpa using k2
        by_cases k3 : (c == 45) = true
        · by_cases k4 : (r.head? == some 62) = true
          · simp only [k1', k2', k3, k4]; simp
          · have k4' : (r.head? == some 62) = false := by simpa using k4
            simp only [k1', k2', k3, k4']; simp
        · have k3' : (c == 45) = false := by simpa using k3
          by_cases k5 : (c == 10) = true
          · simp [k1', k2', k3', k5]
          · have k5' : (c == 10) = false := by simpa using k5
            simp [k1', k2', k3', k5', hh]
  obtain ⟨R, hR⟩ : ∃ R, R = signR c r := ⟨_, rfl⟩
  rw [← hR] at C3 HX
  clear hR hS hb hh hm c1' c2'
  by_cases h0 : R.2 = 0
  · have HY : Hid (lexeme c r = (Lx.err 6, 0)) := by
      have := HX.out
      rwa [if_pos h0] at this
    rw [HY.out]
    rw [h0] at C3
    clear HX h0
    go_enter Tryd.func65, Tryd.ntmps65
    go_wp2_with fail
    refine (C1.out _).mono ?_
    rintro e w1 ⟨rfl, rfl⟩
    go_wp2_with fail
    refine (C2.out _).mono ?_
    rintro e w1 ⟨rfl, rfl⟩
    go_wp2_with fail
    refine (C3.out _).mono ?_
    rintro e w1 ⟨rfl, rfl⟩
    go_wp2_with (first
      | (refine wl_storeE (E := TokE) TokOk rfl _ _ rfl w.heap.size (tv 0 0 ⟨#[]⟩ 0) (tv_fits _ _ _ _) rfl rfl _ (heap_new _ _ _ rfl) rfl _ (setRow_new _ _ _ _ _ rfl) ?_))
    refine retT (p := 2) (u := 3) (u' := 4) rfl rfl w.heap.size rfl (tv 0 0 ⟨#[]⟩ 0) rfl (heap_new _ _ _ rfl) _ _ rfl rfl ⟨⟨_, _, _, rfl⟩, ?_⟩
    exact (Below.refl _ _).alloc (Nat.le_refl _) _
  · obtain ⟨m, hm, hl⟩ : ∃ m, R.2 = m + 1 ∧ lexeme c r = (Lx.tok R.1 [] 0, m) := by
      have := HX.out
      rwa [if_neg h0] at this
    have hm2 : m ≤ r.length := by have := lexeme_le c r; rw [hl] at this; exact this
    rw [hl]
    rw [hm] at C3
    obtain ⟨k, hk⟩ : ∃ k, k = R.1 := ⟨_, rfl⟩
    rw [← hk] at C3 ⊢
    clear HX h0 hl hm hk
    go_enter Tryd.func65, Tryd.ntmps65
    go_wp2_with fail
    refine (C1.out _).mono ?_
    rintro e w1 ⟨rfl, rfl⟩
    go_wp2_with fail
    refine (C2.out _).mono ?_
    rintro e w1 ⟨rfl, rfl⟩
    go_wp2_with fail
    refine (C3.out _).mono ?_
    rintro e w1 ⟨rfl, rfl⟩
    go_wp2_with (first
      | (refine wl_storeE (E := TokE) TokOk rfl _ _ rfl w.heap.size (tv (k : Nat) 0 ⟨#[]⟩ 0) (tv_fits _ _ _ _) rfl rfl _ (heap_new _ _ _ rfl) rfl _ (setRow_new _ _ _ _ _ rfl) ?_))
    refine retT (p := 2) (u := 3) (u' := 4) rfl rfl w.heap.size rfl (tv (k : Nat) 0 ⟨#[]⟩ 0) rfl (heap_new _ _ _ rfl) _ _ rfl rfl ⟨rfl, ?_⟩
    exact (Below.refl _ _).alloc (Nat.le_refl _) _
end Go.Proofs.YtfamnloobmdhdaaDoor
namespace Go.Proofs.YtfamnloobmdhdaaDoor
open Go Go.RowKit
set_option maxRecDepth 20000

/-- What a text comes to: its tokens, or what is wrong with it and where. -/
def lexT (S : List UInt8) : List Tok × Nat × Nat :=
  if 4096 < S.length then ([], 5, 4096) else match lexW 0 S with | .ok l => (l, 0, 0) | .error x => ([], x.1, x.2)

theorem err_ne {c : UInt8} {r : List UInt8} {n e : Nat} (h : lexeme c r = (Lx.err e, n)) : e = 6 ∨ e = 7 :=
  (lexW_error (c :: r) 0 e 0 (lexW_err h)).2.2
theorem lexW_len {S : List UInt8} {l : List Tok} (h : lexW 0 S = .ok l) : l.length ≤ S.length := (lexW_places S 0 l h).2.2

set_option maxHeartbeats 4000000 in
theorem tokens_any (s : ByteArray) (hs : s.size ≤ maxLen) (w : World) :
    Calls Tryd.prog 41 #[.string s] w fun e w' => ∃ u, e = .returned (.tuple #[u, .int .i64 ((lexT s.data.toList).2.1 : Nat), .int .i64 ((lexT s.data.toList).2.2 : Nat)]) ∧
      w'.ownsRow w.heap.size 90 4 u (lexT s.data.toList).1.length (gcells encT (lexT s.data.toList).1) ∧ Below w.heap.size w w' := by
  unfold maxLen at hs
  by_cases h4 : 4096 < s.size
  · have hR : lexT s.data.toList = ([], 5, 4096) := by unfold lexT; rw [if_pos (by rw [← Lib.size_eq]; exact h4)]
    rw [hR]
    have h4' : (s.size : Int) > 4096 := by omega
    clear hR h4
    go_enter Tryd.func41, Tryd.ntmps41
    go_wp2_with fail
    go_step3
    go_wp2_with fail
    rw [Exit.noGoto_ret]
    go_ret3
    exact ⟨_, rfl, World.ownsRow_nil _ _ _ _, Below.refl _ _⟩
  · obtain ⟨S, hS⟩ : ∃ S, S = s.data.toList := ⟨_, rfl⟩
    have hlen : S.length = s.size := by rw [hS]; exact (Lib.size_eq s).symm
    have HR : Hid (lexT S = match lexW 0 S with | .ok l => (l, 0, 0) | .error x => ([], x.1, x.2)) := by
      show _ = _
      unfold lexT
      rw [if_neg (by omega)]
    have HS : Hid (S = s.data.toList) := hS
    rw [← hS]
    obtain ⟨R, hRR⟩ : ∃ R, R = lexT S := ⟨_, rfl⟩
    rw [← hRR] at HR ⊢
    have h4' : ¬ (s.size : Int) > 4096 := by omega
    clear hS hRR
    go_enter Tryd.func41, Tryd.ntmps41
    go_wp2_with fail
    go_step3
    go_wp2_with fail
    go_step3
    go_wp2_with fail
    go_loopw [5, 6] (fun out i wr => ∃ p : Nat, p ≤ s.size ∧ i = .int .i64 (p : Int) ∧ ∃ P : List Tok, P.length ≤ p ∧ Hid (lexW 0 S = glue P (lexW p (S.drop p))) ∧ wr.ownsRow w.heap.size 90 4 out P.length (gcells encT P) ∧ Below w.heap.size w wr) (fun _ i _ => s.size - (intOf i).toNat)
    case atStart => exact ⟨0, Nat.zero_le _, rfl, [], Nat.zero_le _, (glue_nil _).symm, World.ownsRow_nil _ _ _ _, Below.refl _ _⟩
    case round =>
      obtain ⟨p, hp, rfl, P, hPl, HW, hown, hb⟩ := hrel
      have OWN : Hid (wr.ownsRow w.heap.size 90 4 u5 P.length (gcells encT P)) := hown
      clear hown
      by_cases hlt : p < s.size
      · have hlt' : (p : Int) < (s.size : Int) := by omega
        obtain ⟨c, r, hcr⟩ : ∃ c r, S.drop p = c :: r := by
          cases h : S.drop p with
          | nil =>
            have := congrArg List.length h
            rw [List.length_drop] at this
            simp at this
            omega
          | cons c r => exact ⟨c, r, rfl⟩
        have hrl : r.length + 1 + p = s.size := by
          have := congrArg List.length hcr
          rw [List.length_drop] at this
          simp at this
          omega
        have hix : ∀ W, (Instr.index 9 (.string s) (.int .i64 (p : Int))).run Tryd.prog W = .ok (.int .u8 (c.toNat : Int)) W := fun W => by
          have hc : s[p] = c := by
            have h1 := byte_q s p hlt
            rw [← HS.out] at h1
            have h2 : S[p]? = some c := by rw [← List.head?_drop, hcr]; rfl
            rw [h1] at h2
            simpa using h2
          rw [← hc]
          simp [go_sem, Tryd.underlying9, hlt]
        have HD : Hid (∀ n, r.drop n = S.drop (p + 1 + n)) := fun n => by
          have := congrArg (List.drop 1) hcr
          rw [List.drop_drop] at this
          simp only [List.drop_succ_cons, List.drop_zero] at this
          rw [← this, List.drop_drop]
        have HX : Hid ((s.extract p s.size).data.toList = c :: r) := by
          show _ = _
          rw [Lib.extract_data, ← HS.out, hcr, List.take_of_length_le]
          simp; omega
        have hxs : (s.extract p s.size).size ≤ 4096 := by rw [ByteArray.size_extract]; omega
        rw [hcr] at HW
        have e9 : ((c.toNat : Int) == 9) = (c == 9) := byte_beq c 9
        have e13 : ((c.toNat : Int) == 13) = (c == 13) := byte_beq c 13
        have e32 : ((c.toNat : Int) == 32) = (c == 32) := byte_beq c 32
        have e35 : ((c.toNat : Int) == 35) = (c == 35) := byte_beq c 35
        clear hcr hlt
        by_cases hbl : isBlank c = true
        · have hx : lexeme c r = (Lx.none, 0) := lexeme_blank hbl r
          have HW2 : Hid (lexW 0 S = glue P (lexW (p + 1) (S.drop (p + 1)))) := by
            show _ = _
            rw [HW.out, lexW_none hx, HD.out 0]
          unfold isBlank at hbl
          clear HW hx
          by_cases d9 : (c == 9) = true
          · rw [d9] at e9
            clear e13 e32 e35 hbl d9
            go_wp2_with fail
            go_roundw
            case rel => exact ⟨p + 1, by omega, by go_num, P, by omega, HW2, OWN.out, hb⟩
            case measure => simp [intOf]; omega
          · have d9' : (c == 9) = false := by simpa using d9
            rw [d9'] at e9
            by_cases d13 : (c == 13) = true
            · rw [d13] at e13
              clear e32 e35 hbl d9 d9' d13
              go_wp2_with fail
              go_roundw
              case rel => exact ⟨p + 1, by omega, by go_num, P, by omega, HW2, OWN.out, hb⟩
              case measure => simp [intOf]; omega
            · have d13' : (c == 13) = false := by simpa using d13
              rw [d13'] at e13
              have d32 : (c == 32) = true := by simpa [d9', d13'] using hbl
              rw [d32] at e32
              clear e35 hbl d9 d9' d13 d13' d32
              go_wp2_with fail
              go_roundw
              case rel => exact ⟨p + 1, by omega, by go_num, P, by omega, HW2, OWN.out, hb⟩
              case measure => simp [intOf]; omega
        · have hbl' : isBlank c = false := by simpa using hbl
          have h3 : (c == 9) = false ∧ (c == 13) = false ∧ (c == 32) = false := by
            unfold isBlank at hbl'
            simp only [Bool.or_eq_false_iff] at hbl'
            exact ⟨hbl'.1.1, hbl'.1.2, hbl'.2⟩
          rw [h3.1] at e9
          rw [h3.2.1] at e13
          rw [h3.2.2] at e32
          clear hbl h3
          by_cases d35 : (c == 35) = true
          · have hc35 : c = 35 := by simpa using d35
            have hx := lexeme_hash r
            rw [← hc35] at hx
            have C1 : Hid (∀ W, Calls Tryd.prog 64 #[.string (s.extract p s.size)] W fun e w' => e = .returned (.int .i64 (((r.takeWhile notEnd).length + 1 : Nat) : Int)) ∧ w' = W) := fun W => by
              have := remark_any (s.extract p s.size) W
              rwa [HX.out, List.takeWhile_cons, if_pos (by rw [hc35]; decide), List.length_cons] at this
            have HW2 : Hid (lexW 0 S = glue P (lexW (p + 1 + (r.takeWhile notEnd).length) (S.drop (p + 1 + (r.takeWhile notEnd).length)))) := by
              show _ = _
              rw [HW.out, lexW_none hx, HD.out]
            have hle := takeWhile_le notEnd r
            obtain ⟨n, hn⟩ : ∃ n, n = (r.takeWhile notEnd).length := ⟨_, rfl⟩
            rw [← hn] at C1 HW2 hle
            rw [d35] at e35
            clear hn hx hc35 d35 HW
            go_wp2_with fail
            refine (C1.out _).mono ?_
            rintro e w1 ⟨rfl, rfl⟩
            go_wp2_with fail
            go_roundw
            case rel => exact ⟨p + 1 + n, by omega, by go_num, P, by omega, HW2, OWN.out, hb⟩
            case measure => simp [intOf]; omega
          · have d35' : (c == 35) = false := by simpa using d35
            have C1 : Hid (∀ W, Calls Tryd.prog 65 #[.string (s.extract p s.size)] W fun e w' => FirstR (lexeme c r) e ∧ Below W.heap.size W w') := fun W => first_any (s.extract p s.size) hxs c r HX.out hbl' d35' W
            rw [d35'] at e35
            clear d35
            rcases hx : lexeme c r with ⟨x, n⟩
            have HLE : n ≤ r.length := by have := lexeme_le c r; rw [hx] at this; exact this
            rcases x with e | _ | ⟨k, t, v⟩
            · have he := err_ne hx
              have HRR : Hid (R = ([], e, p)) := by
                show _ = _
                rw [HR.out, HW.out, lexW_err hx]
                rfl
              rw [hx] at C1
              clear hx HW d35'
              have hne : ((e : Int) != 0) = true := by simp; omega
              go_wp2_with fail
              refine (C1.out _).mono ?_
              rintro e1 w1 ⟨⟨k, v, m, rfl⟩, hb1⟩
              have B1 := hb.trans (hb1.mono hb.size)
              go_wp2_with (first
                | (refine wl_storeE (E := TokE) TokOk rfl _ _ rfl w1.heap.size (tv k 0 ⟨#[]⟩ v) (tv_fits _ _ _ _) rfl rfl _ (heap_new _ _ _ rfl) rfl _ (setRow_new _ _ _ _ _ rfl) ?_))
              simp only [Exit.noGoto_ret]
              go_ret3
              rw [HRR.out]
              exact ⟨_, rfl, World.ownsRow_nil _ _ _ _, B1.alloc B1.size _⟩
            · exfalso
              rcases lexeme_none hx with ⟨h1, _⟩ | ⟨h1, _⟩
              · rw [h1] at hbl'; cases hbl'
              · rw [h1] at d35'; cases d35'
            · have HW2 : Hid (lexW 0 S = glue (P ++ [⟨k, p, t, v⟩]) (lexW (p + 1 + n) (S.drop (p + 1 + n)))) := by
                show _ = _
                rw [HW.out, lexW_tok hx, HD.out, glue_glue]
              rw [hx] at C1
              have C2 : Hid (∀ W, Calls Tryd.prog 65 #[.string (s.extract p s.size)] W fun e w' => e = .returned (.tuple #[.agg (tv (k : Nat) 0 ⟨t.toArray⟩ (v : Nat)), .int .i64 ((n + 1 : Nat) : Int), .int .i64 0]) ∧ Below W.heap.size W w') := C1.out
              have HP : Hid (P.length ≤ 4096) := by show _ ≤ _; omega
              clear hx HW C1 d35' hbl' HX HD
              go_wp2_with fail
              refine (C2.out _).mono ?_
              rintro e1 w1 ⟨rfl, hb1⟩
              have B1 := hb.trans (hb1.mono hb.size)
              have OWN1 : Hid (w1.ownsRow w.heap.size 90 4 u5 P.length (gcells encT P)) := gown_below OWN.out hb1
              clear OWN hb hb1
              have z1 := B1.size
              have HNE : Hid (u5.ownBlock ≠ some w1.heap.size) := gown_ne OWN1.out (Nat.le_refl _)
              go_wp2_with (first
                | (refine wl_storeE (E := TokE) TokOk rfl _ _ rfl w1.heap.size (tv (k : Nat) 0 ⟨t.toArray⟩ (v : Nat)) (tv_fits _ _ _ _) rfl rfl _ (heap_new _ _ _ rfl) rfl _ (setRow_new _ _ _ _ _ rfl) ?_)
                | (refine wl_loadE (E := TokE) TokOk rfl _ rfl w1.heap.size 0 rfl _ _ _ (tv (k : Nat) (p : Nat) ⟨t.toArray⟩ (v : Nat)) rfl (heap_new _ _ _ rfl) (own_cells _ _) ?_)
                | (refine wl_buildE (E := TokE) TokOk rfl _ rfl (tv (k : Nat) (p : Nat) ⟨t.toArray⟩ (v : Nat)) rfl rfl ?_)
                | (at_builtin; refine of_stopT ?_))
              unfold StopT
              have a1 := heap_new (w1.alloc (.cells ((tv (k : Nat) 0 ⟨t.toArray⟩ (v : Nat)).setIfInBounds 1 (.int .i64 (p : Int))) 90)) (.cells (tv (k : Nat) (p : Nat) ⟨t.toArray⟩ (v : Nat)) 90) (w1.heap.size + 1) (by simp)
              have OWN3 : Hid (((w1.alloc (.cells ((tv (k : Nat) 0 ⟨t.toArray⟩ (v : Nat)).setIfInBounds 1 (.int .i64 (p : Int))) 90)).alloc (.cells (tv (k : Nat) (p : Nat) ⟨t.toArray⟩ (v : Nat)) 90)).ownsRow w.heap.size 90 4 u5 P.length (gcells encT P)) := (OWN1.out.alloc _).alloc _
              have B3 := (B1.alloc B1.size (.cells ((tv (k : Nat) 0 ⟨t.toArray⟩ (v : Nat)).setIfInBounds 1 (.int .i64 (p : Int))) 90)).alloc (by simp; omega) (.cells (tv (k : Nat) (p : Nat) ⟨t.toArray⟩ (v : Nat)) 90)
              refine wl_appendE (E := TokE) TokOk encT rfl _ _ rfl w.heap.size _ P (⟨k, p, t, v⟩ : Tok) (tv_fits _ _ _ _) rfl OWN3.out _ 1 rfl a1 (by have := HP.out; omega) (by simp; omega) ?_
              intro v' w2 hown2 hgr _
              have B4 : Below w.heap.size w w2 := B3.grown hgr (by simp; omega) (fun q hq => (OWN3.out.lt q hq).1)
              have OWN4 : Hid (w2.ownsRow w.heap.size 90 4 v' (P ++ [(⟨k, p, t, v⟩ : Tok)]).length (gcells encT (P ++ [(⟨k, p, t, v⟩ : Tok)]))) := hown2
              simp only [Act.put, List.setIfInBounds_toArray, List.set_cons_succ, List.set_cons_zero]
              clear hown2 hgr a1 OWN3 B3 B1 OWN1
              go_wp2_with fail
              go_roundw
              case rel => exact ⟨p + 1 + n, by omega, by go_num, P ++ [⟨k, p, t, v⟩], by simp; omega, HW2, OWN4.out, B4⟩
              case measure => simp [intOf]; omega
      · have hlt' : (s.size : Int) ≤ (p : Int) := by omega
        have HRR : Hid (R = (P, 0, 0)) := by
          show _ = _
          rw [HR.out, HW.out, List.drop_of_length_le (by omega), lexW_nil]
          simp [glue]
        clear hlt HW
        go_wp2_with fail
        simp only [Exit.noGoto_ret]
        go_ret3
        rw [HRR.out]
        exact ⟨_, rfl, OWN.out, hb⟩
end Go.Proofs.YtfamnloobmdhdaaDoor
