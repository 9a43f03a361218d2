import Derived.Test.YtanmbaleadcfgaaRwRow
import Derived.Test.YtanmbaleadcfgaaRdParse
import Derived.Test.YtanmbaleadcfgaaRefTok
namespace Go.Proofs.Ytanmbaleadcfgaa
open Go Go.RowKit

theorem raws_clas {w : World} {B : Nat} {L : List Raw} {P : List (Raw × Value)} {x : Raw} {u v v' : Value} {w' : World} (hP : P.map (·.1) = L) (hPf : ∀ q ∈ P, ClasOwn B w q.1.clauses q.2) (hx : ClasOwn B w x.clauses u) (hPo : w.ownsRow B 39 8 v P.length (gcells (fun q : Raw × Value => rawV q.1 q.2) P)) (hgr : w.grownBy w' v.ownBlock)
    (hown : w'.ownsRow B 39 8 v' (P ++ [(x, u)]).length (gcells (fun q : Raw × Value => rawV q.1 q.2) (P ++ [(x, u)]))) : RawsOwn B w' (L ++ [x]) v' :=
  NOwn.snoc (E := RawE) (row := rawV) (R := fun w' x u => ClasOwn B w' x.clauses u) hP hown (fun q hq => clas_grown hPo hgr (hPf q hq)) (clas_grown hPo hgr hx)

set_option maxHeartbeats 8000000 in
set_option maxRecDepth 10000 in
theorem rparse_any (s : ByteArray) (hs : s.size ≤ maxLen) (w : World) :
    Calls Try.prog 8 #[.string s] w fun e w' => ∃ v, e = .returned (.tuple #[v, .int .i64 ((parseP s.data.toList).2.1 : Nat), .int .i64 ((parseP s.data.toList).2.2 : Nat)]) ∧ RawsOwn w.heap.size w' (parseP s.data.toList).1 v ∧ Below w.heap.size w w' := by
  have C1 : Hid (∀ W, Calls Try.prog 13 #[.string s] W fun e w' => ∃ u, e = .returned (.tuple #[u, .int .i64 ((lexT s.data.toList).2.1 : Nat), .int .i64 ((lexT s.data.toList).2.2 : Nat)]) ∧ w'.ownsRow W.heap.size 33 4 u (lexT s.data.toList).1.length (gcells encT (lexT s.data.toList).1) ∧ Below W.heap.size W w') := rtokens_any s hs
  obtain ⟨S, hS⟩ : ∃ S, S = s.data.toList := ⟨_, rfl⟩
  have hlen : S.length = s.size := by rw [hS]; exact (Lib.size_eq s).symm
  rw [← hS] at C1 ⊢
  have HLEN : Hid (S.length = s.size) := hlen
  clear hS hlen hs
  by_cases hE : (lexT S).2.1 = 0
  · obtain ⟨T, hT, hL, h4, hP⟩ := parseP_ok hE
    rw [hL] at C1
    have C2 : Hid (∀ W, Calls Try.prog 13 #[.string s] W fun e w' => ∃ u, e = .returned (.tuple #[u, .int .i64 0, .int .i64 0]) ∧ w'.ownsRow W.heap.size 33 4 u T.length (gcells encT T) ∧ Below W.heap.size W w') := C1.out
    have hTl : T.length ≤ 4096 := by have := lexW_len hT; omega
    have HP : Hid (parseP S = match takeL S.length (T.length + 1) [] T with | .ok l => (l, 0, 0) | .error x => ([], x.1, x.2)) := hP
    have HDR : Hid (match takeL S.length (T.length + 1) [] T with | .ok l => (rowsW S.length T (T.length + 1) [] ⟨0, 0, 0⟩).2.bad = 0 ∧ (rowsW S.length T (T.length + 1) [] ⟨0, 0, 0⟩).1 = l | .error x => (rowsW S.length T (T.length + 1) [] ⟨0, 0, 0⟩).2.bad = x.1 ∧ (rowsW S.length T (T.length + 1) [] ⟨0, 0, 0⟩).2.pos = x.2 ∧ x.1 ≠ 0) := does_rows S.length T (T.length + 1) [] ⟨0, 0, 0⟩ rfl
    have HRES : Hid (((rowsW S.length T (T.length + 1) [] ⟨0, 0, 0⟩).2.bad = 0 → parseP S = ((rowsW S.length T (T.length + 1) [] ⟨0, 0, 0⟩).1, 0, 0)) ∧ ((rowsW S.length T (T.length + 1) [] ⟨0, 0, 0⟩).2.bad ≠ 0 → parseP S = ([], (rowsW S.length T (T.length + 1) [] ⟨0, 0, 0⟩).2.bad, (rowsW S.length T (T.length + 1) [] ⟨0, 0, 0⟩).2.pos))) := by
      show _ ∧ _
      have h1 := HP.out
      have h2 := HDR.out
      cases hx : takeL S.length (T.length + 1) [] T with
      | ok l =>
        rw [hx] at h1 h2
        exact ⟨fun _ => by rw [h1, h2.2], fun hn => absurd h2.1 hn⟩
      | error x =>
        rw [hx] at h1 h2
        exact ⟨fun hz => absurd (h2.1.symm.trans hz) h2.2.2, fun _ => by rw [h1, h2.1, h2.2.1]⟩
    obtain ⟨R, hR⟩ : ∃ R, R = parseP S := ⟨_, rfl⟩
    rw [← hR] at HRES ⊢
    obtain ⟨E, hEE⟩ : ∃ E, E = S.length := ⟨_, rfl⟩
    rw [← hEE] at HRES HLEN
    clear hE hT hL hP hR C1 h4 HP HDR hEE
    go_enter Try.func8, Try.ntmps8
    go_wp2_with fail
    refine (C2.out _).mono ?_
    rintro e w1 ⟨u, rfl, hown1, hb1⟩
    have G1 : GSl TokE encT w1 u T := gsl_of (E := TokE) hown1 fun c _ => rfl
    obtain ⟨oL, capL, rfl, hcL, hmL⟩ := G1.slice
    have HL : Hid (GSl TokE encT w1 (.slice oL T.length capL) T) := G1
    have HB1 : Hid (Below w.heap.size w w1) := hb1
    unfold maxLen at hmL
    clear hown1 G1 hb1
    obtain ⟨g, hg⟩ : ∃ g, g = w1.heap.size := ⟨_, rfl⟩
    obtain ⟨wA, hwA⟩ : ∃ wA, wA = (w1.alloc (.cells (wkV (.slice oL T.length capL) E ⟨0, 0, 0⟩) 50)).alloc (.cells #[] 39) := ⟨_, rfl⟩
    have HWA : Hid (wA = (w1.alloc (.cells #[.slice oL T.length capL, .int .i64 0, .int .i64 (s.size : Int), .int .i64 0, .int .i64 0] 50)).alloc (.cells #[] 39) ∧ g = w1.heap.size) := ⟨by rw [hwA]; show _ = (w1.alloc (.cells #[.slice oL T.length capL, .int .i64 0, .int .i64 (s.size : Int), .int .i64 0, .int .i64 0] 50)).alloc (.cells #[] 39); rw [← HLEN.out]; rfl, hg⟩
    have HBA : Hid (Below w1.heap.size w1 wA) := by rw [hwA]; exact ((Below.refl _ _).alloc (Nat.le_refl _) _).alloc (by simp) _
    have HWK : Hid (Wk w1 wA g E (.slice oL T.length capL) ⟨0, 0, 0⟩) := ⟨HBA.out, by omega, by rw [hwA]; exact heap_past _ _ _ _ (heap_new _ _ _ hg)⟩
    have HRO : Hid (RawsOwn (g + 1) wA [] (.slice (some ⟨g + 1, 0, none⟩) 0 0)) := ⟨[], rfl, ⟨rfl, Or.inr ⟨g + 1, 0, #[], rfl, Nat.le_refl _, by rw [hwA]; exact heap_new _ _ _ (by simp [hg]), Nat.le_refl _, by decide, rfl, rfl⟩⟩, fun q hq => by simp at hq⟩
    clear hwA hg
    go_wp2_with fail
    rw [← HWA.out.1, ← HWA.out.2]
    have CR : Hid (∀ W s, s.i < T.length → Wk w1 W g E (.slice oL T.length capL) s → Calls Try.prog 15 #[.pointer (some ⟨g, 0, none⟩)] W fun e w' => ∃ u, e = .returned (.agg (rawV (rowW E T s).1 u)) ∧ ClasOwn W.heap.size w' (rowW E T s).1.clauses u ∧ W.grownBy w' (some g) ∧ Wk w1 w' g E (.slice oL T.length capL) (rowW E T s).2) := fun W s hi h => rrow_any w1 W g E _ T HL.out (by omega) s hi h
    have CW : Hid (∀ W s, Wk w1 W g E (.slice oL T.length capL) s → Calls Try.prog 14 #[.pointer (some ⟨g, 0, none⟩), .int .i64 4] W fun e' w' => e' = .returned (.tuple #[]) ∧ W.grownBy w' (some g) ∧ Wk w1 w' g E (.slice oL T.length capL) (wrong E T 4 s)) := fun W s h => wrong_any w1 W g E _ T HL.out 4 s h
    have hgw : w.heap.size ≤ g := by have := HB1.out.size; have := HWA.out.2; omega
    go_loopw [9] (fun out wr => ∃ (f : Nat) (had : List Raw) (st : Ws), T.length + 1 ≤ st.i + f ∧ st.i ≤ T.length + 15 ∧ had.length ≤ 65 ∧ (st.bad = 0 → had.length ≤ 64) ∧ Hid (rowsW E T (T.length + 1) [] ⟨0, 0, 0⟩ = rowsW E T f had st) ∧ Wk w1 wr g E (.slice oL T.length capL) st ∧ RawsOwn (g + 1) wr had out) (fun _ wr => T.length + 20 - atN wr g)
    case atStart => exact ⟨T.length + 1, [], ⟨0, 0, 0⟩, by simp, by simp, by simp, by simp, rfl, HWK.out, HRO.out⟩
    case round =>
      obtain ⟨f, had, st, hf, hsi, h65, h64, HRW, hwk, hro⟩ := hrel
      obtain ⟨oo, co, rfl⟩ : ∃ o c, u9 = .slice o had.length c := by
        obtain ⟨P, hP, hP2, _⟩ := hro
        obtain ⟨o, cap, e⟩ := gown_slice hP2
        exact ⟨o, cap, by rw [e, ← hP, List.length_map]⟩
      obtain ⟨no, hno⟩ : ∃ no, no = had.length := ⟨_, rfl⟩
      rw [← hno] at hro ⊢
      have HNO : Hid (no = had.length) := hno
      clear hno
      have WKR : Hid (Wk w1 wr g E (.slice oL T.length capL) st) := hwk
      have ROWN : Hid (RawsOwn (g + 1) wr had (.slice oo no co)) := hro
      have BELOW : Hid (Below w.heap.size w wr) := HB1.out.trans (hwk.1.mono HB1.out.size)
      have HAT : Hid (atN wr g = st.i) := at_is hwk
      obtain ⟨c0, c1, c2, c3, c4, fz⟩ := wk_cells hwk
      have fz1 := fz 1
      clear hwk hro HWK HRO fz
      by_cases hlt : st.i < T.length
      · have hlt' : (st.i : Int) < (T.length : Int) := by omega
        by_cases hbd : st.bad = 0
        · have hb0 : ((st.bad : Int) == 0) = true := by simp; omega
          obtain ⟨f', rfl⟩ : ∃ f', f = f' + 1 := ⟨f - 1, by omega⟩
          obtain ⟨bL, offL, cur, ty, fr, c, hoL, hb, hc, hck⟩ := (HL.out.below WKR.out.1).at st.i hlt
          subst hoL
          have hnx : nx E T st = c := by unfold nx; rw [List.getD, hck]; rfl
          have ck : wr.cell? ⟨bL, offL + st.i * 4, none⟩ = some (.int .i64 (c.kind : Int)) := by rw [cell_of_row _ _ _ _ _ _ hb]; exact hc 0 (by decide)
          have h64' := h64 hbd
          clear hb hc hck h64
          by_cases hk7 : c.kind = 7
          · have e7 : ((c.kind : Int) == 7) = true := by simp; omega
            have ROW : Hid (rowsW E T (T.length + 1) [] ⟨0, 0, 0⟩ = rowsW E T f' had (stepW st)) := by show _ = _; rw [HRW.out, rowsW, if_pos ⟨hlt, hbd⟩, if_pos (by rw [hnx]; exact hk7)]
            have HW2 : Hid (Wk w1 (wr.setCell ⟨g, 1, none⟩ (.int .i64 ((st.i : Int) + 1))) g E (.slice (some ⟨bL, offL, none⟩) T.length capL) (stepW st)) := wk_set WKR.out 1 _ _ rfl
            have RO2 : Hid (RawsOwn (g + 1) (wr.setCell ⟨g, 1, none⟩ (.int .i64 ((st.i : Int) + 1))) had (.slice oo no co)) := ROWN.out.by (gb_setCell (gb_refl _ _) (.inl rfl) _ _) (Nat.lt_succ_self g)
            clear hnx hk7 hbd HRW
            go_wp2_with fail
            go_roundw
            case rel => exact ⟨f', had, stepW st, by show _ ≤ st.i + 1 + f'; omega, by show st.i + 1 ≤ _; omega, h65, fun _ => h64', ROW, HW2.out, RO2.out⟩
            case measure => rw [HAT.out, at_is HW2.out]; show _ - (st.i + 1) < _; omega
          · have e7 : ((c.kind : Int) == 7) = false := by simp; omega
            by_cases hm : had.length = 64
            · have em : ((no : Int) == 64) = true := by have := HNO.out; simp; omega
              obtain ⟨sw, hsw⟩ : ∃ sw, sw = wrong E T 4 st := ⟨_, rfl⟩
              have hswi : sw.i = st.i := by rw [hsw, wrong_i]
              have HSWB : Hid (sw.bad = 4) := by show _ = _; rw [hsw, wrong_is hbd]
              have ROW : Hid (rowsW E T (T.length + 1) [] ⟨0, 0, 0⟩ = rowsW E T f' (had ++ [(rowW E T sw).1]) (rowW E T sw).2) := by show _ = _; rw [HRW.out, rowsW, if_pos ⟨hlt, hbd⟩, if_neg (by rw [hnx]; exact hk7)]; simp only [if_pos hm, ← hsw]
              have HSW : Hid (sw = wrong E T 4 st ∧ sw.i = st.i) := ⟨hsw, hswi⟩
              clear hnx hk7 hbd HRW hsw hswi hm
              go_wp2_with fail
              refine (CW.out _ st WKR.out).mono ?_
              rw [← HSW.out.1]
              rintro e W2 ⟨rfl, hg2, hw2⟩
              replace WKR : Hid (Wk w1 W2 g E (.slice (some ⟨bL, offL, none⟩) T.length capL) sw) := hw2
              replace ROWN : Hid (RawsOwn (g + 1) W2 had (.slice oo no co)) := ROWN.out.by hg2 (Nat.lt_succ_self g)
              have hswlt : sw.i < T.length := by have := HSW.out.2; omega
              clear hg2 hw2 ck c0 c1 c2 c3 c4 fz1
              go_wp2_with fail
              refine (CR.out _ sw hswlt WKR.out).mono ?_
              rintro e W3 ⟨u, rfl, hcl3, hg3, hw3⟩
              obtain ⟨x, sx, hrx⟩ : ∃ x sx, rowW E T sw = (x, sx) := ⟨_, _, rfl⟩
              have HRX : Hid (rowW E T sw = (x, sx)) := hrx
              have hsx := row_i E T sw hswlt
              rw [hrx] at hcl3 hw3 hsx ROW ⊢
              have HSX : Hid (sw.i < sx.i ∧ sx.i ≤ T.length + 15) := hsx
              have ROW3 : Hid (RawsOwn (g + 1) W3 had (.slice oo no co)) := ROWN.out.by hg3 (by omega)
              have zg := WKR.out.size
              have HC3 : Hid (ClasOwn (g + 1) W3 x.clauses u) := clas_base hcl3 (by omega)
              obtain ⟨o5, n5, m5, rfl⟩ := clas_slice hcl3
              have HW3 : Hid (Wk w1 W3 g E (.slice (some ⟨bL, offL, none⟩) T.length capL) sx) := hw3
              have ROWF : Hid (rowsW E T (T.length + 1) [] ⟨0, 0, 0⟩ = rowsW E T f' (had ++ [x]) sx) := ROW.out
              clear hcl3 hg3 hw3 hrx hsx
              go_wp2_with (first
                | (refine wl_buildE (E := RawE) RawOk rfl _ rfl (rawV x (.slice o5 n5 m5)) rfl rfl ?_)
                | (at_builtin; refine of_stopT ?_))
              unfold StopT
              obtain ⟨P, hP1, hP2, hP3⟩ := ROW3.out
              have alc : Below W3.heap.size W3 (W3.alloc (.cells (rawV x (.slice o5 n5 m5)) 39)) := (Below.refl _ _).alloc (Nat.le_refl _) _
              have hPl : P.length = had.length := by rw [← hP1, List.length_map]
              have z3 := HW3.out.size
              have HO6 : Hid ((W3.alloc (.cells (rawV x (.slice o5 n5 m5)) 39)).ownsRow (g + 1) 39 8 (.slice oo no co) P.length (gcells (fun p : Raw × Value => rawV p.1 p.2) P)) := hP2.alloc _
              refine wl_appendE (E := RawE) RawOk (fun p : Raw × Value => rawV p.1 p.2) rfl _ _ rfl (g + 1) _ P (x, .slice o5 n5 m5) (raw_fits _ _ ⟨_, _, _, rfl⟩) rfl HO6.out _ 1 rfl (heap_new _ _ _ rfl) (by omega) (by simp; omega) ?_
              intro v' w6 hown6 hgr6 _
              have HOWN6 : Hid (RawsOwn (g + 1) w6 (had ++ [x]) v') := raws_clas hP1 (fun q hq => (hP3 q hq).below alc) (HC3.out.below alc) HO6.out hgr6 hown6
              have HW6 : Hid (Wk w1 w6 g E (.slice (some ⟨bL, offL, none⟩) T.length capL) sx) := wk_own (HW3.out.alloc _) hgr6 fun k hk => (HO6.out.lt k hk).1
              obtain ⟨o6, cap6, rfl⟩ := gown_slice hown6
              clear hown6 hgr6 hP1 hP2 hP3 HO6 alc hPl
              simp only [Act.put, List.setIfInBounds_toArray, List.set_cons_succ, List.set_cons_zero]
              go_wp2_with fail
              go_roundw
              case rel => exact ⟨f', had ++ [x], sx, by have := HSX.out; have := HSW.out.2; omega, by have := HSX.out; omega, by simp; omega, fun hz => absurd hz (by obtain ⟨q1, _⟩ := keeps_row E T sw (by rw [HSWB.out]; decide); rw [HRX.out] at q1; have q2 : sx.bad = sw.bad := q1; rw [q2, HSWB.out]; decide), ROWF, HW6.out, by have := HOWN6.out; simpa using this⟩
              case measure => rw [HAT.out, at_is HW6.out]; have := HSX.out; have := HSW.out.2; omega
            · have em : ((no : Int) == 64) = false := by have := HNO.out; simp; omega
              have ROW : Hid (rowsW E T (T.length + 1) [] ⟨0, 0, 0⟩ = rowsW E T f' (had ++ [(rowW E T st).1]) (rowW E T st).2) := by show _ = _; rw [HRW.out, rowsW, if_pos ⟨hlt, hbd⟩, if_neg (by rw [hnx]; exact hk7)]; simp only [if_neg hm]
              have hm64 : had.length + 1 ≤ 64 := by omega
              clear hnx hk7 hbd HRW hm
              go_wp2_with fail
              clear ck c0 c1 c2 c3 c4 fz1
              refine (CR.out _ st hlt WKR.out).mono ?_
              rintro e W3 ⟨u, rfl, hcl3, hg3, hw3⟩
              obtain ⟨x, sx, hrx⟩ : ∃ x sx, rowW E T st = (x, sx) := ⟨_, _, rfl⟩
              have hsx := row_i E T st hlt
              rw [hrx] at hcl3 hw3 hsx ROW ⊢
              have HSX : Hid (st.i < sx.i ∧ sx.i ≤ T.length + 15) := hsx
              have ROW3 : Hid (RawsOwn (g + 1) W3 had (.slice oo no co)) := ROWN.out.by hg3 (by omega)
              have zg := WKR.out.size
              have HC3 : Hid (ClasOwn (g + 1) W3 x.clauses u) := clas_base hcl3 (by omega)
              obtain ⟨o5, n5, m5, rfl⟩ := clas_slice hcl3
              have HW3 : Hid (Wk w1 W3 g E (.slice (some ⟨bL, offL, none⟩) T.length capL) sx) := hw3
              have ROWF : Hid (rowsW E T (T.length + 1) [] ⟨0, 0, 0⟩ = rowsW E T f' (had ++ [x]) sx) := ROW.out
              clear hcl3 hg3 hw3 hrx hsx
              go_wp2_with (first
                | (refine wl_buildE (E := RawE) RawOk rfl _ rfl (rawV x (.slice o5 n5 m5)) rfl rfl ?_)
                | (at_builtin; refine of_stopT ?_))
              unfold StopT
              obtain ⟨P, hP1, hP2, hP3⟩ := ROW3.out
              have alc : Below W3.heap.size W3 (W3.alloc (.cells (rawV x (.slice o5 n5 m5)) 39)) := (Below.refl _ _).alloc (Nat.le_refl _) _
              have hPl : P.length = had.length := by rw [← hP1, List.length_map]
              have z3 := HW3.out.size
              have HO6 : Hid ((W3.alloc (.cells (rawV x (.slice o5 n5 m5)) 39)).ownsRow (g + 1) 39 8 (.slice oo no co) P.length (gcells (fun p : Raw × Value => rawV p.1 p.2) P)) := hP2.alloc _
              refine wl_appendE (E := RawE) RawOk (fun p : Raw × Value => rawV p.1 p.2) rfl _ _ rfl (g + 1) _ P (x, .slice o5 n5 m5) (raw_fits _ _ ⟨_, _, _, rfl⟩) rfl HO6.out _ 1 rfl (heap_new _ _ _ rfl) (by omega) (by simp; omega) ?_
              intro v' w6 hown6 hgr6 _
              have HOWN6 : Hid (RawsOwn (g + 1) w6 (had ++ [x]) v') := raws_clas hP1 (fun q hq => (hP3 q hq).below alc) (HC3.out.below alc) HO6.out hgr6 hown6
              have HW6 : Hid (Wk w1 w6 g E (.slice (some ⟨bL, offL, none⟩) T.length capL) sx) := wk_own (HW3.out.alloc _) hgr6 fun k hk => (HO6.out.lt k hk).1
              obtain ⟨o6, cap6, rfl⟩ := gown_slice hown6
              clear hown6 hgr6 hP1 hP2 hP3 HO6 alc hPl
              simp only [Act.put, List.setIfInBounds_toArray, List.set_cons_succ, List.set_cons_zero]
              go_wp2_with fail
              go_roundw
              case rel => exact ⟨f', had ++ [x], sx, by have := HSX.out; omega, by have := HSX.out; omega, by simp; omega, fun hz => by simp; omega, ROWF, HW6.out, by have := HOWN6.out; simpa using this⟩
              case measure => rw [HAT.out, at_is HW6.out]; have := HSX.out; omega
        · have hbdn : ¬ st.bad = 0 := hbd
          replace HRW : Hid (rowsW E T (T.length + 1) [] ⟨0, 0, 0⟩ = (had, st)) := by
            show _ = _
            rw [HRW.out]
            cases f with
            | zero => rfl
            | succ f => rw [rowsW, if_neg fun q => hbd q.2]
          clear hbd
          by_cases hbd : st.bad = 0
          · exact absurd hbd hbdn
          · have hb0 : ((st.bad : Int) == 0) = false := by simp; omega
            have hb1 : ((st.bad : Int) != 0) = true := by simp; omega
            have HRR : Hid (R = ([], st.bad, st.pos)) := by show _ = _; rw [HRES.out.2 (by rw [HRW.out]; exact hbd), HRW.out]
            clear hbd
            have l3 : ∀ u : Later wr, u.world.cell? ⟨g, 3, none⟩ = some (.int .i64 (st.bad : Int)) := later_cell6 WKR.out.2.2 rfl
            have l4 : ∀ u : Later wr, u.world.cell? ⟨g, 4, none⟩ = some (.int .i64 (st.pos : Int)) := later_cell6 WKR.out.2.2 rfl
            go_wp2_with fail
            have ne1 := Later.ne wr
            refine wp_region_later (by kernel_rfl) (by kernel_rfl) ?_
            repeat first | (go_big_quiet_step (rfl)) | (refine q_nil rfl _ rfl _ rfl ?_; simp only [Act.put, List.setIfInBounds_toArray, List.set_cons_succ, List.set_cons_zero])
            refine wpQuiet_nil ?_
            rintro w' ⟨u, rfl⟩
            go_wp2_with fail
            go_ret3
            rw [HRR.out]
            exact ⟨_, rfl, NOwn.nil _ _ _ _ _, BELOW.out.trans (u.below.mono BELOW.out.size)⟩
      · have hlt' : ¬ (st.i : Int) < (T.length : Int) := by omega
        replace HRW : Hid (rowsW E T (T.length + 1) [] ⟨0, 0, 0⟩ = (had, st)) := by
          show _ = _
          rw [HRW.out]
          cases f with
          | zero => rfl
          | succ f => rw [rowsW, if_neg fun q => hlt q.1]
        by_cases hbd : st.bad = 0
        · have hb0 : ((st.bad : Int) == 0) = true := by simp; omega
          have hb1 : ((st.bad : Int) != 0) = false := by simp; omega
          have HRR : Hid (R = (had, 0, 0)) := by show _ = _; rw [HRES.out.1 (by rw [HRW.out]; exact hbd), HRW.out]
          clear hbd
          go_wp2_with fail
          go_ret3
          rw [HRR.out]
          exact ⟨_, rfl, raws_base ROWN.out (by omega), BELOW.out⟩
        · have hb0 : ((st.bad : Int) == 0) = false := by simp; omega
          have hb1 : ((st.bad : Int) != 0) = true := by simp; omega
          have HRR : Hid (R = ([], st.bad, st.pos)) := by show _ = _; rw [HRES.out.2 (by rw [HRW.out]; exact hbd), HRW.out]
          clear hbd
          have l3 : ∀ u : Later wr, u.world.cell? ⟨g, 3, none⟩ = some (.int .i64 (st.bad : Int)) := later_cell6 WKR.out.2.2 rfl
          have l4 : ∀ u : Later wr, u.world.cell? ⟨g, 4, none⟩ = some (.int .i64 (st.pos : Int)) := later_cell6 WKR.out.2.2 rfl
          go_wp2_with fail
          have ne1 := Later.ne wr
          refine wp_region_later (by kernel_rfl) (by kernel_rfl) ?_
          repeat first | (go_big_quiet_step (rfl)) | (refine q_nil rfl _ rfl _ rfl ?_; simp only [Act.put, List.setIfInBounds_toArray, List.set_cons_succ, List.set_cons_zero])
          refine wpQuiet_nil ?_
          rintro w' ⟨u, rfl⟩
          go_wp2_with fail
          go_ret3
          rw [HRR.out]
          exact ⟨_, rfl, NOwn.nil _ _ _ _ _, BELOW.out.trans (u.below.mono BELOW.out.size)⟩
  · have HP : Hid (parseP S = ([], (lexT S).2.1, (lexT S).2.2)) := parseP_lex hE
    obtain ⟨R, hR⟩ : ∃ R, R = parseP S := ⟨_, rfl⟩
    rw [← hR] at HP ⊢
    obtain ⟨⟨L, E, A⟩, hL⟩ : ∃ x, x = lexT S := ⟨_, rfl⟩
    rw [← hL] at C1 HP hE
    simp only at C1 HP hE
    have hne : ((E : Int) != 0) = true := by simp; omega
    clear hE hL hR
    go_enter Try.func8, Try.ntmps8
    go_wp2_with fail
    refine (C1.out _).mono ?_
    rintro e w1 ⟨u, rfl, -, hb1⟩
    go_wp2_with fail
    go_ret3
    rw [HP.out]
    exact ⟨_, rfl, NOwn.nil _ _ _ _ _, hb1⟩
end Go.Proofs.Ytanmbaleadcfgaa
