import Derived.Test.YtjlghkiplapodaaJ9
import Derived.Test.YtjlghkiplapodaaJ10
namespace Go.Proofs.Ytjlghkiplapodaa
open Go Go.RowKit

/-- The least of a header and the least headers of cubes. -/
def least : List Int → List (List Int × List Int) → List Int
  | b, [] => b
  | b, c :: C => least (if lessL (can c.1 c.2) b = true then can c.1 c.2 else b) C
def outH : Option (List (List Int × List Int)) → List Int
  | some (c :: C) => least (can c.1 c.2) C
  | _ => m0
def outB : Option (List (List Int × List Int)) → Bool
  | some (_ :: _) => true
  | _ => false
theorem least_cons {C : List (List Int × List Int)} {b : List Int} {k : Nat} {U N : List Int} (hk : C[k]? = some (U, N)) : least b (C.drop k) = least (if lessL (can U N) b = true then can U N else b) (C.drop (k + 1)) := by
  obtain ⟨h, h2⟩ := List.getElem?_eq_some_iff.1 hk
  rw [List.drop_eq_getElem_cons h, h2, least]

theorem Sl.setRow {w : World} {v : Value} {C : List (List Int × List Int)} (h : Sl w v C) (q : Nat) (hne : v.ownBlock ≠ some q) (cs : Array Value) : Sl (w.setRow q cs) v C := by
  obtain ⟨h0, o, cap, rfl, h1, h2, h3⟩ := h
  refine ⟨h0, o, cap, rfl, h1, h2, fun i hi => ?_⟩
  obtain ⟨g, off, cur, t, fr, rfl, h5, h6⟩ := h3 i hi
  exact ⟨g, off, cur, t, fr, rfl, (setRow_other _ _ _ _ (fun e => hne (by rw [e]; rfl))).trans h5, h6⟩
theorem setRow_two (w : World) (old cs : Array Value) (t : TypeId) (o2 : Obj) : ((w.alloc (.cells old t)).alloc o2).setRow w.heap.size cs = (w.alloc (.cells cs t)).alloc o2 := by
  rw [setRow_past _ _ _ _ (by simp), setRow_new _ _ _ _ _ rfl]
/-- The end of a function whose results are a header in memory, and two more. -/
theorem retHBE {fn : Func} {R : Ending → World → Prop} {a : Act} {w : World} {p q r : Tmp} (hr : fn.results = #[.cell p 24, .tmp q, .tmp r]) (hd : a.defers = []) (g : Nat) (hp : a.tmps.getD p undef = .pointer (some ⟨g, 0, none⟩)) (A : List Int) (hA : A.length = 13)
    (hg : w.heap[g]? = some (.cells (hv A) 24 (0, 0))) (x y : Value) (hx : a.tmps.getD q undef = x) (hy : a.tmps.getD r undef = y) (h : R (.returned (.tuple #[.agg (hv A), x, y])) w) : bodyPost Try.prog fn R .ret a w := by
  refine bodyPost_ret (v := .tuple #[.agg (hv A), x, y]) ?_ hd h
  simp only [results, hr]
  have hp' : a.tmps[p]?.getD undef = .pointer (some ⟨g, 0, none⟩) := by simpa using hp
  have hx' : a.tmps[q]?.getD undef = x := by simpa using hx
  have hy' : a.tmps[r]?.getD undef = y := by simpa using hy
  simp [hp', hx', hy', asAddr, run_loadVar_row w g 24 24 (hv A) (0, 0) _ hg Try.underlying24 rfl (size26 A hA)]

set_option maxHeartbeats 4000000 in
theorem out_any (V M : List Int) (hV : Byt V) (hM : Byt M) (L : List (List Int × List Int)) (hn : L.length ≤ 1000000) (m : Int) (v : Value) (w : World) (hs : Sl w v L) :
    Calls Try.prog 20 #[.agg (cv V M), v, .int .i64 m] w fun e w' => e = .returned (.tuple #[.agg (hv (outH (leftC V M L (bnd m)))), .bool (outB (leftC V M L (bnd m))), .int .i64 (errI (leftC V M L (bnd m)))]) ∧ Below w.heap.size w w' := by
  have hVl := hV.1
  have hMl := hM.1
  have hZl : m0.length = 13 := rfl
  have HS : Hid (Sl w v L) := hs
  have b0 : Below w.heap.size w ((w.alloc (.cells (cv V M) 30)).alloc (.cells zero26 24)) := ((Below.refl _ _).alloc (Nat.le_refl _) _).alloc (by simp) _
  have g0 : ((w.alloc (.cells (cv V M) 30)).alloc (.cells zero26 24)).heap[w.heap.size]? = some (.cells (cv V M) 30 (0, 0)) := heap_past _ _ _ _ (heap_new _ _ _ rfl)
  have g1 : ((w.alloc (.cells (cv V M) 30)).alloc (.cells zero26 24)).heap[w.heap.size + 1]? = some (.cells zero26 24 (0, 0)) := heap_new _ _ _ (by simp)
  have HS1 : Hid (Sl ((w.alloc (.cells (cv V M) 30)).alloc (.cells zero26 24)) v L) := hs.below b0
  cases hR : leftC V M L (bnd m) with
  | none =>
    have C1 : Hid (∀ W, Sl W v L → Calls Try.prog 15 #[.agg (cv V M), v, .int .i64 m] W fun e w' => e = .returned (.tuple #[.slice none 0 0, .int .i64 4]) ∧ Below W.heap.size W w') := fun W h => left_none hV hM hn hR v W h
    clear hV hM hs hR
    go_enter Try.func20, Try.ntmps20
    go_wp2_with (first
      | (refine wl_loadC rfl _ rfl w.heap.size rfl V M g0 hVl hMl ?_))
    refine (C1.out _ HS1.out).mono ?_
    rintro e w1 ⟨rfl, hb1⟩
    have g2 : w1.heap[w.heap.size + 1]? = some (.cells zero26 24 (0, 0)) := by rw [hb1.block _ (by simp)]; exact g1
    have B1 : Below w.heap.size w w1 := b0.trans (hb1.mono b0.size)
    clear hb1 C1 g0 g1 HS1 b0
    go_wp2_with (first
      | (refine wl_store26 rfl _ _ rfl (w.heap.size + 1) m0 rfl rfl _ g2 rfl hZl _ rfl ?_))
    refine retHBE (p := 6) (q := 7) (r := 8) rfl rfl (w.heap.size + 1) rfl m0 hZl (setRow_heap _ _ _ _ _ _ g2) _ _ rfl rfl ⟨rfl, below_setRow B1 (by omega) _⟩
  | some R =>
    cases R with
    | nil =>
      have C1 : Hid (∀ W, Sl W v L → Calls Try.prog 15 #[.agg (cv V M), v, .int .i64 m] W fun e w' => ∃ u, e = .returned (.tuple #[u, .int .i64 0]) ∧ Sl w' u [] ∧ ([] : List (List Int × List Int)).length ≤ 1000 ∧ Below W.heap.size W w') := fun W h => left_some hV hM hn hR v W h
      clear hV hM hs hR
      go_enter Try.func20, Try.ntmps20
      go_wp2_with (first
        | (refine wl_loadC rfl _ rfl w.heap.size rfl V M g0 hVl hMl ?_))
      refine (C1.out _ HS1.out).mono ?_
      rintro e w1 ⟨u, rfl, hsl, hrl, hb1⟩
      have g2 : w1.heap[w.heap.size + 1]? = some (.cells zero26 24 (0, 0)) := by rw [hb1.block _ (by simp)]; exact g1
      have B1 : Below w.heap.size w w1 := b0.trans (hb1.mono b0.size)
      obtain ⟨o, cap, rfl, hcp, hcm⟩ := hsl.slice
      clear hb1 C1 g0 g1 HS1 b0
      go_wp2_with (first
        | (refine wl_store26 rfl _ _ rfl (w.heap.size + 1) m0 rfl rfl _ g2 rfl hZl _ rfl ?_))
      refine retHBE (p := 6) (q := 7) (r := 8) rfl rfl (w.heap.size + 1) rfl m0 hZl (setRow_heap _ _ _ _ _ _ g2) _ _ rfl rfl ⟨rfl, below_setRow B1 (by omega) _⟩
    | cons c R =>
      obtain ⟨F, hF⟩ : ∃ F, F = outH (some (c :: R)) := ⟨_, rfl⟩
      have HF : Hid (F = least (can c.1 c.2) R) := hF
      rw [← hF]
      have C1 : Hid (∀ W, Sl W v L → Calls Try.prog 15 #[.agg (cv V M), v, .int .i64 m] W fun e w' => ∃ u, e = .returned (.tuple #[u, .int .i64 0]) ∧ Sl w' u (c :: R) ∧ (c :: R).length ≤ 1000 ∧ Below W.heap.size W w') := fun W h => left_some hV hM hn hR v W h
      clear hV hM hs hR
      go_enter Try.func20, Try.ntmps20
      go_wp2_with (first
        | (refine wl_loadC rfl _ rfl w.heap.size rfl V M g0 hVl hMl ?_))
      refine (C1.out _ HS1.out).mono ?_
      rintro e w1 ⟨u, rfl, hsl, hrl, hb1⟩
      have g2 : w1.heap[w.heap.size + 1]? = some (.cells zero26 24 (0, 0)) := by rw [hb1.block _ (by simp)]; exact g1
      have B1 : Below w.heap.size w w1 := b0.trans (hb1.mono b0.size)
      obtain ⟨o, cap, rfl, hcp, hcm⟩ := hsl.slice
      clear hb1 C1 g0 g1 HS1 b0
      have HSL : Hid (Sl w1 (.slice o (c :: R).length cap) (c :: R)) := hsl
      simp only [List.length_cons] at hrl hcp HSL ⊢
      obtain ⟨r, hr⟩ : ∃ r, r = R.length := ⟨_, rfl⟩
      have HR : Hid (r = R.length) := hr
      rw [← hr] at hrl hcp HSL ⊢
      obtain ⟨g, off, cur, t, fr, U, N, rfl, hg, hc, hCk, hU, hN⟩ := HSL.out.at 0 (by omega)
      have hUl := hU.1
      have hNl := hN.1
      have hKl := (can_byt U N).1
      have hTl := (top_byt U N).1
      have hc' : ∀ j, j < 26 → cur[off + j]? = (cv U N)[j]? := fun j hj => by have := hc j hj; rwa [Nat.zero_mul, Nat.add_zero] at this
      have HC : Hid (∀ j, j < 26 → cur[off + j]? = (cv U N)[j]?) := hc'
      have HF2 : Hid (F = least (can U N) R) := by
        show _ = _
        have : c = (U, N) := by simpa using hCk
        rw [HF.out, this]
      have D1 : Hid (∀ W, Calls Try.prog 35 #[.agg (cv U N)] W fun e w' => e = .returned (.tuple #[.agg (hv (can U N)), .agg (hv (top U N))]) ∧ Below W.heap.size W w') := ends_any U N hU hN
      clear hsl hF hr hc hc' hCk hU hN HF
      go_wp2_with (first
        | (refine wl_loadCat rfl _ rfl g off rfl cur t fr U N hUl hNl hg HC.out ?_))
      refine (D1.out _).mono ?_
      rintro e w2 ⟨rfl, hb2⟩
      have g3 : w2.heap[w.heap.size + 1]? = some (.cells zero26 24 (0, 0)) := by rw [hb2.block _ (Array.getElem?_eq_some_iff.1 g2).1]; exact g2
      have B2 : Below w.heap.size w w2 := B1.trans (hb2.mono B1.size)
      have HS2 : Hid (Sl w2 (.slice (some ⟨g, off, none⟩) (r + 1) cap) (c :: R)) := HSL.out.below hb2
      have B3 := (B2.alloc B2.size (.cells (hv (can U N)) 24)).alloc (by simp; have := B2.size; omega) (.cells (hv (top U N)) 24)
      have HS3 : Hid (Sl ((w2.alloc (.cells (hv (can U N)) 24)).alloc (.cells (hv (top U N)) 24)) (.slice (some ⟨g, off, none⟩) (r + 1) cap) (c :: R)) := HS2.out.below (((Below.refl _ _).alloc (Nat.le_refl _) _).alloc (by simp) _)
      have g4 : ((w2.alloc (.cells (hv (can U N)) 24)).alloc (.cells (hv (top U N)) 24)).heap[w.heap.size + 1]? = some (.cells zero26 24 (0, 0)) := heap_past _ _ _ _ (heap_past _ _ _ _ g3)
      have g5 : ((w2.alloc (.cells (hv (can U N)) 24)).alloc (.cells (hv (top U N)) 24)).heap[w2.heap.size]? = some (.cells (hv (can U N)) 24 (0, 0)) := heap_past _ _ _ _ (heap_new _ _ _ rfl)
      have z2 := (Array.getElem?_eq_some_iff.1 g3).1
      have zg : g < w2.heap.size := Nat.lt_of_lt_of_le (Array.getElem?_eq_some_iff.1 hg).1 hb2.size
      clear hb2 HSL HS2 B1 B2 D1 g2 g3 hg
      by_cases hc1 : cap = 1
      · obtain rfl : r = 0 := by omega
        subst hc1
        have HRN : Hid (R = []) := List.eq_nil_of_length_eq_zero HR.out.symm
        go_wp2_with (first
          | (refine wl_store26 rfl _ _ rfl w2.heap.size (can U N) rfl rfl _ (heap_past _ _ _ _ (heap_new _ _ _ rfl)) rfl hKl _ (setRow_two _ _ _ _ _) ?_)
          | (refine wl_store26 rfl _ _ rfl (w2.heap.size + 1) (top U N) rfl rfl _ (heap_new _ _ _ (by simp)) rfl hTl _ (setRow_new _ _ _ _ _ (by simp)) ?_))
        go_loopw [43] (fun i wr => i = .int .i64 0 ∧ wr = ((w2.alloc (.cells (hv (can U N)) 24)).alloc (.cells (hv (top U N)) 24))) (fun _ _ => 0)
        case atStart => exact ⟨rfl, rfl⟩
        case round =>
          obtain ⟨rfl, rfl⟩ := hrel
          go_wp2_with (first
            | (refine wl_load26 rfl _ rfl w2.heap.size rfl (can U N) g5 hKl ?_)
            | (refine wl_store26 rfl _ _ rfl (w.heap.size + 1) (can U N) rfl rfl _ g4 rfl hKl _ rfl ?_))
          refine retHBE (p := 6) (q := 7) (r := 8) rfl rfl (w.heap.size + 1) rfl (can U N) hKl (setRow_heap _ _ _ _ _ _ g4) _ _ rfl rfl ⟨?_, below_setRow B3 (by omega) _⟩
          rw [HF2.out, HRN.out]; rfl
      · have hc2 : 1 < cap := by omega
        have HKB : Hid (Byt (can U N)) := can_byt U N
        go_wp2_with (first
          | (refine wl_store26 rfl _ _ rfl w2.heap.size (can U N) rfl rfl _ (heap_past _ _ _ _ (heap_new _ _ _ rfl)) rfl hKl _ (setRow_two _ _ _ _ _) ?_)
          | (refine wl_store26 rfl _ _ rfl (w2.heap.size + 1) (top U N) rfl rfl _ (heap_new _ _ _ (by simp)) rfl hTl _ (setRow_new _ _ _ _ _ (by simp)) ?_))
        go_loopw [43] (fun i wr => ∃ k : Nat, k ≤ r ∧ i = .int .i64 k ∧ ∃ B, Byt B ∧ least B (R.drop k) = F ∧ wr.heap[w2.heap.size]? = some (.cells (hv B) 24 (0, 0)) ∧ wr.heap[w.heap.size + 1]? = some (.cells zero26 24 (0, 0)) ∧ Sl wr (.slice (some ⟨g, off, none⟩) (r + 1) cap) (c :: R) ∧ Below w.heap.size w wr) (fun i _ => r - (intOf i).toNat)
        case atStart => exact ⟨0, Nat.zero_le _, rfl, _, HKB.out, HF2.out.symm, g5, g4, HS3.out, B3⟩
        case round =>
          clear g4 g5 HS3 B3 HKB
          obtain ⟨k, hk, rfl, B, hB, hF, p5, p4, hsl, hb⟩ := hrel
          have hBl := hB.1
          have HB : Hid (Byt B) := hB
          have HF : Hid (least B (R.drop k) = F) := hF
          have HSL : Hid (Sl wr (.slice (some ⟨g, off, none⟩) (r + 1) cap) (c :: R)) := hsl
          clear hB hF hsl
          by_cases hlt : k < r
          · obtain ⟨g2, off2, cur2, t2, fr2, U2, N2, ho2, hg2, hcc2, hC2, hU2, hN2⟩ := HSL.out.at (k + 1) (by omega)
            simp only [Option.some.injEq, Addr.mk.injEq, and_true] at ho2
            obtain ⟨rfl, rfl⟩ := ho2
            have hUl2 := hU2.1
            have hNl2 := hN2.1
            have hKl2 := (can_byt U2 N2).1
            have hTl2 := (top_byt U2 N2).1
            have hR2 : R[k]? = some (U2, N2) := by simpa using hC2
            have HE : Hid (∀ j, j < 26 → cur2[off + 26 + k * 26 + j]? = (cv U2 N2)[j]?) := fun j hj => by
              have := hcc2 j hj
              rwa [show off + (k + 1) * 26 + j = off + 26 + k * 26 + j by omega] at this
            have D1 : Hid (∀ W, Calls Try.prog 35 #[.agg (cv U2 N2)] W fun e w' => e = .returned (.tuple #[.agg (hv (can U2 N2)), .agg (hv (top U2 N2))]) ∧ Below W.heap.size W w') := ends_any U2 N2 hU2 hN2
            have D2 : Hid (∀ W, Calls Try.prog 36 #[.agg (hv (can U2 N2)), .agg (hv B)] W fun e w' => e = .returned (.bool (lessL (can U2 N2) B)) ∧ Below W.heap.size W w') := less_any _ _ (can_byt _ _) HB.out
            have HST : Hid (least B (R.drop k) = least (if lessL (can U2 N2) B = true then can U2 N2 else B) (R.drop (k + 1))) := least_cons hR2
            have HCB : Hid (Byt (can U2 N2)) := can_byt _ _
            obtain ⟨K2, hK2⟩ : ∃ K, K = can U2 N2 := ⟨_, rfl⟩
            obtain ⟨T2, hT2⟩ : ∃ T, T = top U2 N2 := ⟨_, rfl⟩
            rw [← hK2] at hKl2 D1 D2 HST HCB
            rw [← hT2] at hTl2 D1
            obtain ⟨x, hx⟩ : ∃ x, x = lessL K2 B := ⟨_, rfl⟩
            rw [← hx] at D2 HST
            have B2 := hb.alloc hb.size (.cells (cv U2 N2) 30)
            have q5 := heap_past wr (.cells (cv U2 N2) 30) _ _ p5
            have q4 := heap_past wr (.cells (cv U2 N2) 30) _ _ p4
            have q1 := heap_new wr (.cells (cv U2 N2) 30) _ rfl
            have HS4 : Hid (Sl (wr.alloc (.cells (cv U2 N2) 30)) (.slice (some ⟨g, off, none⟩) (r + 1) cap) (c :: R)) := HSL.out.below ((Below.refl _ _).alloc (Nat.le_refl _) _)
            clear hcc2 hC2 hU2 hN2 hR2 hK2 hT2 hx HSL
            go_wp2_with (first
              | (refine wl_loadCat rfl _ rfl g (off + 26 + k * 26) rfl cur2 t2 fr2 U2 N2 hUl2 hNl2 hg2 HE.out ?_)
              | (refine wl_storeC rfl _ _ rfl wr.heap.size U2 N2 rfl rfl _ (heap_new _ _ _ rfl) rfl hUl2 hNl2 _ (setRow_new _ _ _ _ _ rfl) ?_)
              | (refine wl_loadC rfl _ rfl wr.heap.size rfl U2 N2 q1 hUl2 hNl2 ?_))
            refine (D1.out _).mono ?_
            rintro e w5 ⟨rfl, hb5⟩
            have zr := (Array.getElem?_eq_some_iff.1 p5).1
            have zs := (Array.getElem?_eq_some_iff.1 p4).1
            have s5 : w5.heap[w2.heap.size]? = some (.cells (hv B) 24 (0, 0)) := by rw [hb5.block _ (by simp; omega)]; exact q5
            have s4 : w5.heap[w.heap.size + 1]? = some (.cells zero26 24 (0, 0)) := by rw [hb5.block _ (by simp; omega)]; exact q4
            have B5 := B2.trans (hb5.mono B2.size)
            have HS5 : Hid (Sl w5 (.slice (some ⟨g, off, none⟩) (r + 1) cap) (c :: R)) := HS4.out.below hb5
            have z5 := (Array.getElem?_eq_some_iff.1 s5).1
            have BY : Below w5.heap.size w5 ((w5.alloc (.cells (hv K2) 24)).alloc (.cells (hv T2) 24)) := ((Below.refl _ _).alloc (Nat.le_refl _) _).alloc (by simp) _
            have B6 := B5.trans (BY.mono B5.size)
            have r5 : ((w5.alloc (.cells (hv K2) 24)).alloc (.cells (hv T2) 24)).heap[w2.heap.size]? = some (.cells (hv B) 24 (0, 0)) := heap_past _ _ _ _ (heap_past _ _ _ _ s5)
            have r4 : ((w5.alloc (.cells (hv K2) 24)).alloc (.cells (hv T2) 24)).heap[w.heap.size + 1]? = some (.cells zero26 24 (0, 0)) := heap_past _ _ _ _ (heap_past _ _ _ _ s4)
            have r1 : ((w5.alloc (.cells (hv K2) 24)).alloc (.cells (hv T2) 24)).heap[w5.heap.size]? = some (.cells (hv K2) 24 (0, 0)) := heap_past _ _ _ _ (heap_new _ _ _ rfl)
            have HS6 : Hid (Sl ((w5.alloc (.cells (hv K2) 24)).alloc (.cells (hv T2) 24)) (.slice (some ⟨g, off, none⟩) (r + 1) cap) (c :: R)) := HS5.out.below BY
            clear hb5 D1 HS4 HS5 B2 B5 BY q1 q4 q5 s4 s5 p4 p5 hg2 hb
            go_wp2_with (first
              | (refine wl_store26 rfl _ _ rfl w5.heap.size K2 rfl rfl _ (heap_past _ _ _ _ (heap_new _ _ _ rfl)) rfl hKl2 _ (setRow_two _ _ _ _ _) ?_)
              | (refine wl_store26 rfl _ _ rfl (w5.heap.size + 1) T2 rfl rfl _ (heap_new _ _ _ (by simp)) rfl hTl2 _ (setRow_new _ _ _ _ _ (by simp)) ?_)
              | (refine wl_load26 rfl _ rfl w5.heap.size rfl K2 r1 hKl2 ?_)
              | (refine wl_load26 rfl _ rfl w2.heap.size rfl B r5 hBl ?_))
            refine (D2.out _).mono ?_
            rintro e w6 ⟨rfl, hb6⟩
            have t5 : w6.heap[w2.heap.size]? = some (.cells (hv B) 24 (0, 0)) := by rw [hb6.block _ (by simp; omega)]; exact r5
            have t4 : w6.heap[w.heap.size + 1]? = some (.cells zero26 24 (0, 0)) := by rw [hb6.block _ (by simp; omega)]; exact r4
            have t1 : w6.heap[w5.heap.size]? = some (.cells (hv K2) 24 (0, 0)) := by rw [hb6.block _ (by simp; omega)]; exact r1
            have B7 := B6.trans (hb6.mono B6.size)
            have HS7 : Hid (Sl w6 (.slice (some ⟨g, off, none⟩) (r + 1) cap) (c :: R)) := HS6.out.below hb6
            clear hb6 D2 HS6 B6 r1 r4 r5
            cases x
            · go_wp2_with fail
              go_roundw
              case rel =>
                refine ⟨k + 1, by omega, by go_num, B, HB.out, ?_, t5, t4, HS7.out, B7⟩
                have := HF.out
                rw [HST.out] at this
                simpa using this
              case measure => simp [intOf]; omega
            · go_wp2_with (first
                | (refine wl_load26 rfl _ rfl w5.heap.size rfl K2 t1 hKl2 ?_)
                | (refine wl_store26 rfl _ _ rfl w2.heap.size K2 rfl rfl _ t5 (by rw [hv_size, hBl]) hKl2 _ rfl ?_))
              go_roundw
              case rel =>
                refine ⟨k + 1, by omega, by go_num, K2, HCB.out, ?_, setRow_heap _ _ _ _ _ _ t5, (setRow_other _ _ _ _ (by omega)).trans t4, HS7.out.setRow _ (by simp [Value.ownBlock]; omega) _, below_setRow B7 (by omega) _⟩
                have := HF.out
                rw [HST.out] at this
                simpa using this
              case measure => simp [intOf]; omega
          · obtain rfl : k = r := by omega
            have HFE : Hid (F = B) := by
              have := HF.out
              rw [HR.out, List.drop_length] at this
              exact this.symm
            go_wp2_with (first
              | (refine wl_load26 rfl _ rfl w2.heap.size rfl B p5 hBl ?_)
              | (refine wl_store26 rfl _ _ rfl (w.heap.size + 1) B rfl rfl _ p4 rfl hBl _ rfl ?_))
            refine retHBE (p := 6) (q := 7) (r := 8) rfl rfl (w.heap.size + 1) rfl B hBl (setRow_heap _ _ _ _ _ _ p4) _ _ rfl rfl ⟨?_, below_setRow hb (by omega) _⟩
            rw [HFE.out]; rfl
end Go.Proofs.Ytjlghkiplapodaa
namespace Go.Proofs.Ytjlghkiplapodaa
open Go Go.RowKit

theorem rleft_uni {V M : List Int} (hV : Byt V) (hM : Byt M) {L : List (List Int × List Int)} (hn : L.length ≤ 1000000) {m : Int} (v : Value) (w : World) (hs : Sl w v L) :
    Calls Try.prog 16 #[.agg (cv V M), v, .int .i64 m] w fun e w' => ∃ u, e = .returned (.tuple #[u, .int .i64 (errI (leftC V M L (bnd m)))]) ∧ Sl w' u ((leftC V M L (bnd m)).getD []) ∧ ((leftC V M L (bnd m)).getD []).length ≤ 1000 ∧ Below w.heap.size w w' := by
  refine (rleft_any V M hV hM L hn m v w hs).mono ?_
  rintro e w' ⟨⟨R', u, h1, h2, h3, h4⟩ | ⟨h1, h2⟩, hb⟩
  · rw [h1]; exact ⟨u, h3, h4, h2, hb⟩
  · rw [h1]; exact ⟨_, h2, sl_none _, by simp, hb⟩
theorem ret_out {A A' : List Int} {a b : Bool} {x : Int} (h : A = A') (h1 : a = b) : Ending.returned (.tuple #[.agg (hv A), .bool a, .int .i64 x]) = .returned (.tuple #[.agg (hv A'), .bool b, .int .i64 x]) := by rw [h, h1]
theorem outB_len (R : Option (List (List Int × List Int))) : outB R = decide (((0 : Int)) < ((R.getD []).length : Nat)) := by
  match R with
  | none => rfl
  | some [] => rfl
  | some (c :: C) => simp [outB]
theorem outH_nil (R : Option (List (List Int × List Int))) (h : (R.getD []).length = 0) : outH R = m0 := by
  match R, h with
  | none, _ => rfl
  | some [], _ => rfl
  | some (c :: C), h => simp at h
theorem outH_first (R : Option (List (List Int × List Int))) (U N : List Int) (h : (R.getD [])[0]? = some (U, N)) : least (can U N) ((R.getD []).drop 1) = outH R := by
  match R, h with
  | some (c :: C), h =>
    have : c = (U, N) := by simpa using h
    rw [this]; rfl

set_option maxHeartbeats 4000000 in
theorem rout_any (V M : List Int) (hV : Byt V) (hM : Byt M) (L : List (List Int × List Int)) (hn : L.length ≤ 1000000) (m : Int) (v : Value) (w : World) (hs : Sl w v L) :
    Calls Try.prog 21 #[.agg (cv V M), v, .int .i64 m] w fun e w' => e = .returned (.tuple #[.agg (hv (outH (leftC V M L (bnd m)))), .bool (outB (leftC V M L (bnd m))), .int .i64 (errI (leftC V M L (bnd m)))]) ∧ Below w.heap.size w w' := by
  have hVl := hV.1
  have hMl := hM.1
  have hZl : m0.length = 13 := rfl
  have HS : Hid (Sl w v L) := hs
  have b0 : Below w.heap.size w ((w.alloc (.cells (cv V M) 30)).alloc (.cells zero26 24)) := ((Below.refl _ _).alloc (Nat.le_refl _) _).alloc (by simp) _
  have g0 : ((w.alloc (.cells (cv V M) 30)).alloc (.cells zero26 24)).heap[w.heap.size]? = some (.cells (cv V M) 30 (0, 0)) := heap_past _ _ _ _ (heap_new _ _ _ rfl)
  have g1 : ((w.alloc (.cells (cv V M) 30)).alloc (.cells zero26 24)).heap[w.heap.size + 1]? = some (.cells zero26 24 (0, 0)) := heap_new _ _ _ (by simp)
  have HS1 : Hid (Sl ((w.alloc (.cells (cv V M) 30)).alloc (.cells zero26 24)) v L) := hs.below b0
  obtain ⟨RR, hRR⟩ : ∃ RR, RR = leftC V M L (bnd m) := ⟨_, rfl⟩
  have C1 : Hid (∀ W, Sl W v L → Calls Try.prog 16 #[.agg (cv V M), v, .int .i64 m] W fun e w' => ∃ u, e = .returned (.tuple #[u, .int .i64 (errI RR)]) ∧ Sl w' u (RR.getD []) ∧ (RR.getD []).length ≤ 1000 ∧ Below W.heap.size W w') := by rw [hRR]; exact fun W h => rleft_uni hV hM hn v W h
  rw [← hRR, outB_len]
  obtain ⟨F, hF⟩ : ∃ F, F = outH RR := ⟨_, rfl⟩
  obtain ⟨y, hy⟩ : ∃ y, y = errI RR := ⟨_, rfl⟩
  obtain ⟨R, hR⟩ : ∃ R, R = RR.getD [] := ⟨_, rfl⟩
  have HF0 : Hid (R.length = 0 → F = m0) := fun h => by rw [hF]; exact outH_nil RR (by rw [← hR]; exact h)
  have HF1 : Hid (∀ U N, R[0]? = some (U, N) → least (can U N) (R.drop 1) = F) := fun U N h => by rw [hF, hR]; exact outH_first RR U N (by rw [← hR]; exact h)
  rw [← hF, ← hy, ← hR]
  rw [← hy, ← hR] at C1
  clear hV hM hs hRR hF hy hR
  go_enter Try.func21, Try.ntmps21
  go_wp2_with (first
    | (refine wl_loadC rfl _ rfl w.heap.size rfl V M g0 hVl hMl ?_))
  refine (C1.out _ HS1.out).mono ?_
  rintro e w1 ⟨u, rfl, hsl, hrl, hb1⟩
  have g2 : w1.heap[w.heap.size + 1]? = some (.cells zero26 24 (0, 0)) := by rw [hb1.block _ (by simp)]; exact g1
  have B1 : Below w.heap.size w w1 := b0.trans (hb1.mono b0.size)
  obtain ⟨o, cap, rfl, hcp, hcm⟩ := hsl.slice
  obtain ⟨n, hne⟩ : ∃ n, n = R.length := ⟨_, rfl⟩
  have HN : Hid (n = R.length) := hne
  have HSL : Hid (Sl (w1.alloc (.cells (hv m0) 24)) (.slice o R.length cap) R) := hsl.below ((Below.refl _ _).alloc (Nat.le_refl _) _)
  have z1 := (Array.getElem?_eq_some_iff.1 g2).1
  have HNE0 : Hid (∀ q, o = some q → q.block ≠ w1.heap.size ∨ R.length = 0) := fun q hq => by
    rcases Nat.eq_zero_or_pos R.length with h | h
    · exact .inr h
    · obtain ⟨g, off, cur, t, fr, U, N, he, hg, _⟩ := hsl.at 0 h
      rw [hq] at he
      obtain rfl := Option.some.inj he
      exact .inl (Nat.ne_of_lt (Array.getElem?_eq_some_iff.1 hg).1)
  have B2 := B1.alloc B1.size (.cells (hv m0) 24)
  have g3 := heap_past w1 (.cells (hv m0) 24) _ _ g2
  have g4 := heap_new w1 (.cells (hv m0) 24) _ rfl
  rw [← hne] at hrl HSL HNE0 ⊢
  clear hb1 C1 g0 g1 g2 HS1 b0 B1 hsl hne
  go_wp2_with (first
    | (refine wl_store26 rfl _ _ rfl w1.heap.size m0 rfl rfl _ (heap_new _ _ _ rfl) rfl hZl _ (setRow_new _ _ _ _ _ rfl) ?_))
  go_loopw [12] (fun i wr => ∃ k : Nat, k ≤ n ∧ i = .int .i64 k ∧ ∃ B, Byt B ∧ (k = 0 → B = m0) ∧ (0 < k → least B (R.drop k) = F) ∧ wr.heap[w1.heap.size]? = some (.cells (hv B) 24 (0, 0)) ∧ wr.heap[w.heap.size + 1]? = some (.cells zero26 24 (0, 0)) ∧ (∀ q, o = some q → q.block ≠ w1.heap.size ∨ n = 0) ∧ Sl wr (.slice o n cap) R ∧ Below w.heap.size w wr) (fun i _ => n - (intOf i).toNat)
  case atStart => exact ⟨0, Nat.zero_le _, rfl, m0, byt_of _ rfl (by decide), fun _ => rfl, fun h => absurd h (by decide), g4, g3, HNE0.out, HSL.out, B2⟩
  case round =>
    clear g3 g4 B2 HSL HNE0
    obtain ⟨k, hk, rfl, B, hB, hB0, hBk, p5, p4, hne, hsl, hb⟩ := hrel
    have hBl := hB.1
    have HB : Hid (Byt B) := hB
    have HB0 : Hid (k = 0 → B = m0) := hB0
    have HBK : Hid (0 < k → least B (R.drop k) = F) := hBk
    have HSL : Hid (Sl wr (.slice o n cap) R) := hsl
    have HNE : Hid (∀ q, o = some q → q.block ≠ w1.heap.size ∨ n = 0) := hne
    clear hB hB0 hBk hsl hne
    by_cases hlt : k < n
    · obtain ⟨g, off, cur, t, fr, U, N, rfl, hg, hcc, hC, hU, hN⟩ := HSL.out.at k hlt
      have hUl := hU.1
      have hNl := hN.1
      have hKl := (can_byt U N).1
      have hTl := (top_byt U N).1
      have HE : Hid (∀ j, j < 26 → cur[off + k * 26 + j]? = (cv U N)[j]?) := hcc
      have D1 : Hid (∀ W, Calls Try.prog 37 #[.agg (cv U N)] W fun e w' => e = .returned (.tuple #[.agg (hv (can U N)), .agg (hv (top U N))]) ∧ Below W.heap.size W w') := rends_any U N hU hN
      have D2 : Hid (∀ W, Calls Try.prog 38 #[.agg (hv (can U N)), .agg (hv B)] W fun e w' => e = .returned (.bool (lessL (can U N) B)) ∧ Below W.heap.size W w') := refLess_any _ _ (can_byt _ _) HB.out
      have HST : Hid (least B (R.drop k) = least (if lessL (can U N) B = true then can U N else B) (R.drop (k + 1))) := least_cons hC
      have HCB : Hid (Byt (can U N)) := can_byt _ _
      have HFF : Hid (k = 0 → least (can U N) (R.drop (k + 1)) = F) := fun h => by rw [h]; exact HF1.out U N (by rw [← h]; exact hC)
      obtain ⟨K2, hK2⟩ : ∃ K, K = can U N := ⟨_, rfl⟩
      obtain ⟨T2, hT2⟩ : ∃ T, T = top U N := ⟨_, rfl⟩
      rw [← hK2] at hKl D1 D2 HST HCB HFF
      rw [← hT2] at hTl D1
      obtain ⟨x, hx⟩ : ∃ x, x = lessL K2 B := ⟨_, rfl⟩
      rw [← hx] at D2 HST
      have hgne : g ≠ w1.heap.size := by rcases HNE.out _ rfl with h | h; exact h; omega
      clear hcc hC hU hN hK2 hT2 hx
      go_wp2_with (first
        | (refine wl_loadCat rfl _ rfl g (off + k * 26) rfl cur t fr U N hUl hNl hg HE.out ?_))
      refine (D1.out _).mono ?_
      rintro e w5 ⟨rfl, hb5⟩
      have zr := (Array.getElem?_eq_some_iff.1 p5).1
      have zs := (Array.getElem?_eq_some_iff.1 p4).1
      have s5 : w5.heap[w1.heap.size]? = some (.cells (hv B) 24 (0, 0)) := by rw [hb5.block _ (by omega)]; exact p5
      have s4 : w5.heap[w.heap.size + 1]? = some (.cells zero26 24 (0, 0)) := by rw [hb5.block _ (by omega)]; exact p4
      have B5 := hb.trans (hb5.mono hb.size)
      have HS5 : Hid (Sl w5 (.slice (some ⟨g, off, none⟩) n cap) R) := HSL.out.below hb5
      have z5 := (Array.getElem?_eq_some_iff.1 s5).1
      have BY : Below w5.heap.size w5 ((w5.alloc (.cells (hv K2) 24)).alloc (.cells (hv T2) 24)) := ((Below.refl _ _).alloc (Nat.le_refl _) _).alloc (by simp) _
      have B6 := B5.trans (BY.mono B5.size)
      have r5 : ((w5.alloc (.cells (hv K2) 24)).alloc (.cells (hv T2) 24)).heap[w1.heap.size]? = some (.cells (hv B) 24 (0, 0)) := heap_past _ _ _ _ (heap_past _ _ _ _ s5)
      have r4 : ((w5.alloc (.cells (hv K2) 24)).alloc (.cells (hv T2) 24)).heap[w.heap.size + 1]? = some (.cells zero26 24 (0, 0)) := heap_past _ _ _ _ (heap_past _ _ _ _ s4)
      have r1 : ((w5.alloc (.cells (hv K2) 24)).alloc (.cells (hv T2) 24)).heap[w5.heap.size]? = some (.cells (hv K2) 24 (0, 0)) := heap_past _ _ _ _ (heap_new _ _ _ rfl)
      have HS6 : Hid (Sl ((w5.alloc (.cells (hv K2) 24)).alloc (.cells (hv T2) 24)) (.slice (some ⟨g, off, none⟩) n cap) R) := HS5.out.below BY
      clear hb5 D1 HS5 B5 BY s4 s5 p4 p5 hg hb HSL
      by_cases hk0 : k = 0
      · subst hk0
        go_wp2_with (first
          | (refine wl_store26 rfl _ _ rfl w5.heap.size K2 rfl rfl _ (heap_past _ _ _ _ (heap_new _ _ _ rfl)) rfl hKl _ (setRow_two _ _ _ _ _) ?_)
          | (refine wl_store26 rfl _ _ rfl (w5.heap.size + 1) T2 rfl rfl _ (heap_new _ _ _ (by simp)) rfl hTl _ (setRow_new _ _ _ _ _ (by simp)) ?_)
          | (refine wl_load26 rfl _ rfl w5.heap.size rfl K2 r1 hKl ?_)
          | (refine wl_store26 rfl _ _ rfl w1.heap.size K2 rfl rfl _ r5 (by rw [hv_size, hBl]) hKl _ rfl ?_))
        go_roundw
        case rel => exact ⟨1, by omega, rfl, K2, HCB.out, fun h => absurd h (by decide), fun _ => (by have := HFF.out; simpa using this), setRow_heap _ _ _ _ _ _ r5, (setRow_other _ _ _ _ (by omega)).trans r4, HNE.out, HS6.out.setRow _ (by simpa [Value.ownBlock] using hgne) _, below_setRow B6 (by omega) _⟩
        case measure => simp [intOf]; omega
      · have hk1 : 0 < k := by omega
        have hk2 : ((k : Int) == 0) = false := by simp; omega
        go_wp2_with (first
          | (refine wl_store26 rfl _ _ rfl w5.heap.size K2 rfl rfl _ (heap_past _ _ _ _ (heap_new _ _ _ rfl)) rfl hKl _ (setRow_two _ _ _ _ _) ?_)
          | (refine wl_store26 rfl _ _ rfl (w5.heap.size + 1) T2 rfl rfl _ (heap_new _ _ _ (by simp)) rfl hTl _ (setRow_new _ _ _ _ _ (by simp)) ?_)
          | (refine wl_loadHg rfl _ rfl w5.heap.size rfl K2 r1 hKl ?_)
          | (refine wl_loadHg rfl _ rfl w1.heap.size rfl B r5 hBl ?_))
        refine (D2.out _).mono ?_
        rintro e w6 ⟨rfl, hb6⟩
        have t5 : w6.heap[w1.heap.size]? = some (.cells (hv B) 24 (0, 0)) := by rw [hb6.block _ (by simp; omega)]; exact r5
        have t4 : w6.heap[w.heap.size + 1]? = some (.cells zero26 24 (0, 0)) := by rw [hb6.block _ (by simp; omega)]; exact r4
        have t1 : w6.heap[w5.heap.size]? = some (.cells (hv K2) 24 (0, 0)) := by rw [hb6.block _ (by simp; omega)]; exact r1
        have B7 := B6.trans (hb6.mono B6.size)
        have HS7 : Hid (Sl w6 (.slice (some ⟨g, off, none⟩) n cap) R) := HS6.out.below hb6
        clear hb6 D2 HS6 B6 r1 r4 r5
        cases x
        · go_wp2_with fail
          go_roundw
          case rel =>
            refine ⟨k + 1, by omega, by go_num, B, HB.out, fun h => absurd h (by omega), fun _ => ?_, t5, t4, HNE.out, HS7.out, B7⟩
            have := HBK.out hk1
            rw [HST.out] at this
            simpa using this
          case measure => simp [intOf]; omega
        · go_wp2_with (first
            | (refine wl_load26 rfl _ rfl w5.heap.size rfl K2 t1 hKl ?_)
            | (refine wl_store26 rfl _ _ rfl w1.heap.size K2 rfl rfl _ t5 (by rw [hv_size, hBl]) hKl _ rfl ?_))
          go_roundw
          case rel =>
            refine ⟨k + 1, by omega, by go_num, K2, HCB.out, fun h => absurd h (by omega), fun _ => ?_, setRow_heap _ _ _ _ _ _ t5, (setRow_other _ _ _ _ (by omega)).trans t4, HNE.out, HS7.out.setRow _ (by simpa [Value.ownBlock] using hgne) _, below_setRow B7 (by omega) _⟩
            have := HBK.out hk1
            rw [HST.out] at this
            simpa using this
          case measure => simp [intOf]; omega
    · obtain rfl : k = n := by omega
      have HFE : Hid (F = B) := by
        show F = B
        rcases Nat.eq_zero_or_pos k with h | h
        · rw [HF0.out (by rw [← HN.out]; exact h), HB0.out h]
        · have := HBK.out h
          rw [HN.out, List.drop_length] at this
          exact this.symm
      go_wp2_with (first
        | (refine wl_load26 rfl _ rfl w1.heap.size rfl B p5 hBl ?_)
        | (refine wl_store26 rfl _ _ rfl (w.heap.size + 1) B rfl rfl _ p4 rfl hBl _ rfl ?_))
      refine retHBE (p := 6) (q := 7) (r := 8) rfl rfl (w.heap.size + 1) rfl B hBl (setRow_heap _ _ _ _ _ _ p4) _ _ rfl rfl ⟨?_, below_setRow hb (by omega) _⟩
      exact ret_out HFE.out.symm (by rw [HN.out]; simp)
end Go.Proofs.Ytjlghkiplapodaa
