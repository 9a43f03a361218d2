import Derived.Test.YthddlchkbnmcaaaGreatDoorJ30
import Derived.Test.YthddlchkbnmcaaaGreatDoorJ28
import Derived.Test.YthddlchkbnmcaaaGreatDoorJ26
namespace Go.Proofs.YthddlchkbnmcaaaGreatDoor
open Go Go.RowKit
set_option maxRecDepth 20000

/-- The cubes of some pieces. -/
def portC (f : Int) (P : List (Nat × Nat)) : List (List Int × List Int) := P.map fun p => (pxV f p.1 p.2, pxM f p.2)
theorem portC_take {f : Int} {P : List (Nat × Nat)} {p : Nat × Nat} {k : Nat} (hk : P[k]? = some p) : portC f (P.take (k + 1)) = portC f (P.take k) ++ [(pxV f p.1 p.2, pxM f p.2)] := by
  unfold portC
  rw [List.take_add_one, hk]
  simp
theorem byts_portC (f : Int) (P : List (Nat × Nat)) : Byts (portC f P) := fun c hc => by
  unfold portC at hc
  rw [List.mem_map] at hc
  obtain ⟨p, _, rfl⟩ := hc
  exact ⟨pxV_byt _ _ _, pxM_byt _ _⟩
theorem portC_len (f : Int) (P : List (Nat × Nat)) : (portC f P).length = P.length := by simp [portC]

set_option maxHeartbeats 2000000 in
theorem ports_ok (f l h : Int) (hf : f = 2 ∨ f = 3) (hr : isR l h = true) (w : World) (hP : Places w) :
    Calls Tryz.prog 29 #[.int .i64 f, .int .i64 l, .int .i64 h] w fun e w' => ∃ u, e = .returned (.tuple #[u, .int .i64 0]) ∧ w'.ownsRow w.heap.size 37 26 u (portC f (ran l h)).length (ccells (portC f (ran l h))) ∧ Below w.heap.size w w' := by
  have hs := size_23 f hf
  have R1 : Hid (∀ W, Calls Tryz.prog 52 #[.int .i64 l, .int .i64 h] W fun e w' => ∃ u, e = .returned (.tuple #[u, .int .i64 0]) ∧ w'.ownsRow W.heap.size 102 2 u (ran l h).length (pcells (ran l h)) ∧ Below W.heap.size W w') := fun W => by
    have := range_any l h W
    rwa [show ranE l h = 0 by rw [ranE, if_pos hr]] at this
  have HM : Hid (∀ (k : Nat) (p : Nat × Nat), (ran l h)[k]? = some p → p.2 ≤ 16 ∧ p.1 ≤ 65535) := fun k p => ran_mem
  have BG : Hid (∀ a b : Nat, a ≤ 65535 → b ≤ 16 → ∀ W, Places W → Calls Tryz.prog 53 #[.int .i64 f, .int .u32 (a : Int), .int .i64 (b : Int)] W fun e w' => e = .returned (.agg (cv (pxV f a b) (pxM f b))) ∧ Below W.heap.size W w') := fun a b ha hb W hW => begins_at f a b W (by omega) (by omega) (by rw [hs]; exact Nat.lt_of_le_of_lt ha (by decide)) (by omega) hW
  have hfew := ran_few l h
  have HP : Hid (Places w) := hP
  have hpos := hP.pos
  obtain ⟨P, hPp⟩ : ∃ P, P = ran l h := ⟨_, rfl⟩
  rw [← hPp] at R1 HM hfew ⊢
  obtain ⟨n, hn⟩ : ∃ n, n = P.length := ⟨_, rfl⟩
  have HN : Hid (n = P.length) := hn
  clear hPp hs hP hr
  rcases hf with rfl | rfl
  · go_enter Tryz.func29, Tryz.ntmps29
    go_wp2_with fail
    refine (R1.out _).mono ?_
    rintro e w3 ⟨u, rfl, ho3, hb3⟩
    have S3 := sp_of ho3
    obtain ⟨o, cap, rfl, _, hcap⟩ := S3.slice
    rw [← hn] at S3 hfew ⊢
    have HS3 : Hid (Sp w3 (.slice o n cap) P) := S3
    clear S3 ho3 hn
    go_wp2_with fail
    go_loopw [10, 30] (fun out i wr => ∃ k : Nat, k ≤ n ∧ i = .int .i64 (k : Int) ∧ ∃ D, D = portC 2 (P.take k) ∧ D.length ≤ k ∧ wr.ownsRow w3.heap.size 37 26 out D.length (ccells D) ∧ Below w3.heap.size w3 wr) (fun _ i _ => n - (intOf i).toNat)
    case atStart => exact ⟨0, Nat.zero_le _, rfl, [], rfl, Nat.le_refl _, World.ownsRow_nil _ _ _ _, Below.refl _ _⟩
    case round =>
      obtain ⟨k, hk, rfl, D, hD, hDl, hown, hb⟩ := hrel
      have HD : Hid (D = portC 2 (P.take k)) := hD
      have OWN : Hid (wr.ownsRow w3.heap.size 37 26 u10 D.length (ccells D)) := hown
      have B1 := hb3.trans (hb.mono hb3.size)
      have hz := B1.size
      clear hD hown
      by_cases hlt : k < n
      · obtain ⟨g, off, cur, t, fr, p, rfl, hg, hc, hpk⟩ := HS3.out.at k hlt
        have hp2 := HM.out k p hpk
        have k1 : wr.heap[g]? = some (.cells cur t fr) := (hb.block g (Array.getElem?_eq_some_iff.1 hg).1).trans hg
        have HT : Hid (portC 2 (P.take (k + 1)) = portC 2 (P.take k) ++ [(pxV 2 p.1 p.2, pxM 2 p.2)]) := portC_take hpk
        obtain ⟨a, b⟩ := p
        simp only at hp2 hc HT
        have H1 : Hid (∀ j, j < 2 → cur[off + k * 2 + j]? = (pv (a : Int) (b : Int))[j]?) := hc
        have B2 := B1.alloc B1.size (.cells (pv (a : Int) (b : Int)) 102)
        have DG : Hid (∀ W, Places W → Calls Tryz.prog 53 #[.int .i64 2, .int .u32 (a : Int), .int .i64 (b : Int)] W fun e w' => e = .returned (.agg (cv (pxV 2 a b) (pxM 2 b))) ∧ Below W.heap.size W w') := BG.out a b hp2.2 hp2.1
        have hVl := (pxV_byt 2 a b).1
        have hMl := (pxM_byt 2 b).1
        obtain ⟨V, hV⟩ : ∃ V, V = pxV 2 a b := ⟨_, rfl⟩
        obtain ⟨M, hM⟩ : ∃ M, M = pxM 2 b := ⟨_, rfl⟩
        rw [← hV] at DG HT hVl
        rw [← hM] at DG HT hMl
        have OWN2 : Hid ((wr.alloc (.cells (pv (a : Int) (b : Int)) 102)).ownsRow w3.heap.size 37 26 u10 D.length (ccells D)) := OWN.out.alloc _
        have HPL : Hid (Places (wr.alloc (.cells (pv (a : Int) (b : Int)) 102))) := HP.out.later hpos B2
        have hb4 := hb.alloc hb.size (.cells (pv (a : Int) (b : Int)) 102)
        obtain ⟨ha1, ha2⟩ := hp2
        clear hg hc hpk hV hM hb OWN
        go_wp2_with (first
          | (refine wl_loadP rfl _ rfl g (off + k * 2) rfl cur t fr (a : Int) (b : Int) k1 H1.out ?_))
        refine (DG.out _ HPL.out).mono ?_
        rintro e w5 ⟨rfl, hb5⟩
        have B5 := B2.trans (hb5.mono B2.size)
        have hb6 := hb4.trans (hb5.mono hb4.size)
        have OWN5 : Hid (w5.ownsRow w3.heap.size 37 26 u10 D.length (ccells D)) := own_below OWN2.out hb5
        have hz5 := B5.size
        have hz6 := hb6.size
        clear hb5 OWN2 B2 hb4 k1 HPL DG
        go_wp2_with (first
          | (refine wl_build1 rfl _ rfl V M hVl hMl rfl ?_)
          | (at_builtin; refine of_stopped ?_))
        unfold Stopped
        have c7 := heap_new w5 (.cells (cv V M) 37) _ rfl
        have B7 := B5.alloc B5.size (.cells (cv V M) 37)
        have hb7 := hb6.alloc hb6.size (.cells (cv V M) 37)
        have OWN7 : Hid ((w5.alloc (.cells (cv V M) 37)).ownsRow w3.heap.size 37 26 u10 D.length (ccells D)) := OWN5.out.alloc _
        refine wl_append1 rfl _ _ rfl w3.heap.size _ D V M hVl hMl rfl OWN7.out _ 1 rfl c7 (by omega) (by simp; omega) ?_
        intro v' w8 hown8 hgr hat
        have hb8 : Below w3.heap.size w3 w8 := hb7.grown hgr (by simp; omega) (fun q hq => (OWN7.out.lt q hq).1)
        have HD8 : Hid (D ++ [(V, M)] = portC 2 (P.take (k + 1))) := by
          show _ = _
          rw [HT.out, HD.out]
        have OWN8 : Hid (w8.ownsRow w3.heap.size 37 26 v' (D ++ [(V, M)]).length (ccells (D ++ [(V, M)]))) := hown8
        have HL8 : Hid ((D ++ [(V, M)]).length ≤ k + 1) := by
          show _ ≤ _
          rw [List.length_append]; simpa using hDl
        simp only [Act.put, List.setIfInBounds_toArray, List.set_cons_succ, List.set_cons_zero]
        clear hown8 hgr hat c7 B7 hb7 OWN7 OWN5
        go_wp2_with fail
        go_roundw
        case rel => exact ⟨k + 1, by omega, by go_num, D ++ [(V, M)], HD8.out, HL8.out, OWN8.out, hb8⟩
        case measure => simp [intOf]; omega
      · obtain rfl : k = n := by omega
        have HE : Hid (D = portC 2 P) := by
          show _ = _
          rw [HD.out, HN.out, List.take_length]
        go_wp2_with fail
        go_ret2
        refine ⟨u10, rfl, ?_, B1⟩
        rw [← HE.out]
        exact own_base OWN.out hb3.size
  · go_enter Tryz.func29, Tryz.ntmps29
    go_wp2_with fail
    refine (R1.out _).mono ?_
    rintro e w3 ⟨u, rfl, ho3, hb3⟩
    have S3 := sp_of ho3
    obtain ⟨o, cap, rfl, _, hcap⟩ := S3.slice
    rw [← hn] at S3 hfew ⊢
    have HS3 : Hid (Sp w3 (.slice o n cap) P) := S3
    clear S3 ho3 hn
    go_wp2_with fail
    go_loopw [10, 30] (fun out i wr => ∃ k : Nat, k ≤ n ∧ i = .int .i64 (k : Int) ∧ ∃ D, D = portC 3 (P.take k) ∧ D.length ≤ k ∧ wr.ownsRow w3.heap.size 37 26 out D.length (ccells D) ∧ Below w3.heap.size w3 wr) (fun _ i _ => n - (intOf i).toNat)
    case atStart => exact ⟨0, Nat.zero_le _, rfl, [], rfl, Nat.le_refl _, World.ownsRow_nil _ _ _ _, Below.refl _ _⟩
    case round =>
      obtain ⟨k, hk, rfl, D, hD, hDl, hown, hb⟩ := hrel
      have HD : Hid (D = portC 3 (P.take k)) := hD
      have OWN : Hid (wr.ownsRow w3.heap.size 37 26 u10 D.length (ccells D)) := hown
      have B1 := hb3.trans (hb.mono hb3.size)
      have hz := B1.size
      clear hD hown
      by_cases hlt : k < n
      · obtain ⟨g, off, cur, t, fr, p, rfl, hg, hc, hpk⟩ := HS3.out.at k hlt
        have hp2 := HM.out k p hpk
        have k1 : wr.heap[g]? = some (.cells cur t fr) := (hb.block g (Array.getElem?_eq_some_iff.1 hg).1).trans hg
        have HT : Hid (portC 3 (P.take (k + 1)) = portC 3 (P.take k) ++ [(pxV 3 p.1 p.2, pxM 3 p.2)]) := portC_take hpk
        obtain ⟨a, b⟩ := p
        simp only at hp2 hc HT
        have H1 : Hid (∀ j, j < 2 → cur[off + k * 2 + j]? = (pv (a : Int) (b : Int))[j]?) := hc
        have B2 := B1.alloc B1.size (.cells (pv (a : Int) (b : Int)) 102)
        have DG : Hid (∀ W, Places W → Calls Tryz.prog 53 #[.int .i64 3, .int .u32 (a : Int), .int .i64 (b : Int)] W fun e w' => e = .returned (.agg (cv (pxV 3 a b) (pxM 3 b))) ∧ Below W.heap.size W w') := BG.out a b hp2.2 hp2.1
        have hVl := (pxV_byt 3 a b).1
        have hMl := (pxM_byt 3 b).1
        obtain ⟨V, hV⟩ : ∃ V, V = pxV 3 a b := ⟨_, rfl⟩
        obtain ⟨M, hM⟩ : ∃ M, M = pxM 3 b := ⟨_, rfl⟩
        rw [← hV] at DG HT hVl
        rw [← hM] at DG HT hMl
        have OWN2 : Hid ((wr.alloc (.cells (pv (a : Int) (b : Int)) 102)).ownsRow w3.heap.size 37 26 u10 D.length (ccells D)) := OWN.out.alloc _
        have HPL : Hid (Places (wr.alloc (.cells (pv (a : Int) (b : Int)) 102))) := HP.out.later hpos B2
        have hb4 := hb.alloc hb.size (.cells (pv (a : Int) (b : Int)) 102)
        obtain ⟨ha1, ha2⟩ := hp2
        clear hg hc hpk hV hM hb OWN
        go_wp2_with (first
          | (refine wl_loadP rfl _ rfl g (off + k * 2) rfl cur t fr (a : Int) (b : Int) k1 H1.out ?_))
        refine (DG.out _ HPL.out).mono ?_
        rintro e w5 ⟨rfl, hb5⟩
        have B5 := B2.trans (hb5.mono B2.size)
        have hb6 := hb4.trans (hb5.mono hb4.size)
        have OWN5 : Hid (w5.ownsRow w3.heap.size 37 26 u10 D.length (ccells D)) := own_below OWN2.out hb5
        have hz5 := B5.size
        have hz6 := hb6.size
        clear hb5 OWN2 B2 hb4 k1 HPL DG
        go_wp2_with (first
          | (refine wl_build1 rfl _ rfl V M hVl hMl rfl ?_)
          | (at_builtin; refine of_stopped ?_))
        unfold Stopped
        have c7 := heap_new w5 (.cells (cv V M) 37) _ rfl
        have B7 := B5.alloc B5.size (.cells (cv V M) 37)
        have hb7 := hb6.alloc hb6.size (.cells (cv V M) 37)
        have OWN7 : Hid ((w5.alloc (.cells (cv V M) 37)).ownsRow w3.heap.size 37 26 u10 D.length (ccells D)) := OWN5.out.alloc _
        refine wl_append1 rfl _ _ rfl w3.heap.size _ D V M hVl hMl rfl OWN7.out _ 1 rfl c7 (by omega) (by simp; omega) ?_
        intro v' w8 hown8 hgr hat
        have hb8 : Below w3.heap.size w3 w8 := hb7.grown hgr (by simp; omega) (fun q hq => (OWN7.out.lt q hq).1)
        have HD8 : Hid (D ++ [(V, M)] = portC 3 (P.take (k + 1))) := by
          show _ = _
          rw [HT.out, HD.out]
        have OWN8 : Hid (w8.ownsRow w3.heap.size 37 26 v' (D ++ [(V, M)]).length (ccells (D ++ [(V, M)]))) := hown8
        have HL8 : Hid ((D ++ [(V, M)]).length ≤ k + 1) := by
          show _ ≤ _
          rw [List.length_append]; simpa using hDl
        simp only [Act.put, List.setIfInBounds_toArray, List.set_cons_succ, List.set_cons_zero]
        clear hown8 hgr hat c7 B7 hb7 OWN7 OWN5
        go_wp2_with fail
        go_roundw
        case rel => exact ⟨k + 1, by omega, by go_num, D ++ [(V, M)], HD8.out, HL8.out, OWN8.out, hb8⟩
        case measure => simp [intOf]; omega
      · obtain rfl : k = n := by omega
        have HE : Hid (D = portC 3 P) := by
          show _ = _
          rw [HD.out, HN.out, List.take_length]
        go_wp2_with fail
        go_ret2
        refine ⟨u10, rfl, ?_, B1⟩
        rw [← HE.out]
        exact own_base OWN.out hb3.size

set_option maxHeartbeats 1000000 in
theorem ports_field (f l h : Int) (hf : ¬ (f = 2 ∨ f = 3)) (w : World) :
    Calls Tryz.prog 29 #[.int .i64 f, .int .i64 l, .int .i64 h] w fun e w' => e = .returned (.tuple #[.slice none 0 0, .int .i64 1]) ∧ w' = w := by
  have n2 : (f != 2) = true := by simp; omega
  have n3 : (f != 3) = true := by simp; omega
  clear hf
  go_enter Tryz.func29, Tryz.ntmps29
  go_wp2_with fail
  go_ret2
  exact ⟨rfl, rfl⟩

set_option maxHeartbeats 1000000 in
theorem ports_range (f l h : Int) (hf : f = 2 ∨ f = 3) (hr : isR l h = false) (w : World) :
    Calls Tryz.prog 29 #[.int .i64 f, .int .i64 l, .int .i64 h] w fun e w' => e = .returned (.tuple #[.slice none 0 0, .int .i64 10]) ∧ w' = w := by
  have R1 : Hid (∀ W, Calls Tryz.prog 52 #[.int .i64 l, .int .i64 h] W fun e w' => e = .returned (.tuple #[.slice none 0 0, .int .i64 10]) ∧ w' = W) := fun W => range_no l h (fun hc => by rw [(isR_iff l h).2 hc] at hr; cases hr) W
  clear hr
  rcases hf with rfl | rfl
  all_goals
    go_enter Tryz.func29, Tryz.ntmps29
    go_wp2_with (first
      | (go_at_call 52; refine (R1.out _).mono ?_; rintro e w' ⟨rfl, rfl⟩))
    go_ret2
    exact ⟨rfl, rfl⟩

/-- A range of a field of ports as cubes, none where there is none. -/
def portP (f l h : Int) : List (List Int × List Int) := if decide (f = 2 ∨ f = 3) && isR l h then portC f (ran l h) else []
def portE (f l h : Int) : Int := if decide (f = 2 ∨ f = 3) then (if isR l h then 0 else 10) else 1
theorem ports_any (f l h : Int) (w : World) (hP : Places w) :
    Calls Tryz.prog 29 #[.int .i64 f, .int .i64 l, .int .i64 h] w fun e w' => ∃ u, e = .returned (.tuple #[u, .int .i64 (portE f l h)]) ∧ Sl w' u (portP f l h) ∧ Below w.heap.size w w' := by
  have none0 : ∀ w' : World, Sl w' (.slice none 0 0) [] := fun w' => sl_of (C := []) (World.ownsRow_nil w' w.heap.size _ _) (fun c hc => absurd hc (by simp))
  unfold portP portE
  by_cases hf : f = 2 ∨ f = 3
  · rw [decide_eq_true hf, if_pos rfl, Bool.true_and]
    cases hr : isR l h
    · refine (ports_range f l h hf hr w).mono ?_
      rintro e w' ⟨rfl, rfl⟩
      exact ⟨_, rfl, none0 _, Below.refl _ _⟩
    · refine (ports_ok f l h hf hr w hP).mono ?_
      rintro e w' ⟨u, rfl, ho, hb⟩
      exact ⟨u, rfl, sl_of ho (byts_portC _ _), hb⟩
  · rw [decide_eq_false hf, if_neg (by simp), Bool.false_and]
    refine (ports_field f l h hf w).mono ?_
    rintro e w' ⟨rfl, rfl⟩
    exact ⟨_, rfl, none0 _, Below.refl _ _⟩
end Go.Proofs.YthddlchkbnmcaaaGreatDoor
