import Derived.Test.YtpbinkmeldkehaaJ33
import Derived.Test.YtpbinkmeldkehaaJ26
namespace Go.Proofs.Ytpbinkmeldkehaa
open Go Go.Lib Go.RowKit
set_option maxRecDepth 20000

set_option maxHeartbeats 32000000 in
set_option maxRecDepth 100000 in
theorem rfits_any (C : List LeafM) (hn1 : C.length ≤ 1000) (hr1 : ∀ x ∈ C, x.rules.length ≤ 500) (s : Stp) (hs : okS s) (vc : Value) (w : World) (hc : LeavesIn w vc C) :
    Calls Try.prog 16 #[vc, .agg (stA s)] w fun e w' => e = .returned (.bool (fitsT s C)) ∧ Below w.heap.size w w' := by
  have RS : Hid (∀ n a b W, Calls Try.prog 26 #[.int .i64 n, .int .i64 a, .int .i64 b] W fun e w' => e = .returned (.bool (inT n a b)) ∧ w' = W) := fun n a b W => rin_same n a b W
  have hpa1 := hs.2.2.1.1
  have hpa2 := hs.2.2.1.2
  have hro1 := hs.2.1.1
  have hro2 := hs.2.1.2
  have LOAD : Hid (∀ n0 W, Below w.heap.size w W → Calls Try.prog 23 #[vc, .int .i64 n0] W fun e w' => e = .returned (.int .i64 (loadT C n0 : Nat)) ∧ Below W.heap.size W w') := fun n0 W hb => rload_any C hn1 hr1 n0 vc W (NSl.below LvR.below hc hb)
  obtain ⟨oc, capc, rfl, hc1, hc2⟩ := NSl.slice hc
  obtain ⟨n, hn0⟩ : ∃ n, n = C.length := ⟨_, rfl⟩
  have HN : Hid (n = C.length) := hn0
  rw [← hn0] at hc hc1 hn1 LOAD ⊢
  have HC : Hid (LeavesIn w (.slice oc n capc) C) := hc
  unfold maxLen at hc2
  obtain ⟨RES, hRES⟩ : ∃ R, R = fitsT s C := ⟨_, rfl⟩
  have HRES : Hid (RES = fitsT s C) := hRES
  rw [← hRES]
  have LEN : Hid (lenF s C = (decide ((n : Int) ≥ 1) && decide ((n : Int) ≤ s.pa.tdiv 2))) := by show _ = _; unfold lenF inT; rw [HN.out]
  clear hc hr1 hn0 hRES
  have SA : Hid ((w.alloc (.cells (stA s) 24)).heap[w.heap.size]? = some (.cells (stA s) 24 (0, 0))) := heap_new _ _ _ rfl
  have BA : Hid (Below w.heap.size w (w.alloc (.cells (stA s) 24))) := (Below.refl _ _).alloc (Nat.le_refl _) _
  have c4 := (st_cells SA.out).2.2.2.2.1
  by_cases h1 : (n : Int) < 1
  · have h1' : decide ((n : Int) < 1) = true := by simpa using h1
    have HF : Hid (RES = false) := by show _ = _; rw [HRES.out]; exact fits_nolen (by rw [LEN.out]; simp; omega)
    go_enter Try.func16, Try.ntmps16
    go_wp2_with fail
    go_ret
    exact ⟨by rw [HF.out]; rfl, BA.out⟩
  have h1' : decide ((n : Int) < 1) = false := by simpa using h1
  by_cases h2 : (n : Int) > s.pa.tdiv 2
  · have h2' : decide ((n : Int) > s.pa.tdiv 2) = true := by simpa using h2
    have h2'' : decide (s.pa.tdiv 2 < (n : Int)) = true := by simpa using h2
    have HF : Hid (RES = false) := by show _ = _; rw [HRES.out]; exact fits_nolen (by rw [LEN.out]; simp; omega)
    go_enter Try.func16, Try.ntmps16
    go_wp2_with fail
    go_ret
    exact ⟨by rw [HF.out]; rfl, BA.out⟩
  have h2' : decide ((n : Int) > s.pa.tdiv 2) = false := by simpa using h2
  have h2'' : decide (s.pa.tdiv 2 < (n : Int)) = false := by simpa using h2
  have HLEN : Hid (lenF s C = true) := by show _ = _; rw [LEN.out]; simp; omega
  go_enter Try.func16, Try.ntmps16
  go_wp2_with fail
  obtain ⟨gs, hgs⟩ : ∃ gs, gs = w.heap.size := ⟨_, rfl⟩
  rw [← hgs] at SA ⊢
  clear hgs LEN h1 h1' h2 h2' h2'' c4
  go_loopw [5] (fun i wr => ∃ k : Nat, k ≤ n ∧ i = .int .i64 (k : Int) ∧ Hid (∀ j x, j < k → C[j]? = some x → (okH s x && stepF (s.ro.tdiv 2) C x) = true) ∧ Hid (wr.heap[gs]? = some (.cells (stA s) 24 (0, 0))) ∧ Hid (Below w.heap.size w wr)) (fun i _ => n - (intOf i).toNat)
  case atStart => exact ⟨0, Nat.zero_le _, rfl, (fun j x hj => by omega), SA, BA⟩
  case round =>
    clear SA BA
    obtain ⟨k, hk, rfl, HK, HS, HB⟩ := hrel
    by_cases hlt : k < n
    · have hlt' : (k : Int) < (n : Int) := by omega
      obtain ⟨g, off, cur, ty, fr, x, u, rfl, hg0, hc, hxk, hxu⟩ := NSl.at HC.out k hlt
      have hg := (HB.out.block g (Array.getElem?_eq_some_iff.1 hg0).1).trans hg0
      have c26 : wr.cell? ⟨g, off + k * 29 + 26, none⟩ = some (.int .i64 x.one) := (cell_of_row _ _ _ _ _ _ hg).trans ((hc 26 (by decide)).trans (leaf_at hxu.1 _).2.1)
      have c27 : wr.cell? ⟨g, off + k * 29 + 27, none⟩ = some (.int .i64 x.two) := (cell_of_row _ _ _ _ _ _ hg).trans ((hc 27 (by decide)).trans (leaf_at hxu.1 _).2.2.1)
      have c1 := (st_cells HS.out).2.1
      have NO : Hid ((okH s x && stepF (s.ro.tdiv 2) C x) = false → RES = false) := fun h => by
        rw [HRES.out]
        unfold fitsT
        have : (C.all fun x => okH s x && stepF (s.ro.tdiv 2) C x) = false := by rw [List.all_eq_false]; exact ⟨x, List.mem_of_getElem? hxk, by rw [h]; simp⟩
        rw [this, Bool.and_false]
      have YES : Hid ((okH s x && stepF (s.ro.tdiv 2) C x) = true → ∀ j y, j < k + 1 → C[j]? = some y → (okH s y && stepF (s.ro.tdiv 2) C y) = true) := fun h j y hj hy => by
        by_cases hjk : j = k
        · subst hjk
          rw [hxk] at hy
          cases hy
          exact h
        · exact HK.out j y (by omega) hy
      have HOH : Hid (okH s x = (inT x.one 1 s.au && inT x.two 0 s.au && !(x.one == x.two))) := rfl
      have SF : Hid (stepF (s.ro.tdiv 2) C x = (!decide ((loadT C x.one : Int) > s.ro.tdiv 2) && (x.two == 0 || !decide ((loadT C x.two : Int) > s.ro.tdiv 2)))) := rfl
      have LOv1 : Hid (∀ W, Below wr.heap.size wr W → Calls Try.prog 23 #[.slice (some ⟨g, off, none⟩) n capc, .int .i64 x.one] W fun e w' => e = .returned (.int .i64 (loadT C x.one : Nat)) ∧ Below W.heap.size W w') := fun W hb => LOAD.out _ W (HB.out.trans (hb.mono HB.out.size))
      have LOv2 : Hid (∀ W, Below wr.heap.size wr W → Calls Try.prog 23 #[.slice (some ⟨g, off, none⟩) n capc, .int .i64 x.two] W fun e w' => e = .returned (.int .i64 (loadT C x.two : Nat)) ∧ Below W.heap.size W w') := fun W hb => LOAD.out _ W (HB.out.trans (hb.mono HB.out.size))
      clear hg hg0 hc hxk hxu
      generalize x.one = p1 at c26 HOH SF LOv1
      generalize x.two = p2 at c27 HOH SF LOv2
      generalize ((loadT C p1 : Nat) : Int) = v1 at SF LOv1
      generalize ((loadT C p2 : Nat) : Int) = v2 at SF LOv2
      generalize okH s x = ok at NO YES HOH
      generalize stepF (s.ro.tdiv 2) C x = sf at NO YES SF
      cases hA : inT p1 1 s.au with
      | false =>
        have HF : Hid (RES = false) := NO.out (by rw [HOH.out, hA]; rfl)
        go_wp2_with (go_at_call 26; refine (RS.out _ _ _ _).mono ?_; rintro e w' ⟨rfl, hw'⟩; replace hw' := hw'.symm; subst hw')
        go_ret
        exact ⟨by rw [HF.out]; rfl, HB.out⟩
      | true =>
        cases hBo : inT p2 0 s.au with
        | false =>
          have HF : Hid (RES = false) := NO.out (by rw [HOH.out, hA, hBo]; rfl)
          go_wp2_with (go_at_call 26; refine (RS.out _ _ _ _).mono ?_; rintro e w' ⟨rfl, hw'⟩; replace hw' := hw'.symm; subst hw')
          go_ret
          exact ⟨by rw [HF.out]; rfl, HB.out⟩
        | true =>
          cases hE : (p1 == p2) with
          | true =>
            have HF : Hid (RES = false) := NO.out (by rw [HOH.out, hA, hBo, hE]; rfl)
            go_wp2_with (go_at_call 26; refine (RS.out _ _ _ _).mono ?_; rintro e w' ⟨rfl, hw'⟩; replace hw' := hw'.symm; subst hw')
            go_ret
            exact ⟨by rw [HF.out]; rfl, HB.out⟩
          | false =>
            have HOK : Hid (ok = true) := by show _ = _; rw [HOH.out, hA, hBo, hE]; rfl
            go_upto_region 10 with (go_at_call 26; refine (RS.out _ _ _ _).mono ?_; rintro e w' ⟨rfl, hw'⟩; replace hw' := hw'.symm; subst hw')
            clear hA hBo hE c26 c27 c1 HOH
            by_cases ha : v1 > s.ro.tdiv 2
            · have HF : Hid (RES = false) := NO.out (by rw [SF.out, show decide (v1 > s.ro.tdiv 2) = true by simpa using ha]; exact Bool.and_false _)
              refine region_cut (fun a a' w' => ∃ y52 y53 y54 y55 y56 y57 y58 y59 y60 y61 y62 y63 y64 y65 y66 y67 y68 y69 y70, a' = ((((((((((((((((((((a.put (some 52) y52).put (some 53) y53).put (some 54) y54).put (some 55) y55).put (some 56) y56).put (some 57) y57).put (some 58) y58).put (some 59) y59).put (some 60) y60).put (some 61) y61).put (some 62) y62).put (some 63) y63).put (some 64) y64).put (some 65) y65).put (some 66) y66).put (some 67) y67).put (some 68) y68).put (some 69) y69).put (some 70) y70).put (some 71) (.bool true)) ∧ Below wr.heap.size wr w') ?_ ?_
              · have bd : Below wr.heap.size wr (World.drew wr) := (Below.refl _ _).drew
                have kd : (World.drew wr).heap[gs]? = some (.cells (stA s) 24 (0, 0)) := HS.out
                have ne9 : Nonempty (KeepS gs s) := ⟨⟨wr, HS.out⟩⟩
                have e3 : ∀ z : KeepS gs s, z.world.cell? ⟨gs, 3, none⟩ = some (.int .i64 s.ro) := fun z => (cell_of_row _ _ _ _ _ _ z.k1).trans rfl
                refine region_beginS (InS gs s) 20 rfl (by kernel_rfl) ?_
                refine region_reads 0 2 18 rfl (by kernel_rfl) (by kernel_rfl) (by kernel_rfl) (by intro d v c a w h; exact absurd h.1 (by simp)) (InS.of kd) ?_
                simp only [List.drop_zero, List.take_succ_cons, List.take_zero]
                go_big_quiet_step (rfl)
                go_big_quiet_step (rfl)
                refine wpQuiet_nil ?_
                refine region_reads 3 3 15 rfl (by kernel_rfl) (by kernel_rfl) (by kernel_rfl) (by intro d v c a w h; exact absurd h.1 (by simp)) (InS.of kd) ?_
                simp only [List.drop_succ_cons, List.drop_zero, List.take_succ_cons, List.take_zero]
                go_big_quiet_step (rfl)
                go_big_quiet_step (rfl)
                go_big_quiet_step (rfl)
                refine wpQuiet_nil ?_
                refine wpAnyH_all (rs := [2]) (by kernel_rfl) (by decide) ?_
                intro i hi
                obtain rfl := List.mem_singleton.1 hi
                refine wpOp_call rfl rfl 23 #[.tmp 52, .tmp 53] (by intro b w; have hf := Try.func23; simp [go_sem]) #[(.slice (some ⟨g, off, none⟩) n capc), .int .i64 p1] rfl (fun v w' => v = .int .i64 v1 ∧ Below (World.drew wr).heap.size (World.drew wr) w') ((LOv1.out _ (bd)).mono fun e w' h => ⟨_, h.1, rfl, h.2⟩) (some 54) rfl ?_
                rintro v x1 ⟨rfl, kx1⟩
                have h1 : Below wr.heap.size wr x1 := bd.trans (kx1.mono bd.size)
                have sx1 : x1.heap[gs]? = some (.cells (stA s) 24 (0, 0)) := (h1.block _ (Array.getElem?_eq_some_iff.1 HS.out).1).trans HS.out
                refine ⟨InS.of sx1, ?_⟩
                simp only [Act.put, List.setIfInBounds_toArray, List.set_cons_succ, List.set_cons_zero]
                refine takeD14 (i := 6) (v := .bool true) (some 58) rfl rfl (by kernel_rfl) (by kernel_rfl) (by kernel_rfl) (fun _ _ _ h => absurd h.1 (by simp)) (.inl ⟨rfl, fun W _ => (by simp [go_sem, ha])⟩) (InS.of sx1) ?_
                simp only [Act.put, List.setIfInBounds_toArray, List.set_cons_succ, List.set_cons_zero]
                refine takeD14 (i := 7) (v := .bool true) (some 59) rfl rfl (by kernel_rfl) (by kernel_rfl) (by kernel_rfl) (fun _ _ _ h => absurd h.1 (by simp)) (.inl ⟨rfl, fun W _ => run_moveOp rfl _ _ _ rfl⟩) (InS.of sx1) ?_
                simp only [Act.put, List.setIfInBounds_toArray, List.set_cons_succ, List.set_cons_zero]
                refine takeD14 (i := 8) (v := undef) (some 60) rfl rfl (by kernel_rfl) (by kernel_rfl) (by kernel_rfl) (fun _ _ _ h => absurd h.1 (by simp)) (.inr ⟨rfl, rfl⟩) (InS.of sx1) ?_
                simp only [Act.put, List.setIfInBounds_toArray, List.set_cons_succ, List.set_cons_zero]
                refine takeD14 (i := 9) (v := undef) (some 61) rfl rfl (by kernel_rfl) (by kernel_rfl) (by kernel_rfl) (fun _ _ _ h => absurd h.1 (by simp)) (.inr ⟨rfl, rfl⟩) (InS.of sx1) ?_
                simp only [Act.put, List.setIfInBounds_toArray, List.set_cons_succ, List.set_cons_zero]
                refine takeD14 (i := 10) (v := undef) (some 62) rfl rfl (by kernel_rfl) (by kernel_rfl) (by kernel_rfl) (fun _ _ _ h => absurd h.1 (by simp)) (.inr ⟨rfl, rfl⟩) (InS.of sx1) ?_
                simp only [Act.put, List.setIfInBounds_toArray, List.set_cons_succ, List.set_cons_zero]
                refine takeD14 (i := 11) (v := undef) (some 63) rfl rfl (by kernel_rfl) (by kernel_rfl) (by kernel_rfl) (fun _ _ _ h => absurd h.1 (by simp)) (.inr ⟨rfl, rfl⟩) (InS.of sx1) ?_
                simp only [Act.put, List.setIfInBounds_toArray, List.set_cons_succ, List.set_cons_zero]
                refine takeD14 (i := 12) (v := undef) (some 64) rfl rfl (by kernel_rfl) (by kernel_rfl) (by kernel_rfl) (fun _ _ _ h => absurd h.1 (by simp)) (.inr ⟨rfl, rfl⟩) (InS.of sx1) ?_
                simp only [Act.put, List.setIfInBounds_toArray, List.set_cons_succ, List.set_cons_zero]
                refine takeD14 (i := 13) (v := undef) (some 65) rfl rfl (by kernel_rfl) (by kernel_rfl) (by kernel_rfl) (fun _ _ _ h => absurd h.1 (by simp)) (.inr ⟨rfl, rfl⟩) (InS.of sx1) ?_
                simp only [Act.put, List.setIfInBounds_toArray, List.set_cons_succ, List.set_cons_zero]
                refine takeD14 (i := 14) (v := undef) (some 66) rfl rfl (by kernel_rfl) (by kernel_rfl) (by kernel_rfl) (fun _ _ _ h => absurd h.1 (by simp)) (.inr ⟨rfl, rfl⟩) (InS.of sx1) ?_
                simp only [Act.put, List.setIfInBounds_toArray, List.set_cons_succ, List.set_cons_zero]
                refine takeD14 (i := 15) (v := undef) (some 67) rfl rfl (by kernel_rfl) (by kernel_rfl) (by kernel_rfl) (fun _ _ _ h => absurd h.1 (by simp)) (.inr ⟨rfl, rfl⟩) (InS.of sx1) ?_
                simp only [Act.put, List.setIfInBounds_toArray, List.set_cons_succ, List.set_cons_zero]
                refine takeD14 (i := 16) (v := undef) (some 68) rfl rfl (by kernel_rfl) (by kernel_rfl) (by kernel_rfl) (fun _ _ _ h => absurd h.1 (by simp)) (.inr ⟨rfl, rfl⟩) (InS.of sx1) ?_
                simp only [Act.put, List.setIfInBounds_toArray, List.set_cons_succ, List.set_cons_zero]
                refine takeD14 (i := 17) (v := undef) (some 69) rfl rfl (by kernel_rfl) (by kernel_rfl) (by kernel_rfl) (fun _ _ _ h => absurd h.1 (by simp)) (.inr ⟨rfl, rfl⟩) (InS.of sx1) ?_
                simp only [Act.put, List.setIfInBounds_toArray, List.set_cons_succ, List.set_cons_zero]
                refine takeD14 (i := 18) (v := undef) (some 70) rfl rfl (by kernel_rfl) (by kernel_rfl) (by kernel_rfl) (fun _ _ _ h => absurd h.1 (by simp)) (.inr ⟨rfl, rfl⟩) (InS.of sx1) ?_
                simp only [Act.put, List.setIfInBounds_toArray, List.set_cons_succ, List.set_cons_zero]
                refine takeD14 (i := 19) (v := .bool true) (some 71) rfl rfl (by kernel_rfl) (by kernel_rfl) (by kernel_rfl) (fun _ _ _ h => absurd h.1 (by simp)) (.inl ⟨rfl, fun W _ => (by simp [go_sem])⟩) (InS.of sx1) ?_
                simp only [Act.put, List.setIfInBounds_toArray, List.set_cons_succ, List.set_cons_zero]
                refine wpAnyH_done (by kernel_rfl) ?_ _
                exact ⟨rfl, _, _, _, _, _, _, _, _, _, _, _, _, _, _, _, _, _, _, _, rfl, h1⟩
              rintro a' w9 ⟨y52, y53, y54, y55, y56, y57, y58, y59, y60, y61, y62, y63, y64, y65, y66, y67, y68, y69, y70, rfl, hb9⟩
              have B9 : Hid (Below w.heap.size w w9) := HB.out.trans (hb9.mono HB.out.size)
              clear hb9
              simp only [Act.put, List.setIfInBounds_toArray, List.set_cons_succ, List.set_cons_zero]
              go_wp2_with fail
              go_ret
              exact ⟨by rw [HF.out]; rfl, B9.out⟩
            · by_cases hz : p2 = 0
              · have HK2 := YES.out (by rw [HOK.out, SF.out, show decide (v1 > s.ro.tdiv 2) = false by simpa using ha, show (p2 == 0) = true by simpa using hz]; rfl)
                have HK2 : Hid (∀ j x, j < k + 1 → C[j]? = some x → (okH s x && stepF (s.ro.tdiv 2) C x) = true) := HK2
                refine region_cut (fun a a' w' => ∃ y52 y53 y54 y55 y56 y57 y58 y59 y60 y61 y62 y63 y64 y65 y66 y67 y68 y69 y70, a' = ((((((((((((((((((((a.put (some 52) y52).put (some 53) y53).put (some 54) y54).put (some 55) y55).put (some 56) y56).put (some 57) y57).put (some 58) y58).put (some 59) y59).put (some 60) y60).put (some 61) y61).put (some 62) y62).put (some 63) y63).put (some 64) y64).put (some 65) y65).put (some 66) y66).put (some 67) y67).put (some 68) y68).put (some 69) y69).put (some 70) y70).put (some 71) (.bool false)) ∧ Below wr.heap.size wr w') ?_ ?_
                · have bd : Below wr.heap.size wr (World.drew wr) := (Below.refl _ _).drew
                  have kd : (World.drew wr).heap[gs]? = some (.cells (stA s) 24 (0, 0)) := HS.out
                  have ne9 : Nonempty (KeepS gs s) := ⟨⟨wr, HS.out⟩⟩
                  have e3 : ∀ z : KeepS gs s, z.world.cell? ⟨gs, 3, none⟩ = some (.int .i64 s.ro) := fun z => (cell_of_row _ _ _ _ _ _ z.k1).trans rfl
                  refine region_beginS (InS gs s) 20 rfl (by kernel_rfl) ?_
                  refine region_reads 0 2 18 rfl (by kernel_rfl) (by kernel_rfl) (by kernel_rfl) (by intro d v c a w h; exact absurd h.1 (by simp)) (InS.of kd) ?_
                  simp only [List.drop_zero, List.take_succ_cons, List.take_zero]
                  go_big_quiet_step (rfl)
                  go_big_quiet_step (rfl)
                  refine wpQuiet_nil ?_
                  refine region_reads 3 3 15 rfl (by kernel_rfl) (by kernel_rfl) (by kernel_rfl) (by intro d v c a w h; exact absurd h.1 (by simp)) (InS.of kd) ?_
                  simp only [List.drop_succ_cons, List.drop_zero, List.take_succ_cons, List.take_zero]
                  go_big_quiet_step (rfl)
                  go_big_quiet_step (rfl)
                  go_big_quiet_step (rfl)
                  refine wpQuiet_nil ?_
                  refine wpAnyH_all (rs := [2]) (by kernel_rfl) (by decide) ?_
                  intro i hi
                  obtain rfl := List.mem_singleton.1 hi
                  refine wpOp_call rfl rfl 23 #[.tmp 52, .tmp 53] (by intro b w; have hf := Try.func23; simp [go_sem]) #[(.slice (some ⟨g, off, none⟩) n capc), .int .i64 p1] rfl (fun v w' => v = .int .i64 v1 ∧ Below (World.drew wr).heap.size (World.drew wr) w') ((LOv1.out _ (bd)).mono fun e w' h => ⟨_, h.1, rfl, h.2⟩) (some 54) rfl ?_
                  rintro v x1 ⟨rfl, kx1⟩
                  have h1 : Below wr.heap.size wr x1 := bd.trans (kx1.mono bd.size)
                  have sx1 : x1.heap[gs]? = some (.cells (stA s) 24 (0, 0)) := (h1.block _ (Array.getElem?_eq_some_iff.1 HS.out).1).trans HS.out
                  refine ⟨InS.of sx1, ?_⟩
                  simp only [Act.put, List.setIfInBounds_toArray, List.set_cons_succ, List.set_cons_zero]
                  refine takeD14 (i := 6) (v := .bool false) (some 58) rfl rfl (by kernel_rfl) (by kernel_rfl) (by kernel_rfl) (fun _ _ _ h => absurd h.1 (by simp)) (.inl ⟨rfl, fun W _ => (by simp [go_sem, ha])⟩) (InS.of sx1) ?_
                  simp only [Act.put, List.setIfInBounds_toArray, List.set_cons_succ, List.set_cons_zero]
                  refine takeD14 (i := 7) (v := .bool false) (some 59) rfl rfl (by kernel_rfl) (by kernel_rfl) (by kernel_rfl) (fun _ _ _ h => absurd h.1 (by simp)) (.inl ⟨rfl, fun W _ => run_moveOp rfl _ _ _ rfl⟩) (InS.of sx1) ?_
                  simp only [Act.put, List.setIfInBounds_toArray, List.set_cons_succ, List.set_cons_zero]
                  refine takeD14 (i := 8) (v := .int .i64 p2) (some 60) rfl rfl (by kernel_rfl) (by kernel_rfl) (by kernel_rfl) (fun _ _ _ h => absurd h.1 (by simp)) (.inl ⟨rfl, fun W _ => run_moveOp rfl _ _ _ rfl⟩) (InS.of sx1) ?_
                  simp only [Act.put, List.setIfInBounds_toArray, List.set_cons_succ, List.set_cons_zero]
                  refine takeD14 (i := 9) (v := .bool false) (some 61) rfl rfl (by kernel_rfl) (by kernel_rfl) (by kernel_rfl) (fun _ _ _ h => absurd h.1 (by simp)) (.inl ⟨rfl, fun W _ => (by simp [go_sem, hz])⟩) (InS.of sx1) ?_
                  simp only [Act.put, List.setIfInBounds_toArray, List.set_cons_succ, List.set_cons_zero]
                  refine takeD14 (i := 10) (v := .bool false) (some 62) rfl rfl (by kernel_rfl) (by kernel_rfl) (by kernel_rfl) (fun _ _ _ h => absurd h.1 (by simp)) (.inl ⟨rfl, fun W _ => run_moveOp rfl _ _ _ rfl⟩) (InS.of sx1) ?_
                  simp only [Act.put, List.setIfInBounds_toArray, List.set_cons_succ, List.set_cons_zero]
                  refine takeD14 (i := 11) (v := undef) (some 63) rfl rfl (by kernel_rfl) (by kernel_rfl) (by kernel_rfl) (fun _ _ _ h => absurd h.1 (by simp)) (.inr ⟨rfl, rfl⟩) (InS.of sx1) ?_
                  simp only [Act.put, List.setIfInBounds_toArray, List.set_cons_succ, List.set_cons_zero]
                  refine takeD14 (i := 12) (v := undef) (some 64) rfl rfl (by kernel_rfl) (by kernel_rfl) (by kernel_rfl) (fun _ _ _ h => absurd h.1 (by simp)) (.inr ⟨rfl, rfl⟩) (InS.of sx1) ?_
                  simp only [Act.put, List.setIfInBounds_toArray, List.set_cons_succ, List.set_cons_zero]
                  refine takeD14 (i := 13) (v := undef) (some 65) rfl rfl (by kernel_rfl) (by kernel_rfl) (by kernel_rfl) (fun _ _ _ h => absurd h.1 (by simp)) (.inr ⟨rfl, rfl⟩) (InS.of sx1) ?_
                  simp only [Act.put, List.setIfInBounds_toArray, List.set_cons_succ, List.set_cons_zero]
                  refine takeD14 (i := 14) (v := undef) (some 66) rfl rfl (by kernel_rfl) (by kernel_rfl) (by kernel_rfl) (fun _ _ _ h => absurd h.1 (by simp)) (.inr ⟨rfl, rfl⟩) (InS.of sx1) ?_
                  simp only [Act.put, List.setIfInBounds_toArray, List.set_cons_succ, List.set_cons_zero]
                  refine takeD14 (i := 15) (v := undef) (some 67) rfl rfl (by kernel_rfl) (by kernel_rfl) (by kernel_rfl) (fun _ _ _ h => absurd h.1 (by simp)) (.inr ⟨rfl, rfl⟩) (InS.of sx1) ?_
                  simp only [Act.put, List.setIfInBounds_toArray, List.set_cons_succ, List.set_cons_zero]
                  refine takeD14 (i := 16) (v := undef) (some 68) rfl rfl (by kernel_rfl) (by kernel_rfl) (by kernel_rfl) (fun _ _ _ h => absurd h.1 (by simp)) (.inr ⟨rfl, rfl⟩) (InS.of sx1) ?_
                  simp only [Act.put, List.setIfInBounds_toArray, List.set_cons_succ, List.set_cons_zero]
                  refine takeD14 (i := 17) (v := undef) (some 69) rfl rfl (by kernel_rfl) (by kernel_rfl) (by kernel_rfl) (fun _ _ _ h => absurd h.1 (by simp)) (.inr ⟨rfl, rfl⟩) (InS.of sx1) ?_
                  simp only [Act.put, List.setIfInBounds_toArray, List.set_cons_succ, List.set_cons_zero]
                  refine takeD14 (i := 18) (v := .bool false) (some 70) rfl rfl (by kernel_rfl) (by kernel_rfl) (by kernel_rfl) (fun _ _ _ h => absurd h.1 (by simp)) (.inl ⟨rfl, fun W _ => (by simp [go_sem])⟩) (InS.of sx1) ?_
                  simp only [Act.put, List.setIfInBounds_toArray, List.set_cons_succ, List.set_cons_zero]
                  refine takeD14 (i := 19) (v := .bool false) (some 71) rfl rfl (by kernel_rfl) (by kernel_rfl) (by kernel_rfl) (fun _ _ _ h => absurd h.1 (by simp)) (.inl ⟨rfl, fun W _ => (by simp [go_sem])⟩) (InS.of sx1) ?_
                  simp only [Act.put, List.setIfInBounds_toArray, List.set_cons_succ, List.set_cons_zero]
                  refine wpAnyH_done (by kernel_rfl) ?_ _
                  exact ⟨rfl, _, _, _, _, _, _, _, _, _, _, _, _, _, _, _, _, _, _, _, rfl, h1⟩
                rintro a' w9 ⟨y52, y53, y54, y55, y56, y57, y58, y59, y60, y61, y62, y63, y64, y65, y66, y67, y68, y69, y70, rfl, hb9⟩
                have B9 : Hid (Below w.heap.size w w9) := HB.out.trans (hb9.mono HB.out.size)
                have S9 : Hid (w9.heap[gs]? = some (.cells (stA s) 24 (0, 0))) := (hb9.block _ (Array.getElem?_eq_some_iff.1 HS.out).1).trans HS.out
                clear hb9 HB HS
                simp only [Act.put, List.setIfInBounds_toArray, List.set_cons_succ, List.set_cons_zero]
                go_wp2_with fail
                go_roundw
                case rel => exact ⟨k + 1, by omega, by go_num, HK2, S9, B9⟩
                case measure => simp [intOf]; omega
              · cases HB2 : decide (v2 > s.ro.tdiv 2) with
                | true =>
                  have HB3 : decide (s.ro.tdiv 2 < v2) = true := HB2
                  have HF : Hid (RES = false) := NO.out (by rw [SF.out, show decide (v1 > s.ro.tdiv 2) = false by simpa using ha, show (p2 == 0) = false by simpa using hz, HB2]; exact Bool.and_false _)
                  refine region_cut (fun a a' w' => ∃ y52 y53 y54 y55 y56 y57 y58 y59 y60 y61 y62 y63 y64 y65 y66 y67 y68 y69 y70, a' = ((((((((((((((((((((a.put (some 52) y52).put (some 53) y53).put (some 54) y54).put (some 55) y55).put (some 56) y56).put (some 57) y57).put (some 58) y58).put (some 59) y59).put (some 60) y60).put (some 61) y61).put (some 62) y62).put (some 63) y63).put (some 64) y64).put (some 65) y65).put (some 66) y66).put (some 67) y67).put (some 68) y68).put (some 69) y69).put (some 70) y70).put (some 71) (.bool true)) ∧ Below wr.heap.size wr w') ?_ ?_
                  · have bd : Below wr.heap.size wr (World.drew wr) := (Below.refl _ _).drew
                    have kd : (World.drew wr).heap[gs]? = some (.cells (stA s) 24 (0, 0)) := HS.out
                    have ne9 : Nonempty (KeepS gs s) := ⟨⟨wr, HS.out⟩⟩
                    have e3 : ∀ z : KeepS gs s, z.world.cell? ⟨gs, 3, none⟩ = some (.int .i64 s.ro) := fun z => (cell_of_row _ _ _ _ _ _ z.k1).trans rfl
                    refine region_beginS (InS gs s) 20 rfl (by kernel_rfl) ?_
                    refine region_reads 0 2 18 rfl (by kernel_rfl) (by kernel_rfl) (by kernel_rfl) (by intro d v c a w h; exact absurd h.1 (by simp)) (InS.of kd) ?_
                    simp only [List.drop_zero, List.take_succ_cons, List.take_zero]
                    go_big_quiet_step (rfl)
                    go_big_quiet_step (rfl)
                    refine wpQuiet_nil ?_
                    refine region_reads 3 3 15 rfl (by kernel_rfl) (by kernel_rfl) (by kernel_rfl) (by intro d v c a w h; exact absurd h.1 (by simp)) (InS.of kd) ?_
                    simp only [List.drop_succ_cons, List.drop_zero, List.take_succ_cons, List.take_zero]
                    go_big_quiet_step (rfl)
                    go_big_quiet_step (rfl)
                    go_big_quiet_step (rfl)
                    refine wpQuiet_nil ?_
                    refine wpAnyH_all (rs := [2]) (by kernel_rfl) (by decide) ?_
                    intro i hi
                    obtain rfl := List.mem_singleton.1 hi
                    refine wpOp_call rfl rfl 23 #[.tmp 52, .tmp 53] (by intro b w; have hf := Try.func23; simp [go_sem]) #[(.slice (some ⟨g, off, none⟩) n capc), .int .i64 p1] rfl (fun v w' => v = .int .i64 v1 ∧ Below (World.drew wr).heap.size (World.drew wr) w') ((LOv1.out _ (bd)).mono fun e w' h => ⟨_, h.1, rfl, h.2⟩) (some 54) rfl ?_
                    rintro v x1 ⟨rfl, kx1⟩
                    have h1 : Below wr.heap.size wr x1 := bd.trans (kx1.mono bd.size)
                    have sx1 : x1.heap[gs]? = some (.cells (stA s) 24 (0, 0)) := (h1.block _ (Array.getElem?_eq_some_iff.1 HS.out).1).trans HS.out
                    refine ⟨InS.of sx1, ?_⟩
                    simp only [Act.put, List.setIfInBounds_toArray, List.set_cons_succ, List.set_cons_zero]
                    refine takeD14 (i := 6) (v := .bool false) (some 58) rfl rfl (by kernel_rfl) (by kernel_rfl) (by kernel_rfl) (fun _ _ _ h => absurd h.1 (by simp)) (.inl ⟨rfl, fun W _ => (by simp [go_sem, ha])⟩) (InS.of sx1) ?_
                    simp only [Act.put, List.setIfInBounds_toArray, List.set_cons_succ, List.set_cons_zero]
                    refine takeD14 (i := 7) (v := .bool false) (some 59) rfl rfl (by kernel_rfl) (by kernel_rfl) (by kernel_rfl) (fun _ _ _ h => absurd h.1 (by simp)) (.inl ⟨rfl, fun W _ => run_moveOp rfl _ _ _ rfl⟩) (InS.of sx1) ?_
                    simp only [Act.put, List.setIfInBounds_toArray, List.set_cons_succ, List.set_cons_zero]
                    refine takeD14 (i := 8) (v := .int .i64 p2) (some 60) rfl rfl (by kernel_rfl) (by kernel_rfl) (by kernel_rfl) (fun _ _ _ h => absurd h.1 (by simp)) (.inl ⟨rfl, fun W _ => run_moveOp rfl _ _ _ rfl⟩) (InS.of sx1) ?_
                    simp only [Act.put, List.setIfInBounds_toArray, List.set_cons_succ, List.set_cons_zero]
                    refine takeD14 (i := 9) (v := .bool true) (some 61) rfl rfl (by kernel_rfl) (by kernel_rfl) (by kernel_rfl) (fun _ _ _ h => absurd h.1 (by simp)) (.inl ⟨rfl, fun W _ => (by simp [go_sem, hz])⟩) (InS.of sx1) ?_
                    simp only [Act.put, List.setIfInBounds_toArray, List.set_cons_succ, List.set_cons_zero]
                    refine takeD14 (i := 10) (v := .bool true) (some 62) rfl rfl (by kernel_rfl) (by kernel_rfl) (by kernel_rfl) (fun _ _ _ h => absurd h.1 (by simp)) (.inl ⟨rfl, fun W _ => run_moveOp rfl _ _ _ rfl⟩) (InS.of sx1) ?_
                    simp only [Act.put, List.setIfInBounds_toArray, List.set_cons_succ, List.set_cons_zero]
                    refine takeD14 (i := 11) (v := (.slice (some ⟨g, off, none⟩) n capc)) (some 63) rfl rfl (by kernel_rfl) (by kernel_rfl) (by kernel_rfl) (fun _ _ _ h => absurd h.1 (by simp)) (.inl ⟨rfl, fun W _ => run_moveOp rfl _ _ _ rfl⟩) (InS.of sx1) ?_
                    simp only [Act.put, List.setIfInBounds_toArray, List.set_cons_succ, List.set_cons_zero]
                    refine takeD14 (i := 12) (v := .int .i64 p2) (some 64) rfl rfl (by kernel_rfl) (by kernel_rfl) (by kernel_rfl) (fun _ _ _ h => absurd h.1 (by simp)) (.inl ⟨rfl, fun W _ => run_moveOp rfl _ _ _ rfl⟩) (InS.of sx1) ?_
                    simp only [Act.put, List.setIfInBounds_toArray, List.set_cons_succ, List.set_cons_zero]
                    refine region_reads 14 3 4 rfl (by kernel_rfl) (by kernel_rfl) (by kernel_rfl) (by intro d v c a w h; exact absurd h.1 (by simp)) (InS.of sx1) ?_
                    simp only [List.drop_succ_cons, List.drop_zero, List.take_succ_cons, List.take_zero]
                    go_big_quiet_step (rfl)
                    go_big_quiet_step (rfl)
                    go_big_quiet_step (rfl)
                    refine wpQuiet_nil ?_
                    refine wpAnyH_all (rs := [13]) (by kernel_rfl) (by decide) ?_
                    intro i hi
                    obtain rfl := List.mem_singleton.1 hi
                    refine wpOp_call rfl rfl 23 #[.tmp 63, .tmp 64] (by intro b w; have hf := Try.func23; simp [go_sem]) #[(.slice (some ⟨g, off, none⟩) n capc), .int .i64 p2] rfl (fun v w' => v = .int .i64 v2 ∧ Below x1.heap.size x1 w') ((LOv2.out _ (h1)).mono fun e w' h => ⟨_, h.1, rfl, h.2⟩) (some 65) rfl ?_
                    rintro v x2 ⟨rfl, kx2⟩
                    have h2 : Below wr.heap.size wr x2 := h1.trans (kx2.mono h1.size)
                    have sx2 : x2.heap[gs]? = some (.cells (stA s) 24 (0, 0)) := (h2.block _ (Array.getElem?_eq_some_iff.1 HS.out).1).trans HS.out
                    refine ⟨InS.of sx2, ?_⟩
                    simp only [Act.put, List.setIfInBounds_toArray, List.set_cons_succ, List.set_cons_zero]
                    refine takeD14 (i := 17) (v := .bool true) (some 69) rfl rfl (by kernel_rfl) (by kernel_rfl) (by kernel_rfl) (fun _ _ _ h => absurd h.1 (by simp)) (.inl ⟨rfl, fun W _ => (by simp [go_sem, HB2])⟩) (InS.of sx2) ?_
                    simp only [Act.put, List.setIfInBounds_toArray, List.set_cons_succ, List.set_cons_zero]
                    refine takeD14 (i := 18) (v := .bool true) (some 70) rfl rfl (by kernel_rfl) (by kernel_rfl) (by kernel_rfl) (fun _ _ _ h => absurd h.1 (by simp)) (.inl ⟨rfl, fun W _ => (by simp [go_sem])⟩) (InS.of sx2) ?_
                    simp only [Act.put, List.setIfInBounds_toArray, List.set_cons_succ, List.set_cons_zero]
                    refine takeD14 (i := 19) (v := .bool true) (some 71) rfl rfl (by kernel_rfl) (by kernel_rfl) (by kernel_rfl) (fun _ _ _ h => absurd h.1 (by simp)) (.inl ⟨rfl, fun W _ => (by simp [go_sem])⟩) (InS.of sx2) ?_
                    simp only [Act.put, List.setIfInBounds_toArray, List.set_cons_succ, List.set_cons_zero]
                    refine wpAnyH_done (by kernel_rfl) ?_ _
                    exact ⟨rfl, _, _, _, _, _, _, _, _, _, _, _, _, _, _, _, _, _, _, _, rfl, h2⟩
                  rintro a' w9 ⟨y52, y53, y54, y55, y56, y57, y58, y59, y60, y61, y62, y63, y64, y65, y66, y67, y68, y69, y70, rfl, hb9⟩
                  have B9 : Hid (Below w.heap.size w w9) := HB.out.trans (hb9.mono HB.out.size)
                  clear hb9
                  simp only [Act.put, List.setIfInBounds_toArray, List.set_cons_succ, List.set_cons_zero]
                  go_wp2_with fail
                  go_ret
                  exact ⟨by rw [HF.out]; rfl, B9.out⟩
                | false =>
                  have HB3 : decide (s.ro.tdiv 2 < v2) = false := HB2
                  have HK2 := YES.out (by rw [HOK.out, SF.out, show decide (v1 > s.ro.tdiv 2) = false by simpa using ha, show (p2 == 0) = false by simpa using hz, HB2]; rfl)
                  have HK2 : Hid (∀ j x, j < k + 1 → C[j]? = some x → (okH s x && stepF (s.ro.tdiv 2) C x) = true) := HK2
                  refine region_cut (fun a a' w' => ∃ y52 y53 y54 y55 y56 y57 y58 y59 y60 y61 y62 y63 y64 y65 y66 y67 y68 y69 y70, a' = ((((((((((((((((((((a.put (some 52) y52).put (some 53) y53).put (some 54) y54).put (some 55) y55).put (some 56) y56).put (some 57) y57).put (some 58) y58).put (some 59) y59).put (some 60) y60).put (some 61) y61).put (some 62) y62).put (some 63) y63).put (some 64) y64).put (some 65) y65).put (some 66) y66).put (some 67) y67).put (some 68) y68).put (some 69) y69).put (some 70) y70).put (some 71) (.bool false)) ∧ Below wr.heap.size wr w') ?_ ?_
                  · have bd : Below wr.heap.size wr (World.drew wr) := (Below.refl _ _).drew
                    have kd : (World.drew wr).heap[gs]? = some (.cells (stA s) 24 (0, 0)) := HS.out
                    have ne9 : Nonempty (KeepS gs s) := ⟨⟨wr, HS.out⟩⟩
                    have e3 : ∀ z : KeepS gs s, z.world.cell? ⟨gs, 3, none⟩ = some (.int .i64 s.ro) := fun z => (cell_of_row _ _ _ _ _ _ z.k1).trans rfl
                    refine region_beginS (InS gs s) 20 rfl (by kernel_rfl) ?_
                    refine region_reads 0 2 18 rfl (by kernel_rfl) (by kernel_rfl) (by kernel_rfl) (by intro d v c a w h; exact absurd h.1 (by simp)) (InS.of kd) ?_
                    simp only [List.drop_zero, List.take_succ_cons, List.take_zero]
                    go_big_quiet_step (rfl)
                    go_big_quiet_step (rfl)
                    refine wpQuiet_nil ?_
                    refine region_reads 3 3 15 rfl (by kernel_rfl) (by kernel_rfl) (by kernel_rfl) (by intro d v c a w h; exact absurd h.1 (by simp)) (InS.of kd) ?_
                    simp only [List.drop_succ_cons, List.drop_zero, List.take_succ_cons, List.take_zero]
                    go_big_quiet_step (rfl)
                    go_big_quiet_step (rfl)
                    go_big_quiet_step (rfl)
                    refine wpQuiet_nil ?_
                    refine wpAnyH_all (rs := [2]) (by kernel_rfl) (by decide) ?_
                    intro i hi
                    obtain rfl := List.mem_singleton.1 hi
                    refine wpOp_call rfl rfl 23 #[.tmp 52, .tmp 53] (by intro b w; have hf := Try.func23; simp [go_sem]) #[(.slice (some ⟨g, off, none⟩) n capc), .int .i64 p1] rfl (fun v w' => v = .int .i64 v1 ∧ Below (World.drew wr).heap.size (World.drew wr) w') ((LOv1.out _ (bd)).mono fun e w' h => ⟨_, h.1, rfl, h.2⟩) (some 54) rfl ?_
                    rintro v x1 ⟨rfl, kx1⟩
                    have h1 : Below wr.heap.size wr x1 := bd.trans (kx1.mono bd.size)
                    have sx1 : x1.heap[gs]? = some (.cells (stA s) 24 (0, 0)) := (h1.block _ (Array.getElem?_eq_some_iff.1 HS.out).1).trans HS.out
                    refine ⟨InS.of sx1, ?_⟩
                    simp only [Act.put, List.setIfInBounds_toArray, List.set_cons_succ, List.set_cons_zero]
                    refine takeD14 (i := 6) (v := .bool false) (some 58) rfl rfl (by kernel_rfl) (by kernel_rfl) (by kernel_rfl) (fun _ _ _ h => absurd h.1 (by simp)) (.inl ⟨rfl, fun W _ => (by simp [go_sem, ha])⟩) (InS.of sx1) ?_
                    simp only [Act.put, List.setIfInBounds_toArray, List.set_cons_succ, List.set_cons_zero]
                    refine takeD14 (i := 7) (v := .bool false) (some 59) rfl rfl (by kernel_rfl) (by kernel_rfl) (by kernel_rfl) (fun _ _ _ h => absurd h.1 (by simp)) (.inl ⟨rfl, fun W _ => run_moveOp rfl _ _ _ rfl⟩) (InS.of sx1) ?_
                    simp only [Act.put, List.setIfInBounds_toArray, List.set_cons_succ, List.set_cons_zero]
                    refine takeD14 (i := 8) (v := .int .i64 p2) (some 60) rfl rfl (by kernel_rfl) (by kernel_rfl) (by kernel_rfl) (fun _ _ _ h => absurd h.1 (by simp)) (.inl ⟨rfl, fun W _ => run_moveOp rfl _ _ _ rfl⟩) (InS.of sx1) ?_
                    simp only [Act.put, List.setIfInBounds_toArray, List.set_cons_succ, List.set_cons_zero]
                    refine takeD14 (i := 9) (v := .bool true) (some 61) rfl rfl (by kernel_rfl) (by kernel_rfl) (by kernel_rfl) (fun _ _ _ h => absurd h.1 (by simp)) (.inl ⟨rfl, fun W _ => (by simp [go_sem, hz])⟩) (InS.of sx1) ?_
                    simp only [Act.put, List.setIfInBounds_toArray, List.set_cons_succ, List.set_cons_zero]
                    refine takeD14 (i := 10) (v := .bool true) (some 62) rfl rfl (by kernel_rfl) (by kernel_rfl) (by kernel_rfl) (fun _ _ _ h => absurd h.1 (by simp)) (.inl ⟨rfl, fun W _ => run_moveOp rfl _ _ _ rfl⟩) (InS.of sx1) ?_
                    simp only [Act.put, List.setIfInBounds_toArray, List.set_cons_succ, List.set_cons_zero]
                    refine takeD14 (i := 11) (v := (.slice (some ⟨g, off, none⟩) n capc)) (some 63) rfl rfl (by kernel_rfl) (by kernel_rfl) (by kernel_rfl) (fun _ _ _ h => absurd h.1 (by simp)) (.inl ⟨rfl, fun W _ => run_moveOp rfl _ _ _ rfl⟩) (InS.of sx1) ?_
                    simp only [Act.put, List.setIfInBounds_toArray, List.set_cons_succ, List.set_cons_zero]
                    refine takeD14 (i := 12) (v := .int .i64 p2) (some 64) rfl rfl (by kernel_rfl) (by kernel_rfl) (by kernel_rfl) (fun _ _ _ h => absurd h.1 (by simp)) (.inl ⟨rfl, fun W _ => run_moveOp rfl _ _ _ rfl⟩) (InS.of sx1) ?_
                    simp only [Act.put, List.setIfInBounds_toArray, List.set_cons_succ, List.set_cons_zero]
                    refine region_reads 14 3 4 rfl (by kernel_rfl) (by kernel_rfl) (by kernel_rfl) (by intro d v c a w h; exact absurd h.1 (by simp)) (InS.of sx1) ?_
                    simp only [List.drop_succ_cons, List.drop_zero, List.take_succ_cons, List.take_zero]
                    go_big_quiet_step (rfl)
                    go_big_quiet_step (rfl)
                    go_big_quiet_step (rfl)
                    refine wpQuiet_nil ?_
                    refine wpAnyH_all (rs := [13]) (by kernel_rfl) (by decide) ?_
                    intro i hi
                    obtain rfl := List.mem_singleton.1 hi
                    refine wpOp_call rfl rfl 23 #[.tmp 63, .tmp 64] (by intro b w; have hf := Try.func23; simp [go_sem]) #[(.slice (some ⟨g, off, none⟩) n capc), .int .i64 p2] rfl (fun v w' => v = .int .i64 v2 ∧ Below x1.heap.size x1 w') ((LOv2.out _ (h1)).mono fun e w' h => ⟨_, h.1, rfl, h.2⟩) (some 65) rfl ?_
                    rintro v x2 ⟨rfl, kx2⟩
                    have h2 : Below wr.heap.size wr x2 := h1.trans (kx2.mono h1.size)
                    have sx2 : x2.heap[gs]? = some (.cells (stA s) 24 (0, 0)) := (h2.block _ (Array.getElem?_eq_some_iff.1 HS.out).1).trans HS.out
                    refine ⟨InS.of sx2, ?_⟩
                    simp only [Act.put, List.setIfInBounds_toArray, List.set_cons_succ, List.set_cons_zero]
                    refine takeD14 (i := 17) (v := .bool false) (some 69) rfl rfl (by kernel_rfl) (by kernel_rfl) (by kernel_rfl) (fun _ _ _ h => absurd h.1 (by simp)) (.inl ⟨rfl, fun W _ => (by simp [go_sem, HB2])⟩) (InS.of sx2) ?_
                    simp only [Act.put, List.setIfInBounds_toArray, List.set_cons_succ, List.set_cons_zero]
                    refine takeD14 (i := 18) (v := .bool false) (some 70) rfl rfl (by kernel_rfl) (by kernel_rfl) (by kernel_rfl) (fun _ _ _ h => absurd h.1 (by simp)) (.inl ⟨rfl, fun W _ => (by simp [go_sem])⟩) (InS.of sx2) ?_
                    simp only [Act.put, List.setIfInBounds_toArray, List.set_cons_succ, List.set_cons_zero]
                    refine takeD14 (i := 19) (v := .bool false) (some 71) rfl rfl (by kernel_rfl) (by kernel_rfl) (by kernel_rfl) (fun _ _ _ h => absurd h.1 (by simp)) (.inl ⟨rfl, fun W _ => (by simp [go_sem])⟩) (InS.of sx2) ?_
                    simp only [Act.put, List.setIfInBounds_toArray, List.set_cons_succ, List.set_cons_zero]
                    refine wpAnyH_done (by kernel_rfl) ?_ _
                    exact ⟨rfl, _, _, _, _, _, _, _, _, _, _, _, _, _, _, _, _, _, _, _, rfl, h2⟩
                  rintro a' w9 ⟨y52, y53, y54, y55, y56, y57, y58, y59, y60, y61, y62, y63, y64, y65, y66, y67, y68, y69, y70, rfl, hb9⟩
                  have B9 : Hid (Below w.heap.size w w9) := HB.out.trans (hb9.mono HB.out.size)
                  have S9 : Hid (w9.heap[gs]? = some (.cells (stA s) 24 (0, 0))) := (hb9.block _ (Array.getElem?_eq_some_iff.1 HS.out).1).trans HS.out
                  clear hb9 HB HS
                  simp only [Act.put, List.setIfInBounds_toArray, List.set_cons_succ, List.set_cons_zero]
                  go_wp2_with fail
                  go_roundw
                  case rel => exact ⟨k + 1, by omega, by go_num, HK2, S9, B9⟩
                  case measure => simp [intOf]; omega
    · have hlt' : ¬ (k : Int) < (n : Int) := by omega
      obtain rfl : n = k := by omega
      have HF : Hid (RES = true) := by
        show _ = _
        rw [HRES.out]
        unfold fitsT
        rw [HLEN.out, Bool.true_and, List.all_eq_true]
        intro x hx
        obtain ⟨i, hi⟩ := List.mem_iff_getElem?.1 hx
        exact HK.out i x (by rw [HN.out]; exact (List.getElem?_eq_some_iff.1 hi).1) hi
      go_wp2_with fail
      go_ret
      exact ⟨by rw [HF.out]; rfl, HB.out⟩
end Go.Proofs.Ytpbinkmeldkehaa
