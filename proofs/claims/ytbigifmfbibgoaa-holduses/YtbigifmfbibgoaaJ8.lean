import Derived.Test.YtbigifmfbibgoaaJ6
import Derived.BigQuiet
namespace Go.Proofs.Ytbigifmfbibgoaa
open Go Go.RowKit
set_option maxRecDepth 20000

theorem two_law (h : HoldM) (x : ActH) : h.floor ≤ (doesH h x).1.floor ∧ h.top ≤ (doesH h x).1.top := by
  unfold doesH
  split
  · exact lead_mono h x.sent x.epoch x.floor
  · exact item_mono h x.floor x.epoch x.at_ x.of_
set_option maxHeartbeats 32000000 in
theorem lawHTwo_any (w : World) (v : Value) (A : List ActH) (hA : GSl ActHE actH w v A) (hok : ∀ x ∈ A, OkActH x) (ep : Int) :
    Calls Try.prog 4 #[v, .int .i64 ep] w fun e w' => e = .returned (.bool true) ∧ Below w.heap.size w w' := by
  have HW := awake18_any w
  have N1 : Hid (∀ W, Calls Try.prog 10 #[.int .i64 1] W fun x w' => x = .returned (.pointer (some ⟨W.heap.size, 0, none⟩)) ∧ HoldV w' W.heap.size (newH 1) ∧ Below W.heap.size W w') := fun W => newHold_any W 1
  obtain ⟨o, cap, hv, hc1, hc2⟩ := hA.slice
  have HA : Hid (GSl ActHE actH w v A) := hA
  have HK : Hid (∀ x ∈ A, OkActH x) := hok
  obtain ⟨q, hq⟩ : ∃ q, q = A.length := ⟨_, rfl⟩
  have HQ : Hid (q = A.length) := hq
  rw [← hq] at hv
  unfold maxLen at hc2
  have hq2 : q ≤ 9223372036854775807 := by omega
  clear hA hok hq hc1 hc2
  subst hv
  go_enter Try.func4, Try.ntmps4
  go_wp2_with (first
    | (go_at_call 9; refine HW.mono ?_; rintro e w1 ⟨rfl, hb1⟩)
    | (go_at_call 10; refine (N1.out _).mono ?_; rintro e w2 ⟨rfl, hV2, hb2⟩; refine of_stopT ?_))
  unfold StopT
  obtain ⟨g, hg⟩ : ∃ g, g = w1.heap.size := ⟨_, rfl⟩
  have HB2 : Hid (Below w.heap.size w w2) := below_step hb1 hb1.size hb2
  have HG : Hid (w.heap.size ≤ g) := by show _ ≤ _; rw [hg]; exact hb1.size
  rw [← hg] at hV2 ⊢
  have HV2 : Hid (HoldV w2 g (newH 1)) := hV2
  clear hV2 hb1 hb2 HW N1 hg
  go_wp2_with fail
  go_loopw [6, 7, 8] (fun s6 s7 s8 wr => ∃ (k : Nat) (h : HoldM), k ≤ q ∧ s8 = .int .i64 (k : Int) ∧ s6 = .int .i64 h.floor ∧ s7 = .int .i64 h.top ∧ Hid (HoldV wr g h) ∧ Hid (HoldIn h) ∧ k ≤ 80 ∧ Below w.heap.size w wr) (fun _ _ s8 _ => q - (intOf s8).toNat)
  case atStart => exact ⟨0, newH 1, Nat.zero_le _, rfl, rfl, rfl, HV2, (new_hoIn 1), Nat.zero_le _, HB2.out⟩
  case round =>
    obtain ⟨k, h, hk, rfl, rfl, rfl, HV, HI, h80, hb⟩ := hrel
    have HB : Hid (Below w.heap.size w wr) := hb
    clear hb
    by_cases hlt : k < q
    · have hlt' : (k : Int) < (q : Int) := by omega
      by_cases hl80 : k < 80
      · have hl80' : (k : Int) < 80 := by omega
        obtain ⟨g', off, cur, ty, fr, x, rfl, hg, hcc, hxk⟩ := HA.out.at k hlt
        have KG : Hid (wr.heap[g']? = some (.cells cur ty fr)) := (HB.out.block g' (Array.getElem?_eq_some_iff.1 hg).1).trans hg
        have H1 : Hid (∀ a, a < 6 → cur[off + k * 6 + a]? = (actH x)[a]?) := hcc
        have HX : Hid (OkActH x) := HK.out x (List.mem_of_getElem? hxk)
        have DO := does_any wr g h HV.out HI.out x HX.out
        have I1 : Hid (HoldIn (doesH h x).1) := does_in HI.out HX.out
        obtain ⟨m1, m2⟩ := two_law h x
        obtain ⟨h1, hh1⟩ : ∃ h1, h1 = (doesH h x).1 := ⟨_, rfl⟩
        rw [← hh1] at I1 DO m1 m2
        have m3 := I1.out.ok.le
        obtain ⟨f0, hf0⟩ : ∃ f0, f0 = h.floor := ⟨_, rfl⟩
        obtain ⟨t0, ht0⟩ : ∃ t0, t0 = h.top := ⟨_, rfl⟩
        obtain ⟨f1, hf1⟩ : ∃ f1, f1 = h1.floor := ⟨_, rfl⟩
        obtain ⟨t1, ht1⟩ : ∃ t1, t1 = h1.top := ⟨_, rfl⟩
        have HFT : Hid (f1 = h1.floor ∧ t1 = h1.top) := ⟨hf1, ht1⟩
        rw [← hf0, ← ht0]
        rw [← hf0, ← hf1] at m1
        rw [← ht0, ← ht1] at m2
        rw [← hf1, ← ht1] at m3
        have m1' : ¬ f1 < f0 := by omega
        have m2' : ¬ t1 < t0 := by omega
        have m3' : ¬ t1 < f1 := by omega
        have FT : Hid (∀ W, HoldV W g h1 → (Calls Try.prog 15 #[.pointer (some ⟨g, 0, none⟩)] W fun x w' => x = .returned (.int .i64 f1) ∧ w' = W) ∧ (Calls Try.prog 16 #[.pointer (some ⟨g, 0, none⟩)] W fun x w' => x = .returned (.int .i64 t1) ∧ w' = W)) := fun W hW => by
          rw [hf1, ht1]
          exact (own_any W g h1 hW).2
        clear hg hcc hxk hh1 hf0 ht0 hf1 ht1 m1 m2 m3
        go_wp2_with (first
          | (refine wl_loadE (E := ActHE) ActHOk rfl _ rfl g' (off + k * 6) rfl cur ty fr (actH x) rfl KG.out H1.out ?_)
          | (go_at_call 13; refine DO.mono ?_; rintro e w4 ⟨rfl, t4⟩; refine of_stopT ?_))
        unfold StopT
        have V4 : Hid (HoldV w4 g h1) := t4.1
        have B4 : Hid (Below w.heap.size w w4) := HB.out.trans (t4.belowH HG.out HB.out.size)
        obtain ⟨F4, P4⟩ := FT.out w4 t4.1
        clear t4 DO HV HI HB KG H1 HX
        go_wp2_with (first
          | (go_at_call 15; refine F4.mono ?_; rintro e w9 ⟨rfl, h9⟩; have h9 := h9.symm; subst h9)
          | (go_at_call 16; refine P4.mono ?_; rintro e w9 ⟨rfl, h9⟩; have h9 := h9.symm; subst h9))
        clear F4 P4
        have HRE : Hid (∀ j : Nat, j < q → ∃ y : ActH, ∀ W, Below w.heap.size w W → ActHF W g' (off + j * 6) y) := by
          intro j hj
          obtain ⟨g1, off1, cur1, ty1, fr1, y, e1, hg1, hcc1, _⟩ := HA.out.at j hj
          have e2 := Option.some.inj e1
          have e3 : g1 = g' := (congrArg Addr.block e2).symm
          have e4 : off1 = off := (congrArg Addr.off e2).symm
          subst e3
          subst e4
          exact ⟨y, fun W hb => acthf_of ((hb.block g1 (Array.getElem?_eq_some_iff.1 hg1).1).trans hg1) hcc1⟩
        obtain ⟨wo, hwo⟩ : ∃ wo : World, wo = w4 := ⟨_, rfl⟩
        go_loopw [9] (fun s9 wi => ∃ j : Nat, j ≤ k + 1 ∧ s9 = .int .i64 ((j : Int) - 1) ∧ Hid (HoldV wi g h1) ∧ Below w.heap.size w wi) (fun s9 _ => (k + 1) - (intOf s9 + 1).toNat)
        case atStart => exact ⟨0, Nat.zero_le _, rfl, V4, B4.out⟩
        case round =>
          obtain ⟨j, hj, rfl, HVi, hbi⟩ := hrel
          have HBi : Hid (Below w.heap.size w wr) := hbi
          clear hbi
          by_cases hjk : j < k + 1
          · have hjk' : (j : Int) - 1 < (k : Int) := by omega
            by_cases j0 : j = 0
            · subst j0
              rw [show ((0 : Nat) : Int) - 1 = -1 from rfl] at hjk' ⊢
              have CO := countH_any wr g h1 HVi.out ep
              have fw := I1.out.ok.few ep
              have tw := I1.out.ok.two ep
              obtain ⟨n, hn⟩ : ∃ n, n = (h1.cnt ep).1 := ⟨_, rfl⟩
              obtain ⟨m, hm⟩ : ∃ m, m = (h1.cnt ep).2 := ⟨_, rfl⟩
              rw [← hn, ← hm] at CO fw
              rw [← hn] at tw
              rw [← HFT.out.1, ← HFT.out.2] at tw
              have fw' : ¬ (n : Int) > m := by omega
              have nn' : ¬ (n : Int) < 0 := by omega
              have TW : Hid (0 < n → ep = f1 ∨ ep = t1) := fun hp => (tw hp).1
              clear hn hm fw tw 
              by_cases p0 : 0 < n
              · have p0' : (n : Int) > 0 := by omega
                by_cases p1 : ep = f1
                · have p1' : (ep != f1) = false := by simpa using p1
                  clear p1
                  go_wp2_with (go_at_call 20; refine CO.mono ?_; rintro e w5 ⟨rfl, b5⟩; refine of_stopT ?_)
                  unfold StopT
                  have V5 : Hid (HoldV w5 g h1) := HVi.out.below b5
                  have B5 : Hid (Below w.heap.size w w5) := below_step HBi.out HBi.out.size b5
                  clear b5 CO
                  go_wp2_with fail
                  go_roundw
                  case rel => exact ⟨1, by omega, rfl, V5, B5.out⟩
                  case measure => first | (simp [intOf]; omega) | simp [intOf]
                · have p1' : (ep != f1) = true := by simpa using p1
                  have p2' : (ep != t1) = false := by simpa using (TW.out p0).resolve_left p1
                  clear p1
                  go_wp2_with (go_at_call 20; refine CO.mono ?_; rintro e w5 ⟨rfl, b5⟩; refine of_stopT ?_)
                  unfold StopT
                  have V5 : Hid (HoldV w5 g h1) := HVi.out.below b5
                  have B5 : Hid (Below w.heap.size w w5) := below_step HBi.out HBi.out.size b5
                  clear b5 CO
                  go_wp2_with fail
                  go_roundw
                  case rel => exact ⟨1, by omega, rfl, V5, B5.out⟩
                  case measure => first | (simp [intOf]; omega) | simp [intOf]
              · have p0' : ¬ (n : Int) > 0 := by omega
                go_wp2_with (go_at_call 20; refine CO.mono ?_; rintro e w5 ⟨rfl, b5⟩; refine of_stopT ?_)
                unfold StopT
                have V5 : Hid (HoldV w5 g h1) := HVi.out.below b5
                have B5 : Hid (Below w.heap.size w w5) := below_step HBi.out HBi.out.size b5
                clear b5 CO
                go_wp2_with fail
                go_roundw
                case rel => exact ⟨1, by omega, rfl, V5, B5.out⟩
                case measure => first | (simp [intOf]; omega) | simp [intOf]
            · obtain ⟨y, hy⟩ := HRE.out (j - 1) (by omega)
              have c2 := (hy wr HBi.out).c2
              obtain ⟨e, he⟩ : ∃ e, e = y.epoch := ⟨_, rfl⟩
              rw [← he] at c2
              obtain ⟨i, hi⟩ : ∃ i, i = j - 1 := ⟨_, rfl⟩
              have hji : (j : Int) - 1 = (i : Int) := by omega
              rw [← hi] at c2
              rw [hji] at hjk' ⊢
              have hik : i < q := by omega
              have hik' : (i : Int) < (q : Int) := by omega
              have hjw : (j : Int) = (i : Int) + 1 := by omega
              have HJW : Hid ((j : Int) = (i : Int) + 1) := hjw
              have z0 : (i : Int) ≥ 0 := by omega
              clear hi hy he hjw hji
              have CO := countH_any wr g h1 HVi.out e
              have fw := I1.out.ok.few e
              have tw := I1.out.ok.two e
              obtain ⟨n, hn⟩ : ∃ n, n = (h1.cnt e).1 := ⟨_, rfl⟩
              obtain ⟨m, hm⟩ : ∃ m, m = (h1.cnt e).2 := ⟨_, rfl⟩
              rw [← hn, ← hm] at CO fw
              rw [← hn] at tw
              rw [← HFT.out.1, ← HFT.out.2] at tw
              have fw' : ¬ (n : Int) > m := by omega
              have nn' : ¬ (n : Int) < 0 := by omega
              have TW : Hid (0 < n → e = f1 ∨ e = t1) := fun hp => (tw hp).1
              clear hn hm fw tw 
              by_cases p0 : 0 < n
              · have p0' : (n : Int) > 0 := by omega
                by_cases p1 : e = f1
                · have p1' : (e != f1) = false := by simpa using p1
                  clear p1
                  go_wp2_with (go_at_call 20; refine CO.mono ?_; rintro e w5 ⟨rfl, b5⟩; refine of_stopT ?_)
                  unfold StopT
                  have V5 : Hid (HoldV w5 g h1) := HVi.out.below b5
                  have B5 : Hid (Below w.heap.size w w5) := below_step HBi.out HBi.out.size b5
                  clear b5 CO
                  go_wp2_with fail
                  go_roundw
                  case rel => exact ⟨j + 1, by omega, by rw [show ((j + 1 : Nat) : Int) - 1 = (i : Int) + 1 by have := HJW.out; omega], V5, B5.out⟩
                  case measure => first | (simp [intOf]; omega) | simp [intOf]
                · have p1' : (e != f1) = true := by simpa using p1
                  have p2' : (e != t1) = false := by simpa using (TW.out p0).resolve_left p1
                  clear p1
                  go_wp2_with (go_at_call 20; refine CO.mono ?_; rintro e w5 ⟨rfl, b5⟩; refine of_stopT ?_)
                  unfold StopT
                  have V5 : Hid (HoldV w5 g h1) := HVi.out.below b5
                  have B5 : Hid (Below w.heap.size w w5) := below_step HBi.out HBi.out.size b5
                  clear b5 CO
                  go_wp2_with fail
                  go_roundw
                  case rel => exact ⟨j + 1, by omega, by rw [show ((j + 1 : Nat) : Int) - 1 = (i : Int) + 1 by have := HJW.out; omega], V5, B5.out⟩
                  case measure => first | (simp [intOf]; omega) | simp [intOf]
              · have p0' : ¬ (n : Int) > 0 := by omega
                go_wp2_with (go_at_call 20; refine CO.mono ?_; rintro e w5 ⟨rfl, b5⟩; refine of_stopT ?_)
                unfold StopT
                have V5 : Hid (HoldV w5 g h1) := HVi.out.below b5
                have B5 : Hid (Below w.heap.size w w5) := below_step HBi.out HBi.out.size b5
                clear b5 CO
                go_wp2_with fail
                go_roundw
                case rel => exact ⟨j + 1, by omega, by rw [show ((j + 1 : Nat) : Int) - 1 = (i : Int) + 1 by have := HJW.out; omega], V5, B5.out⟩
                case measure => first | (simp [intOf]; omega) | simp [intOf]
          · have hjk' : ¬ (j : Int) - 1 < (k : Int) := by omega
            go_wp2_with fail
            go_roundw
            case rel => exact ⟨k + 1, h1, by omega, by go_num, by rw [HFT.out.1], by rw [HFT.out.2], HVi, I1, by omega, HBi.out⟩
            case measure => simp [intOf]; omega
      · have hl80' : ¬ (k : Int) < 80 := by omega
        go_wp2_with fail
        go_ret
        exact ⟨rfl, HB.out⟩
    · have hlt' : ¬ (k : Int) < (q : Int) := by omega
      go_wp2_with fail
      go_ret
      exact ⟨rfl, HB.out⟩
end Go.Proofs.Ytbigifmfbibgoaa
namespace Go.Proofs.Ytbigifmfbibgoaa
open Go Go.RowKit
set_option maxRecDepth 20000

theorem uses_law {h : HoldM} (hi : HoldIn h) (x : ActH) : ((doesH h x).1.use ≠ h.use → (doesH h x).1.use ≠ 0 → x.lead = true ∧ x.epoch = (doesH h x).1.use ∧ ¬ (doesH h x).1.use < h.use) ∧
    ((doesH h x).1.use = 0 → h.use ≠ 0 → h.use ≠ (doesH h x).1.floor ∧ h.use ≠ (doesH h x).1.top) := by
  unfold doesH
  split
  · rename_i hl
    have := lead_law hi.ok x.sent x.epoch x.floor
    exact ⟨fun h1 h2 => ⟨hl, (this.1 h1 h2).1.symm, by have := this.1 h1 h2; dsimp only; omega⟩, this.2⟩
  · have := useTo_law (item_use hi.ok x.floor x.epoch x.at_ x.of_)
    exact ⟨fun h1 h2 => absurd (this.1 h1) h2, this.2⟩
set_option maxHeartbeats 32000000 in
theorem lawHUses_any (w : World) (v : Value) (A : List ActH) (hA : GSl ActHE actH w v A) (hok : ∀ x ∈ A, OkActH x) :
    Calls Try.prog 5 #[v] w fun e w' => e = .returned (.bool true) ∧ Below w.heap.size w w' := by
  have HW := awake18_any w
  have N1 : Hid (∀ W, Calls Try.prog 10 #[.int .i64 1] W fun x w' => x = .returned (.pointer (some ⟨W.heap.size, 0, none⟩)) ∧ HoldV w' W.heap.size (newH 1) ∧ Below W.heap.size W w') := fun W => newHold_any W 1
  obtain ⟨o, cap, hv, hc1, hc2⟩ := hA.slice
  have HA : Hid (GSl ActHE actH w v A) := hA
  have HK : Hid (∀ x ∈ A, OkActH x) := hok
  obtain ⟨q, hq⟩ : ∃ q, q = A.length := ⟨_, rfl⟩
  have HQ : Hid (q = A.length) := hq
  rw [← hq] at hv
  unfold maxLen at hc2
  have hq2 : q ≤ 9223372036854775807 := by omega
  clear hA hok hq hc1 hc2
  subst hv
  go_enter Try.func5, Try.ntmps5
  go_wp2_with (first
    | (go_at_call 9; refine HW.mono ?_; rintro e w1 ⟨rfl, hb1⟩)
    | (go_at_call 10; refine (N1.out _).mono ?_; rintro e w2 ⟨rfl, hV2, hb2⟩; refine of_stopT ?_))
  unfold StopT
  obtain ⟨g, hg⟩ : ∃ g, g = w1.heap.size := ⟨_, rfl⟩
  have HB2 : Hid (Below w.heap.size w w2) := below_step hb1 hb1.size hb2
  have HG : Hid (w.heap.size ≤ g) := by show _ ≤ _; rw [hg]; exact hb1.size
  rw [← hg] at hV2 ⊢
  have HV2 : Hid (HoldV w2 g (newH 1)) := hV2
  clear hV2 hb1 hb2 HW N1 hg
  go_wp2_with fail
  go_loopw [4] (fun s4 wr => ∃ (k : Nat) (h : HoldM), k ≤ q ∧ s4 = .int .i64 (k : Int) ∧ Hid (HoldV wr g h) ∧ Hid (HoldIn h) ∧ k ≤ 80 ∧ Below w.heap.size w wr) (fun s4 _ => q - (intOf s4).toNat)
  case atStart => exact ⟨0, _, Nat.zero_le _, rfl, HV2, (new_hoIn 1), Nat.zero_le _, HB2.out⟩
  case round =>
    obtain ⟨k, h, hk, rfl, HV, HI, h80, hb⟩ := hrel
    have HB : Hid (Below w.heap.size w wr) := hb
    clear hb
    by_cases hlt : k < q
    · have hlt' : (k : Int) < (q : Int) := by omega
      by_cases hl80 : k < 80
      · have hl80' : (k : Int) < 80 := by omega
        obtain ⟨g', off, cur, ty, fr, x, rfl, hg, hcc, hxk⟩ := HA.out.at k hlt
        have KG : Hid (wr.heap[g']? = some (.cells cur ty fr)) := (HB.out.block g' (Array.getElem?_eq_some_iff.1 hg).1).trans hg
        have H1 : Hid (∀ a, a < 6 → cur[off + k * 6 + a]? = (actH x)[a]?) := hcc
        have HL : Hid (∀ W, Below w.heap.size w W → ActHF W g' (off + k * 6) x) := fun W hb => acthf_of ((hb.block g' (Array.getElem?_eq_some_iff.1 hg).1).trans hg) hcc
        have HX : Hid (OkActH x) := HK.out x (List.mem_of_getElem? hxk)
        have U1 := useHo_any wr g h HV.out
        have DO := does_any wr g h HV.out HI.out x HX.out
        have I1 : Hid (HoldIn (doesH h x).1) := does_in HI.out HX.out
        have UL := uses_law HI.out x
        obtain ⟨h1, hh1⟩ : ∃ h1, h1 = (doesH h x).1 := ⟨_, rfl⟩
        rw [← hh1] at I1 DO UL
        obtain ⟨wz, hwz⟩ : ∃ wz, wz = h.use := ⟨_, rfl⟩
        obtain ⟨nz, hnz⟩ : ∃ nz, nz = h1.use := ⟨_, rfl⟩
        rw [← hwz, ← hnz] at UL
        rw [← hwz] at U1
        have HNEW : Hid (nz ≠ wz → nz ≠ 0 → x.lead = true ∧ x.epoch = nz ∧ ¬ nz < wz) := UL.1
        have HGONE : Hid (nz = 0 → wz ≠ 0 → wz ≠ h1.floor ∧ wz ≠ h1.top) := UL.2
        have HFULL : Hid (nz ≠ 0 → fullH h1 nz = true) := by
          show _ → _
          rw [hnz]
          exact I1.out.ok.uses
        have HNZ : Hid (nz = h1.use) := hnz
        clear hg hcc hxk hh1 hwz hnz UL
        go_wp2_with (first
          | (go_at_call 17; refine U1.mono ?_; rintro e w9 ⟨rfl, h9⟩; have h9 := h9.symm; subst h9)
          | (refine wl_loadE (E := ActHE) ActHOk rfl _ rfl g' (off + k * 6) rfl cur ty fr (actH x) rfl KG.out H1.out ?_)
          | (go_at_call 13; refine DO.mono ?_; rintro e w4 ⟨rfl, t4⟩; refine of_stopT ?_))
        unfold StopT
        have V4 : Hid (HoldV w4 g h1) := t4.1
        have B4 : Hid (Below w.heap.size w w4) := HB.out.trans (t4.belowH HG.out HB.out.size)
        have U4 := useHo_any w4 g h1 t4.1
        rw [← HNZ.out] at U4
        clear t4 U1 DO HV HI HB KG H1 HX
        by_cases n0 : nz = 0
        · by_cases e1 : nz = wz
          · subst n0
            subst e1
            go_wp2_with (go_at_call 17; refine U4.mono ?_; rintro e w9 ⟨rfl, h9⟩; have h9 := h9.symm; subst h9)
            go_roundw
            case rel => exact ⟨k + 1, h1, by omega, by go_num, V4, I1, by omega, B4.out⟩
            case measure => simp [intOf]; omega
          · obtain ⟨y1, y2⟩ := HGONE.out n0 (fun z => e1 (n0.trans z.symm))
            have z0 : (wz != 0) = true := by
              simp only [bne_iff_ne, ne_eq]
              exact fun z => e1 (n0.trans z.symm)
            subst n0
            have e1' : ((0 : Int) != wz) = true := by
              simp only [bne_iff_ne, ne_eq]
              exact e1
            have FL := (own_any w4 g h1 V4.out).2.1
            have TP := (own_any w4 g h1 V4.out).2.2
            have y1' : (wz == h1.floor) = false := by simpa using y1
            have y2' : (wz == h1.top) = false := by simpa using y2
            clear e1 y1 y2
            go_wp2_with (first
              | (go_at_call 17; refine U4.mono ?_; rintro e w9 ⟨rfl, h9⟩; have h9 := h9.symm; subst h9)
              | (go_at_call 15; refine FL.mono ?_; rintro e w9 ⟨rfl, h9⟩; have h9 := h9.symm; subst h9)
              | (go_at_call 16; refine TP.mono ?_; rintro e w9 ⟨rfl, h9⟩; have h9 := h9.symm; subst h9))
            go_roundw
            case rel => exact ⟨k + 1, h1, by omega, by go_num, V4, I1, by omega, B4.out⟩
            case measure => simp [intOf]; omega
        · by_cases e1 : nz = wz
          · subst e1
            have n0' : (nz != 0) = true := by simpa using n0
            have n0q : (nz == 0) = false := by simpa using n0
            have FU := fullH_any w4 g h1 V4.out nz
            rw [HFULL.out (by simpa using n0)] at FU
            clear n0
            go_wp2_with (first
              | (go_at_call 17; refine U4.mono ?_; rintro e w9 ⟨rfl, h9⟩; have h9 := h9.symm; subst h9)
              | (go_at_call 22; refine FU.mono ?_; rintro e w5 ⟨rfl, b5⟩; refine of_stopT ?_))
            unfold StopT
            have V5 : Hid (HoldV w5 g h1) := V4.out.below b5
            have B5 : Hid (Below w.heap.size w w5) := below_step B4.out B4.out.size b5
            have k0 := (HL.out w5 B5.out).c0
            have k2 := (HL.out w5 B5.out).c2
            clear b5 FU
            go_wp2_with fail
            go_roundw
            case rel => exact ⟨k + 1, h1, by omega, by go_num, V5, I1, by omega, B5.out⟩
            case measure => simp [intOf]; omega
          · obtain ⟨y1, y2, y3⟩ := HNEW.out e1 n0
            have e1' : (nz != wz) = true := by simpa using e1
            have n0' : (nz != 0) = true := by simpa using n0
            have n0q : (nz == 0) = false := by simpa using n0
            clear e1
            have FU := fullH_any w4 g h1 V4.out nz
            rw [HFULL.out (by simpa using n0)] at FU
            clear n0
            go_wp2_with (first
              | (go_at_call 17; refine U4.mono ?_; rintro e w9 ⟨rfl, h9⟩; have h9 := h9.symm; subst h9)
              | (go_at_call 22; refine FU.mono ?_; rintro e w5 ⟨rfl, b5⟩; refine of_stopT ?_))
            unfold StopT
            have V5 : Hid (HoldV w5 g h1) := V4.out.below b5
            have B5 : Hid (Below w.heap.size w w5) := below_step B4.out B4.out.size b5
            have k0 := (HL.out w5 B5.out).c0
            have k2 := (HL.out w5 B5.out).c2
            rw [y1] at k0
            rw [y2] at k2
            clear y1 y2
            clear b5 FU
            go_wp2_with fail
            go_roundw
            case rel => exact ⟨k + 1, h1, by omega, by go_num, V5, I1, by omega, B5.out⟩
            case measure => simp [intOf]; omega
      · have hl80' : ¬ (k : Int) < 80 := by omega
        go_wp2_with fail
        go_ret
        exact ⟨rfl, HB.out⟩
    · have hlt' : ¬ (k : Int) < (q : Int) := by omega
      go_wp2_with fail
      go_ret
      exact ⟨rfl, HB.out⟩
end Go.Proofs.Ytbigifmfbibgoaa
namespace Go.Proofs.Ytbigifmfbibgoaa
open Go Go.RowKit
set_option maxRecDepth 20000

def PL (T : List ActH) (u s : Int) : Prop := ∃ x ∈ T, x.lead = true ∧ x.epoch = u ∧ x.sent = s ∧ 0 ≤ s
def pB (us now lease : Int) (x : ActH) : Bool := x.lead && (x.epoch == us && (decide (x.sent ≥ 0) && (decide (x.sent > 2199023255552) || decide (now - x.sent < lease))))
theorem PL.mono {T T' : List ActH} (h : ∀ x ∈ T, x ∈ T') {u s : Int} (hp : PL T u s) : PL T' u s := by
  obtain ⟨x, h1, h2⟩ := hp
  exact ⟨x, h x h1, h2⟩
theorem led_does {h : HoldM} (hi : HoldIn h) {T : List ActH} (hl : ledBy (PL T) h) (x : ActH) : ledBy (PL (T ++ [x])) (doesH h x).1 := by
  have h1 : ledBy (PL (T ++ [x])) h := fun h0 => (hl h0).mono fun y hy => List.mem_append_left _ hy
  unfold doesH
  split
  · rename_i hx
    exact lead_led hi.ok h1 fun h0 => ⟨x, by simp, hx, rfl, rfl, h0⟩
  · exact useTo_led (item_use hi.ok _ _ _ _) h1
theorem live_any_found {h : HoldM} {T : List ActH} (hl : ledBy (PL T) h) {now lease : Int} (h0 : 0 ≤ now) (h1 : now ≤ 1099511627776) (hv : liveH h now lease = true) : T.any (pB h.use now lease) = true := by
  obtain ⟨s, ⟨x, hx, a1, a2, a3, a4⟩, hs⟩ := live_led hl h0 h1 hv
  rw [List.any_eq_true]
  refine ⟨x, hx, ?_⟩
  subst a3
  unfold pB
  simp [a1, a2, a4, hs]
theorem takeG {α : Type} {l : List α} {k : Nat} {x : α} (h : l[k]? = some x) : l.take (k + 1) = l.take k ++ [x] := by
  rw [List.take_add_one, h]
  rfl
set_option maxHeartbeats 32000000 in
theorem lawHLease_any (w : World) (v : Value) (A : List ActH) (hA : GSl ActHE actH w v A) (hok : ∀ x ∈ A, OkActH x) (now lease : Int) :
    Calls Try.prog 6 #[v, .int .i64 now, .int .i64 lease] w fun e w' => e = .returned (.bool true) ∧ Below w.heap.size w w' := by
  have HW := awake18_any w
  have N1 : Hid (∀ W, Calls Try.prog 10 #[.int .i64 1] W fun x w' => x = .returned (.pointer (some ⟨W.heap.size, 0, none⟩)) ∧ HoldV w' W.heap.size (newH 1) ∧ Below W.heap.size W w') := fun W => newHold_any W 1
  obtain ⟨o, cap, hv, hc1, hc2⟩ := hA.slice
  have HA : Hid (GSl ActHE actH w v A) := hA
  have HK : Hid (∀ x ∈ A, OkActH x) := hok
  obtain ⟨q, hq⟩ : ∃ q, q = A.length := ⟨_, rfl⟩
  have HQ : Hid (q = A.length) := hq
  rw [← hq] at hv
  unfold maxLen at hc2
  have hq2 : q ≤ 9223372036854775807 := by omega
  clear hA hok hq hc1 hc2
  subst hv
  by_cases hn : now < 0 ∨ now > 1099511627776
  · by_cases hn1 : now < 0
    · clear hn
      go_enter Try.func6, Try.ntmps6
      go_wp2_with (go_at_call 9; refine HW.mono ?_; rintro e w1 ⟨rfl, hb1⟩)
      go_ret
      exact ⟨rfl, hb1⟩
    · have hn2 : now > 1099511627776 := by omega
      clear hn
      go_enter Try.func6, Try.ntmps6
      go_wp2_with (go_at_call 9; refine HW.mono ?_; rintro e w1 ⟨rfl, hb1⟩)
      go_ret
      exact ⟨rfl, hb1⟩
  have hn1 : ¬ now < 0 := by omega
  have hn2 : ¬ now > 1099511627776 := by omega
  have HN01 : Hid (0 ≤ now ∧ now ≤ 1099511627776) := ⟨by omega, by omega⟩
  clear hn
  go_enter Try.func6, Try.ntmps6
  go_wp2_with (first
    | (go_at_call 9; refine HW.mono ?_; rintro e w1 ⟨rfl, hb1⟩)
    | (go_at_call 10; refine (N1.out _).mono ?_; rintro e w2 ⟨rfl, hV2, hb2⟩; refine of_stopT ?_))
  unfold StopT
  obtain ⟨g, hg⟩ : ∃ g, g = w1.heap.size := ⟨_, rfl⟩
  have HB2 : Hid (Below w.heap.size w w2) := below_step hb1 hb1.size hb2
  have HG : Hid (w.heap.size ≤ g) := by show _ ≤ _; rw [hg]; exact hb1.size
  rw [← hg] at hV2 ⊢
  have HV2 : Hid (HoldV w2 g (newH 1)) := hV2
  clear hV2 hb1 hb2 HW N1 hg
  go_wp2_with fail
  go_loopw [8] (fun s8 wr => ∃ (k : Nat) (h : HoldM), k ≤ q ∧ s8 = .int .i64 (k : Int) ∧ Hid (HoldV wr g h) ∧ Hid (HoldIn h) ∧ Hid (ledBy (PL (A.take k)) h) ∧ k ≤ 80 ∧ Below w.heap.size w wr) (fun s8 _ => q - (intOf s8).toNat)
  case atStart => exact ⟨0, newH 1, Nat.zero_le _, rfl, HV2, (new_hoIn 1), (fun h0 => absurd rfl h0), Nat.zero_le _, HB2.out⟩
  case round =>
    obtain ⟨k, h, hk, rfl, HV, HI, HLED, h80, hb⟩ := hrel
    have HB : Hid (Below w.heap.size w wr) := hb
    clear hb
    by_cases hlt : k < q
    · have hlt' : (k : Int) < (q : Int) := by omega
      by_cases hl80 : k < 80
      · have hl80' : (k : Int) < 80 := by omega
        obtain ⟨g', off, cur, ty, fr, x, rfl, hg, hcc, hxk⟩ := HA.out.at k hlt
        have KG : Hid (wr.heap[g']? = some (.cells cur ty fr)) := (HB.out.block g' (Array.getElem?_eq_some_iff.1 hg).1).trans hg
        have H1 : Hid (∀ a, a < 6 → cur[off + k * 6 + a]? = (actH x)[a]?) := hcc
        have HX : Hid (OkActH x) := HK.out x (List.mem_of_getElem? hxk)
        have DO := does_any wr g h HV.out HI.out x HX.out
        have I1 : Hid (HoldIn (doesH h x).1) := does_in HI.out HX.out
        have LED1 : Hid (ledBy (PL (A.take (k + 1))) (doesH h x).1) := by
          show ledBy _ _
          rw [takeG hxk]
          exact led_does HI.out HLED.out x
        obtain ⟨h1, hh1⟩ : ∃ h1, h1 = (doesH h x).1 := ⟨_, rfl⟩
        rw [← hh1] at I1 DO LED1
        obtain ⟨lv, hlv⟩ : ∃ lv, lv = liveH h1 now lease := ⟨_, rfl⟩
        obtain ⟨us, hus⟩ : ∃ us, us = h1.use := ⟨_, rfl⟩
        have FND : Hid (lv = true → (A.take (k + 1)).any (pB us now lease) = true) := by
          show _ → _
          rw [hlv, hus]
          exact live_any_found LED1.out HN01.out.1 HN01.out.2
        have LV : Hid (∀ W, HoldV W g h1 → Calls Try.prog 18 #[.pointer (some ⟨g, 0, none⟩), .int .i64 now, .int .i64 lease] W fun x w' => x = .returned (.bool lv) ∧ w' = W) := fun W hW => by
          rw [hlv]
          exact live_any W g h1 hW I1.out.ok I1.out.b now lease
        have US : Hid (∀ W, HoldV W g h1 → Calls Try.prog 17 #[.pointer (some ⟨g, 0, none⟩)] W fun x w' => x = .returned (.int .i64 us) ∧ w' = W) := fun W hW => by
          rw [hus]
          exact useHo_any W g h1 hW
        clear hg hcc hxk hh1 hlv hus
        go_wp2_with (first
          | (refine wl_loadE (E := ActHE) ActHOk rfl _ rfl g' (off + k * 6) rfl cur ty fr (actH x) rfl KG.out H1.out ?_)
          | (go_at_call 13; refine DO.mono ?_; rintro e w4 ⟨rfl, t4⟩; refine of_stopT ?_))
        unfold StopT
        have V4 : Hid (HoldV w4 g h1) := t4.1
        have B4 : Hid (Below w.heap.size w w4) := HB.out.trans (t4.belowH HG.out HB.out.size)
        have L4 := LV.out w4 t4.1
        clear t4 DO HV HI HB KG H1 HX HLED
        cases lv
        · go_wp2_with (go_at_call 18; refine L4.mono ?_; rintro e w9 ⟨rfl, h9⟩; have h9 := h9.symm; subst h9)
          go_roundw
          case rel => exact ⟨k + 1, h1, by omega, by go_num, V4, I1, LED1, by omega, B4.out⟩
          case measure => simp [intOf]; omega
        · have FND2 : Hid ((A.take (k + 1)).any (pB us now lease) = true) := FND.out rfl
          clear FND
          go_wp2_with (go_at_call 18; refine L4.mono ?_; rintro e w9 ⟨rfl, h9⟩; have h9 := h9.symm; subst h9)
          clear L4 LV
          have HRE : Hid (∀ j : Nat, j < q → ∃ y : ActH, A[j]? = some y ∧ OkActH y ∧ ∀ W, Below w.heap.size w W → ActHF W g' (off + j * 6) y) := by
            intro j hj
            obtain ⟨g1, off1, cur1, ty1, fr1, y, e1, hg1, hcc1, hy1⟩ := HA.out.at j hj
            have e2 := Option.some.inj e1
            have e3 : g1 = g' := (congrArg Addr.block e2).symm
            have e4 : off1 = off := (congrArg Addr.off e2).symm
            subst e3
            subst e4
            exact ⟨y, hy1, HK.out y (List.mem_of_getElem? hy1), fun W hb => acthf_of ((hb.block g1 (Array.getElem?_eq_some_iff.1 hg1).1).trans hg1) hcc1⟩
          obtain ⟨wo, hwo⟩ : ∃ wo : World, wo = w4 := ⟨_, rfl⟩
          go_loopw [9, 10] (fun s9 s10 wi => ∃ (j : Nat) (b : Bool), j ≤ k + 1 ∧ s10 = .int .i64 (j : Int) ∧ s9 = .bool b ∧ Hid (b = (A.take j).any (pB us now lease)) ∧ Hid (HoldV wi g h1) ∧ Below w.heap.size w wi) (fun _ s10 _ => (k + 1) - (intOf s10).toNat)
          case atStart => exact ⟨0, false, Nat.zero_le _, rfl, rfl, by show _ = _; simp, V4, B4.out⟩
          case round =>
            obtain ⟨j, b, hj, rfl, rfl, HBA, HVi, hbi⟩ := hrel
            have HBi : Hid (Below w.heap.size w wr) := hbi
            clear hbi
            by_cases hjk : j < k + 1
            · have hjk' : (j : Int) ≤ (k : Int) := by omega
              obtain ⟨y, hyj, hyo, hy⟩ := HRE.out j (by omega)
              have HNX : Hid (∀ c, c = pB us now lease y → (b || c) = (A.take (j + 1)).any (pB us now lease)) := by
                intro c hc
                rw [takeG hyj, List.any_append, ← HBA.out, hc]
                simp
              have HPB : Hid (pB us now lease y = (y.lead && (y.epoch == us && (decide (y.sent ≥ 0) && (decide (y.sent > 2199023255552) || decide (now - y.sent < lease)))))) := rfl
              obtain ⟨yl, hyl⟩ : ∃ yl, yl = y.lead := ⟨_, rfl⟩
              obtain ⟨ye, hye⟩ : ∃ ye, ye = y.epoch := ⟨_, rfl⟩
              obtain ⟨ys, hys⟩ : ∃ ys, ys = y.sent := ⟨_, rfl⟩
              obtain ⟨pv, hpv⟩ : ∃ pv, pv = pB us now lease y := ⟨_, rfl⟩
              rw [← hyl, ← hye, ← hys, ← hpv] at HPB
              have HPV : Hid (pv = pB us now lease y) := hpv
              have ys2 : ys ≤ 9223372036854775807 := by rw [hys]; exact hyo.2
              have c0 : ∀ m, (wr.drewN m).cell? ⟨g', off + j * 6, none⟩ = some (.bool yl) := fun m => by rw [hyl]; exact (hy _ (below_drewN HBi.out m)).c0
              have c2 : ∀ m, (wr.drewN m).cell? ⟨g', off + j * 6 + 2, none⟩ = some (.int .i64 ye) := fun m => by rw [hye]; exact (hy _ (below_drewN HBi.out m)).c2
              have c5 : ∀ m, (wr.drewN m).cell? ⟨g', off + j * 6 + 5, none⟩ = some (.int .i64 ys) := fun m => by rw [hys]; exact (hy _ (below_drewN HBi.out m)).c5
              have UU : Hid (∀ m, Calls Try.prog 17 #[.pointer (some ⟨g, 0, none⟩)] (wr.drewN m) fun e w' => e = .returned (.int .i64 us) ∧ w' = wr.drewN m) := fun m => US.out (wr.drewN m) (HVi.out.below (below_drewN (Below.refl _ _) m))
              have z1 : ¬ (j : Int) < 0 := by omega
              have hjq : (j : Int) < (q : Int) := by omega
              have z2 : decide ((j : Int) < (q : Int)) = true := decide_eq_true hjq
              clear hyj hyo hy hyl hye hys hpv hjq
              cases b
              · cases yl
                · have NX : Hid (false = (A.take (j + 1)).any (pB us now lease)) := by
                    have e := HNX.out pv HPV.out
                    rw [show pv = false by rw [HPB.out]; simp [*]] at e
                    exact e
                  go_wp2_with fail
                  go_quiet (first | (go_at_call 17; exact Calls.quiet_of_same (UU.out _)))
                  have HV9 : Hid (HoldV (wr.drewN nq) g h1) := HVi.out.below (below_drewN (Below.refl _ _) nq)
                  have HB9 : Hid (Below w.heap.size w (wr.drewN nq)) := below_drewN HBi.out nq
                  go_wp2_with fail
                  go_roundw
                  case rel => exact ⟨j + 1, false, by omega, by go_num, by trivial, NX, HV9, HB9.out⟩
                  case measure => simp [intOf]; omega
                · by_cases p1 : ye = us
                  · have p1' : (ye == us) = true := by simpa using p1
                    by_cases p2 : ys ≥ 0
                    · have p2' : decide (ys ≥ 0) = true := decide_eq_true p2
                      by_cases p3 : ys > 2199023255552
                      · have p3' : decide (ys > 2199023255552) = true := decide_eq_true p3
                        have NX : Hid (true = (A.take (j + 1)).any (pB us now lease)) := by
                          have e := HNX.out pv HPV.out
                          rw [show pv = true by rw [HPB.out]; simp [*]] at e
                          exact e
                        clear p1 p2 p3
                        go_wp2_with fail
                        go_quiet (first | (go_at_call 17; exact Calls.quiet_of_same (UU.out _)))
                        have HV9 : Hid (HoldV (wr.drewN nq) g h1) := HVi.out.below (below_drewN (Below.refl _ _) nq)
                        have HB9 : Hid (Below w.heap.size w (wr.drewN nq)) := below_drewN HBi.out nq
                        go_wp2_with fail
                        go_roundw
                        case rel => exact ⟨j + 1, true, by omega, by go_num, by trivial, NX, HV9, HB9.out⟩
                        case measure => simp [intOf]; omega
                      · have p3' : decide (ys > 2199023255552) = false := decide_eq_false p3
                        have hwr : IntKind.i64.wrap (now - ys) = now - ys := by have := HN01.out; rw [IntKind.wrap_i64]; omega
                        by_cases p4 : now - ys < lease
                        · have p4' : decide (now - ys < lease) = true := decide_eq_true p4
                          have NX : Hid (true = (A.take (j + 1)).any (pB us now lease)) := by
                            have e := HNX.out pv HPV.out
                            rw [show pv = true by rw [HPB.out]; simp [*]] at e
                            exact e
                          clear p1 p2 p3 p4
                          go_wp2_with fail
                          go_quiet (first | (go_at_call 17; exact Calls.quiet_of_same (UU.out _)))
                          have HV9 : Hid (HoldV (wr.drewN nq) g h1) := HVi.out.below (below_drewN (Below.refl _ _) nq)
                          have HB9 : Hid (Below w.heap.size w (wr.drewN nq)) := below_drewN HBi.out nq
                          go_wp2_with fail
                          go_roundw
                          case rel => exact ⟨j + 1, true, by omega, by go_num, by trivial, NX, HV9, HB9.out⟩
                          case measure => simp [intOf]; omega
                        · have p4' : decide (now - ys < lease) = false := decide_eq_false p4
                          have NX : Hid (false = (A.take (j + 1)).any (pB us now lease)) := by
                            have e := HNX.out pv HPV.out
                            rw [show pv = false by rw [HPB.out]; simp [*]] at e
                            exact e
                          clear p1 p2 p3 p4
                          go_wp2_with fail
                          go_quiet (first | (go_at_call 17; exact Calls.quiet_of_same (UU.out _)))
                          have HV9 : Hid (HoldV (wr.drewN nq) g h1) := HVi.out.below (below_drewN (Below.refl _ _) nq)
                          have HB9 : Hid (Below w.heap.size w (wr.drewN nq)) := below_drewN HBi.out nq
                          go_wp2_with fail
                          go_roundw
                          case rel => exact ⟨j + 1, false, by omega, by go_num, by trivial, NX, HV9, HB9.out⟩
                          case measure => simp [intOf]; omega
                    · have p2' : decide (ys ≥ 0) = false := decide_eq_false p2
                      have NX : Hid (false = (A.take (j + 1)).any (pB us now lease)) := by
                        have e := HNX.out pv HPV.out
                        rw [show pv = false by rw [HPB.out]; simp [*]] at e
                        exact e
                      clear p1 p2
                      go_wp2_with fail
                      go_quiet (first | (go_at_call 17; exact Calls.quiet_of_same (UU.out _)))
                      have HV9 : Hid (HoldV (wr.drewN nq) g h1) := HVi.out.below (below_drewN (Below.refl _ _) nq)
                      have HB9 : Hid (Below w.heap.size w (wr.drewN nq)) := below_drewN HBi.out nq
                      go_wp2_with fail
                      go_roundw
                      case rel => exact ⟨j + 1, false, by omega, by go_num, by trivial, NX, HV9, HB9.out⟩
                      case measure => simp [intOf]; omega
                  · have p1' : (ye == us) = false := by simpa using p1
                    have NX : Hid (false = (A.take (j + 1)).any (pB us now lease)) := by
                      have e := HNX.out pv HPV.out
                      rw [show pv = false by rw [HPB.out]; simp [*]] at e
                      exact e
                    clear p1
                    go_wp2_with fail
                    go_quiet (first | (go_at_call 17; exact Calls.quiet_of_same (UU.out _)))
                    have HV9 : Hid (HoldV (wr.drewN nq) g h1) := HVi.out.below (below_drewN (Below.refl _ _) nq)
                    have HB9 : Hid (Below w.heap.size w (wr.drewN nq)) := below_drewN HBi.out nq
                    go_wp2_with fail
                    go_roundw
                    case rel => exact ⟨j + 1, false, by omega, by go_num, by trivial, NX, HV9, HB9.out⟩
                    case measure => simp [intOf]; omega
              · have NX : Hid (true = (A.take (j + 1)).any (pB us now lease)) := by
                  have e := HNX.out pv HPV.out
                  rw [Bool.true_or] at e
                  exact e
                go_wp2_with fail
                go_quiet (first | (go_at_call 17; exact Calls.quiet_of_same (UU.out _)))
                have HV9 : Hid (HoldV (wr.drewN nq) g h1) := HVi.out.below (below_drewN (Below.refl _ _) nq)
                have HB9 : Hid (Below w.heap.size w (wr.drewN nq)) := below_drewN HBi.out nq
                go_wp2_with fail
                go_roundw
                case rel => exact ⟨j + 1, true, by omega, by go_num, by trivial, NX, HV9, HB9.out⟩
                case measure => simp [intOf]; omega
            · have hjk' : ¬ (j : Int) ≤ (k : Int) := by omega
              have hjE : j = k + 1 := by omega
              have HBT : Hid (b = true) := by
                show _ = _
                rw [HBA.out, hjE]
                exact FND2.out
              have hbt := HBT.out
              subst hbt
              clear hjE
              go_wp2_with fail
              go_roundw
              case rel => exact ⟨k + 1, h1, by omega, by go_num, HVi, I1, LED1, by omega, HBi.out⟩
              case measure => simp [intOf]; omega
      · have hl80' : ¬ (k : Int) < 80 := by omega
        go_wp2_with fail
        go_ret
        exact ⟨rfl, HB.out⟩
    · have hlt' : ¬ (k : Int) < (q : Int) := by omega
      go_wp2_with fail
      go_ret
      exact ⟨rfl, HB.out⟩
end Go.Proofs.Ytbigifmfbibgoaa
