import Derived.Test.YtplnlmkmaapbaaaSl
namespace Go.Proofs.Ytplnlmkmaapbaaa
open Go Go.RowKit

set_option maxHeartbeats 2000000 in
theorem chas_any (C : List (List Int × List Int)) (H : List Int) (hH : Byt H) (hn : C.length ≤ 1000000) (v : Value) (w : World) (hs : Sl w v C) :
    Calls Try.prog 14 #[v, .agg (hv H)] w fun e w' => e = .returned (.bool (hasL C H)) ∧ Below w.heap.size w w' := by
  obtain ⟨o, cap, rfl, _, _⟩ := hs.slice
  obtain ⟨n, hne⟩ : ∃ n, n = C.length := ⟨_, rfl⟩
  rw [← hne] at hs hn ⊢
  have hHl := hH.1
  have HN : Hid (n = C.length) := hne
  have HS : Hid (Sl w (.slice o n cap) C) := hs
  have CH : Hid (∀ U N : List Int, Byt U → Byt N → ∀ W, Calls Try.prog 19 #[.agg (cv U N), .agg (hv H)] W fun e w' => e = .returned (.bool (has U N H)) ∧ Below W.heap.size W w') := fun U N h1 h2 => has_any U N H h1 h2 hH
  clear hs hne hH
  go_enter Try.func14, Try.ntmps14
  go_wp2_with fail
  go_loopw [9] (fun i wr => ∃ k : Nat, k ≤ n ∧ i = .int .i64 k ∧ hasL (C.take k) H = false ∧ wr.heap[w.heap.size]? = some (.cells (hv H) 36 (0, 0)) ∧ Below w.heap.size w wr) (fun i _ => n - (intOf i).toNat)
  case atStart => exact ⟨0, Nat.zero_le _, rfl, rfl, heap_new _ _ _ rfl, (Below.refl _ _).alloc (Nat.le_refl _) _⟩
  case round =>
    obtain ⟨k, hk, rfl, hp, g0, hb⟩ := hrel
    have HP : Hid (hasL (C.take k) H = false) := hp
    clear hp
    by_cases hlt : k < n
    · obtain ⟨g, off, cur, t, fr, U, N, rfl, hg, hc, hCk, hU, hN⟩ := HS.out.at k hlt
      have hUl := hU.1
      have hNl := hN.1
      have D1 : Hid (∀ W, Calls Try.prog 19 #[.agg (cv U N), .agg (hv H)] W fun e w' => e = .returned (.bool (has U N H)) ∧ Below W.heap.size W w') := CH.out U N hU hN
      have hg' : wr.heap[g]? = some (.cells cur t fr) := (hb.block g (Array.getElem?_eq_some_iff.1 hg).1).trans hg
      have HC : Hid (∀ j, j < 26 → cur[off + k * 26 + j]? = (cv U N)[j]?) := hc
      have HK : Hid (C[k]? = some (U, N)) := hCk
      obtain ⟨b, hbb⟩ : ∃ b, b = has U N H := ⟨_, rfl⟩
      have HB : Hid (b = has U N H) := hbb
      rw [← hbb] at D1
      have k0 := heap_past wr (.cells (cv U N) 45) _ _ g0
      have k1 := heap_new wr (.cells (cv U N) 45) _ rfl
      have B2 := hb.alloc hb.size (.cells (cv U N) 45)
      clear hg hc hCk hU hN hbb
      go_wp2_with (first
        | (refine wl_loadCat rfl _ rfl g (off + k * 26) rfl cur t fr U N hUl hNl hg' HC.out ?_)
        | (refine wl_storeC rfl _ _ rfl wr.heap.size U N rfl rfl _ (heap_new _ _ _ rfl) rfl hUl hNl _ (setRow_new _ _ _ _ _ rfl) ?_)
        | (refine wl_loadC rfl _ rfl wr.heap.size rfl U N k1 hUl hNl ?_)
        | (refine wl_load26 rfl _ rfl w.heap.size rfl H k0 hHl ?_))
      refine (D1.out _).mono ?_
      rintro e w1 ⟨rfl, hb1⟩
      have z0 := (Array.getElem?_eq_some_iff.1 g0).1
      have g1 : w1.heap[w.heap.size]? = some (.cells (hv H) 36 (0, 0)) := by rw [hb1.block _ (by simp; omega)]; exact k0
      have B3 := B2.trans (hb1.mono B2.size)
      clear k0 k1 B2 hb1 D1 g0
      cases b
      · go_wp2_with fail
        go_roundw
        case rel => exact ⟨k + 1, by omega, by go_num, hasL_take HK.out HB.out.symm HP.out, g1, B3⟩
        case measure => simp [intOf]; omega
      · go_wp2_with fail
        go_ret
        exact ⟨ret_bool (hasL_at HK.out HB.out.symm).symm, B3⟩
    · obtain rfl : k = n := by omega
      go_wp2_with fail
      go_ret
      refine ⟨ret_bool ?_, hb⟩
      have := HP.out
      rw [HN.out, List.take_length] at this
      exact this.symm

end Go.Proofs.Ytplnlmkmaapbaaa
