import Derived.Test.YtjlghkiplapodaaMinSl
import Derived.Test.YtjlghkiplapodaaSameSl
namespace Go.Proofs.Ytjlghkiplapodaa
open Go Go.RowKit

theorem left_uni {V M : List Int} (hV : Byt V) (hM : Byt M) {L : List (List Int × List Int)} (hn : L.length ≤ 1000000) {m : Int} (v : Value) (w : World) (hs : Sl w v L) :
    Calls Try.prog 15 #[.agg (cv V M), v, .int .i64 m] w fun e w' => ∃ u, e = .returned (.tuple #[u, .int .i64 (errI (leftC V M L (bnd m)))]) ∧ Sl w' u ((leftC V M L (bnd m)).getD []) ∧ ((leftC V M L (bnd m)).getD []).length ≤ 1000 ∧ Below w.heap.size w w' := by
  refine (left_any V M hV hM L hn m v w hs).mono ?_
  rintro e w' ⟨⟨R', u, h1, h2, h3, h4⟩ | ⟨h1, h2⟩, hb⟩
  · rw [h1]; exact ⟨u, h3, h4, h2, hb⟩
  · rw [h1]; exact ⟨_, h2, sl_none _, by simp, hb⟩

set_option maxHeartbeats 4000000 in
theorem lawLeft_any (V M : List Int) (hV : Byt V) (hM : Byt M) (C : List (List Int × List Int)) (m : Int) (v : Value) (w : World) (hs : Sl w v C) :
    Calls Try.prog 5 #[.agg (cv V M), v, .int .i64 m] w fun e w' => e = .returned (.bool true) ∧ Below w.heap.size w w' := by
  obtain ⟨o, cap, rfl, hcap, hcm⟩ := hs.slice
  obtain ⟨n, hne⟩ : ∃ n, n = C.length := ⟨_, rfl⟩
  rw [← hne] at hs hcap ⊢
  have HS : Hid (Sl w (.slice o n cap) C) := hs
  have hVl := hV.1
  have hMl := hM.1
  have HVM : Hid (Byt V ∧ Byt M) := ⟨hV, hM⟩
  clear hs hne hV hM hcm
  go_enter Try.func5, Try.ntmps5
  go_wp2_with fail
  refine (awake3_any _).mono ?_
  rintro e w1 ⟨rfl, hb1⟩
  have g0 : w1.heap[w.heap.size]? = some (.cells (cv V M) 30 (0, 0)) := by rw [hb1.block _ (by simp)]; exact heap_new _ _ _ rfl
  have B1 : Below w.heap.size w w1 := ((Below.refl _ _).alloc (Nat.le_refl _) _).trans (hb1.mono (by simp))
  clear hb1
  obtain ⟨k, hk⟩ : ∃ k, k = min n 40 := ⟨_, rfl⟩
  have hkn : k ≤ n := by omega
  have hk40 : k ≤ 40 := by omega
  have hkc : k ≤ cap := by omega
  have HKM : Hid (k = min n 40) := hk
  have HS1 : Hid (Sl w1 (.slice o k cap) (C.take k)) := (HS.out.below B1).cut k hk
  obtain ⟨D, hD⟩ : ∃ D, D = C.take k := ⟨_, rfl⟩
  have hDl : D.length ≤ 1000000 := by rw [hD]; exact cut_len hk40
  rw [← hD] at HS1
  obtain ⟨R, hR⟩ : ∃ R, R = leftC V M D (bnd m) := ⟨_, rfl⟩
  obtain ⟨y, hy⟩ : ∃ y, y = errI R := ⟨_, rfl⟩
  obtain ⟨P, hP⟩ : ∃ P, P = R.getD [] := ⟨_, rfl⟩
  have D1 : Hid (∀ W, Sl W (.slice o k cap) D → Calls Try.prog 15 #[.agg (cv V M), .slice o k cap, .int .i64 m] W fun e w' => ∃ u, e = .returned (.tuple #[u, .int .i64 y]) ∧ Sl w' u P ∧ P.length ≤ 1000 ∧ Below W.heap.size W w') := by rw [hP, hy, hR]; exact fun W h => left_uni HVM.out.1 HVM.out.2 hDl _ W h
  have D2 : Hid (∀ W, Sl W (.slice o k cap) D → Calls Try.prog 16 #[.agg (cv V M), .slice o k cap, .int .i64 m] W fun e w' => ∃ u, e = .returned (.tuple #[u, .int .i64 y]) ∧ Sl w' u P ∧ P.length ≤ 1000 ∧ Below W.heap.size W w') := by rw [hP, hy, hR]; exact fun W h => rleft_uni HVM.out.1 HVM.out.2 hDl _ W h
  clear hk hD HS hDl hR hy hP
  go_wp2_with (first
    | (refine wl_min rfl _ _ rfl n k rfl rfl HKM.out ?_)
    | (refine wl_loadC rfl _ rfl w.heap.size rfl V M g0 hVl hMl ?_))
  refine (D1.out _ HS1.out).mono ?_
  rintro e w2 ⟨p, rfl, hsp, hpl, hb2⟩
  have g1 : w2.heap[w.heap.size]? = some (.cells (cv V M) 30 (0, 0)) := by rw [hb2.block _ (Array.getElem?_eq_some_iff.1 g0).1]; exact g0
  have B2 := B1.trans (hb2.mono B1.size)
  have HS2 : Hid (Sl w2 (.slice o k cap) D) := HS1.out.below hb2
  have HSP : Hid (Sl w2 p P) := hsp
  clear hb2 hsp D1 g0 B1 HS1
  go_wp2_with (first
    | (refine wl_loadC rfl _ rfl w.heap.size rfl V M g1 hVl hMl ?_))
  refine (D2.out _ HS2.out).mono ?_
  rintro e w3 ⟨q, rfl, hsq, _, hb3⟩
  have B3 := B2.trans (hb3.mono B2.size)
  have HSP3 : Hid (Sl w3 p P) := HSP.out.below hb3
  have HSQ : Hid (Sl w3 q P) := hsq
  clear hb3 hsq D2 g1 B2 HS2 HSP
  go_wp2_with fail
  refine (sameSl_any P (by omega) _ _ _ HSP3.out HSQ.out).mono ?_
  rintro e w4 ⟨rfl, hb4⟩
  go_wp2_with fail
  go_ret
  exact ⟨rfl, B3.trans (hb4.mono B3.size)⟩
end Go.Proofs.Ytjlghkiplapodaa
