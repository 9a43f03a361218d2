import Derived.Test.YtjlghkiplapodaaCovHas
namespace Go.Proofs.Ytjlghkiplapodaa
open Go Go.RowKit

/-- Have no two of these cubes a header together? -/
def Apart (C : List (List Int × List Int)) : Prop := ∀ (i k : Nat) (U N U' N' : List Int), i < k → C[i]? = some (U, N) → C[k]? = some (U', N') → meets U N U' N' = false
def apartL : List (List Int × List Int) → Bool
  | [] => true
  | c :: C => (C.all fun d => !(meets c.1 c.2 d.1 d.2)) && apartL C
theorem apartL_iff : ∀ {C : List (List Int × List Int)}, apartL C = true ↔ Apart C
  | [] => ⟨fun _ i k U N U' N' _ h1 => by simp at h1, fun _ => rfl⟩
  | c :: C => by
    rw [apartL, Bool.and_eq_true, List.all_eq_true, apartL_iff (C := C)]
    constructor
    · rintro ⟨h1, h2⟩ i k U N U' N' hik hi hk
      obtain ⟨k, rfl⟩ : ∃ k', k = k' + 1 := ⟨k - 1, by omega⟩
      rw [List.getElem?_cons_succ] at hk
      cases i with
      | zero =>
        obtain rfl : c = (U, N) := by simpa using hi
        have := h1 (U', N') (List.mem_of_getElem? hk)
        simpa using this
      | succ i =>
        rw [List.getElem?_cons_succ] at hi
        exact h2 i k U N U' N' (by omega) hi hk
    · intro h
      refine ⟨fun d hd => ?_, fun i k U N U' N' hik hi hk => h (i + 1) (k + 1) U N U' N' (by omega) (by simpa using hi) (by simpa using hk)⟩
      obtain ⟨k, hk, hd⟩ := List.getElem_of_mem hd
      have := h 0 (k + 1) c.1 c.2 d.1 d.2 (by omega) (by simp) (by rw [List.getElem?_cons_succ, List.getElem?_eq_getElem hk, hd])
      rw [this]; rfl
theorem apartL_yes {C : List (List Int × List Int)} (h : Apart C) : apartL C = true := apartL_iff.2 h
theorem apartL_no {C : List (List Int × List Int)} (h : ¬ Apart C) : apartL C = false := by
  cases e : apartL C with
  | false => rfl
  | true => exact absurd (apartL_iff.1 e) h

theorem meets_symm (V M V' M' : List Int) : meets V M V' M' = meets V' M' V M := by
  rw [Bool.eq_iff_iff, meets_iff, meets_iff]
  exact ⟨fun h i hi h1 h2 => (h i hi h2 h1).symm, fun h i hi h1 h2 => (h i hi h2 h1).symm⟩
theorem meetR_form (V M V' M' : List Int) : ∃ A B, A.length = 13 ∧ B.length = 13 ∧ meetR V M V' M' = .tuple #[.agg (cv A B), .bool (meets V M V' M')] := by
  cases h : meets V M V' M'
  · exact ⟨Z, Z, Z_byt.1, Z_byt.1, meetR_no _ _ _ _ h⟩
  · exact ⟨_, _, (meetV_byt _ _ _ _).1, (meetM_byt _ _).1, meetR_yes _ _ _ _ h⟩

set_option maxHeartbeats 4000000 in
theorem apart_any (C : List (List Int × List Int)) (hn : C.length ≤ 1000000) (v : Value) (w : World) (hs : Sl w v C) :
    Calls Try.prog 12 #[v] w fun e w' => e = .returned (.bool (apartL C)) ∧ Below w.heap.size w w' := by
  obtain ⟨o, cap, rfl, _, _⟩ := hs.slice
  obtain ⟨n, hne⟩ : ∃ n, n = C.length := ⟨_, rfl⟩
  rw [← hne] at hs hn ⊢
  have HN : Hid (n = C.length) := hne
  have HS : Hid (Sl w (.slice o n cap) C) := hs
  have hcap : n ≤ cap := hs.len.2.1
  clear hs hne
  go_enter Try.func12, Try.ntmps12
  go_wp2_with fail
  go_loopw [11] (fun i wr => ∃ k : Nat, k ≤ n ∧ i = .int .i64 k ∧ Apart (C.take k) ∧ Below w.heap.size w wr) (fun i _ => n - (intOf i).toNat)
  case atStart => exact ⟨0, Nat.zero_le _, rfl, fun i k U N U' N' _ h => by simp at h, Below.refl _ _⟩
  case round =>
    obtain ⟨k, hk, rfl, hp, hb⟩ := hrel
    have HP : Hid (Apart (C.take k)) := hp
    clear hp
    by_cases hlt : k < n
    · obtain ⟨g, off, cur, t, fr, U, N, rfl, hg, hc, hCk, hU, hN⟩ := HS.out.at k hlt
      have hUl := hU.1
      have hNl := hN.1
      have HU : Hid (Byt U ∧ Byt N) := ⟨hU, hN⟩
      have hg' : wr.heap[g]? = some (.cells cur t fr) := (hb.block g (Array.getElem?_eq_some_iff.1 hg).1).trans hg
      have HC : Hid (∀ j, j < 26 → cur[off + k * 26 + j]? = (cv U N)[j]?) := hc
      have HK : Hid (C[k]? = some (U, N)) := hCk
      have k1 := heap_new wr (.cells (cv U N) 30) _ rfl
      have B2 := hb.alloc hb.size (.cells (cv U N) 30)
      have hgz := (Array.getElem?_eq_some_iff.1 hg).1
      obtain ⟨W, hW⟩ : ∃ W, W = wr.alloc (.cells (cv U N) 30) := ⟨_, rfl⟩
      clear hg hc hCk hU hN
      go_wp2_with (first
        | (refine wl_loadCat rfl _ rfl g (off + k * 26) rfl cur t fr U N hUl hNl hg' HC.out ?_)
        | (refine wl_storeC rfl _ _ rfl wr.heap.size U N rfl rfl _ (heap_new _ _ _ rfl) rfl hUl hNl _ (setRow_new _ _ _ _ _ rfl) ?_))
      rw [← hW] at k1 B2 ⊢
      have zW : W.heap.size = wr.heap.size + 1 := by rw [hW]; simp
      obtain ⟨p, hp⟩ : ∃ p, p = wr.heap.size := ⟨_, rfl⟩
      rw [← hp] at k1 zW ⊢
      clear hW hp
      go_loopw [20] (fun j wq => ∃ m : Nat, m ≤ k ∧ j = .int .i64 m ∧ (∀ m' : Nat, m' < m → ∀ U' N' : List Int, C[m']? = some (U', N') → meets U N U' N' = false) ∧ wq.heap[p]? = some (.cells (cv U N) 30 (0, 0)) ∧ Below w.heap.size w wq) (fun j _ => k - (intOf j).toNat)
      case atStart => exact ⟨0, Nat.zero_le _, rfl, fun m' h => by omega, k1, B2⟩
      case round =>
        obtain ⟨m, hm, rfl, hq, j0, hbq⟩ := hrel
        have HQ : Hid (∀ m' : Nat, m' < m → ∀ U' N' : List Int, C[m']? = some (U', N') → meets U N U' N' = false) := hq
        clear hq
        have jz := (Array.getElem?_eq_some_iff.1 j0).1
        by_cases hml : m < k
        · obtain ⟨g2, off2, cur2, t2, fr2, U2, N2, ho2, hg2, hc2, hCm, hU2, hN2⟩ := HS.out.at m (by omega)
          simp only [Option.some.injEq, Addr.mk.injEq, and_true] at ho2
          obtain ⟨rfl, rfl⟩ := ho2
          have hUl2 := hU2.1
          have hNl2 := hN2.1
          obtain ⟨A, B, hA, hB, hAB⟩ := meetR_form U N U2 N2
          have D1 : Hid (∀ W, Calls Try.prog 27 #[.agg (cv U N), .agg (cv U2 N2)] W fun e w' => e = .returned (.tuple #[.agg (cv A B), .bool (meets U N U2 N2)]) ∧ Below W.heap.size W w') := by
            have := meet_any U N U2 N2 HU.out.1 HU.out.2 hU2 hN2; rwa [hAB] at this
          have hg2' : wr.heap[g]? = some (.cells cur2 t2 fr2) := (hbq.block g (Array.getElem?_eq_some_iff.1 hg2).1).trans hg2
          have HC2 : Hid (∀ j, j < 26 → cur2[off + m * 26 + j]? = (cv U2 N2)[j]?) := hc2
          have HM : Hid (C[m]? = some (U2, N2)) := hCm
          obtain ⟨b, hbb⟩ : ∃ b, b = meets U N U2 N2 := ⟨_, rfl⟩
          have HB : Hid (b = meets U N U2 N2) := hbb
          rw [← hbb] at D1
          have l0 := heap_past wr (.cells (cv U2 N2) 30) _ _ j0
          have l1 := heap_new wr (.cells (cv U2 N2) 30) _ rfl
          have B3 := hbq.alloc hbq.size (.cells (cv U2 N2) 30)
          clear hg2 hc2 hCm hU2 hN2 hbb hAB
          go_wp2_with (first
            | (refine wl_loadCat rfl _ rfl g (off + m * 26) rfl cur2 t2 fr2 U2 N2 hUl2 hNl2 hg2' HC2.out ?_)
            | (refine wl_storeC rfl _ _ rfl wr.heap.size U2 N2 rfl rfl _ (heap_new _ _ _ rfl) rfl hUl2 hNl2 _ (setRow_new _ _ _ _ _ rfl) ?_)
            | (refine wl_loadC rfl _ rfl p rfl U N l0 hUl hNl ?_)
            | (refine wl_loadC rfl _ rfl wr.heap.size rfl U2 N2 l1 hUl2 hNl2 ?_))
          refine (D1.out _).mono ?_
          rintro e w1 ⟨rfl, hb1⟩
          have n0 : w1.heap[p]? = some (.cells (cv U N) 30 (0, 0)) := by rw [hb1.block _ (by simp; omega)]; exact l0
          have B4 := B3.trans (hb1.mono B3.size)
          clear l0 l1 B3 hb1 D1 j0 hbq
          have n1 := heap_past w1 (.cells (cv A B) 30) _ _ n0
          have B5 := B4.alloc B4.size (.cells (cv A B) 30)
          cases b
          · go_wp2_with (first
              | (refine wl_storeC rfl _ _ rfl w1.heap.size A B rfl rfl _ (heap_new _ _ _ rfl) rfl hA hB _ (setRow_new _ _ _ _ _ rfl) ?_))
            go_roundw
            case rel =>
              refine ⟨m + 1, by omega, by go_num, fun m' hm' U' N' he => ?_, n1, B5⟩
              rcases Nat.lt_succ_iff_lt_or_eq.1 hm' with h | rfl
              · exact HQ.out m' h U' N' he
              · have := he.symm.trans HM.out
                simp only [Option.some.injEq, Prod.mk.injEq] at this
                rw [this.1, this.2]; exact HB.out.symm
            case measure => simp [intOf]; omega
          · go_wp2_with (first
              | (refine wl_storeC rfl _ _ rfl w1.heap.size A B rfl rfl _ (heap_new _ _ _ rfl) rfl hA hB _ (setRow_new _ _ _ _ _ rfl) ?_))
            go_ret
            refine ⟨ret_bool (apartL_no fun h => ?_).symm, B5⟩
            have := h m k _ _ _ _ hml HM.out HK.out
            rw [meets_symm, ← HB.out] at this
            cases this
        · obtain rfl : m = k := by omega
          go_wp2_with fail
          go_roundw
          case rel =>
            refine ⟨m + 1, by omega, by go_num, fun i k U' N' U2 N2 hik h1 h2 => ?_, hbq⟩
            have hkm : k < m + 1 := by
              have := (List.getElem?_eq_some_iff.1 h2).1
              rw [List.length_take] at this; omega
            rw [List.getElem?_take_of_lt (by omega)] at h1 h2
            rcases Nat.lt_succ_iff_lt_or_eq.1 hkm with h | rfl
            · exact HP.out i k U' N' U2 N2 hik (by rw [List.getElem?_take_of_lt (by omega)]; exact h1) (by rw [List.getElem?_take_of_lt (by omega)]; exact h2)
            · have := h2.symm.trans HK.out
              simp only [Option.some.injEq, Prod.mk.injEq] at this
              rw [this.1, this.2, meets_symm]; exact HQ.out i hik U' N' h1
          case measure => simp [intOf]; omega
    · obtain rfl : k = n := by omega
      go_wp2_with fail
      go_ret
      refine ⟨ret_bool ?_, hb⟩
      have := HP.out
      rw [HN.out, List.take_length] at this
      exact (apartL_yes this).symm
end Go.Proofs.Ytjlghkiplapodaa
