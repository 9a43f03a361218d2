import Derived.Test.YtjlghkiplapodaaJ7
import Derived.Test.YtjlghkiplapodaaJ8
import Derived.Test.YtjlghkiplapodaaJ9
import Derived.Test.YtjlghkiplapodaaJ12
import Derived.Test.YtjlghkiplapodaaJ3
namespace Go.Proofs.Ytjlghkiplapodaa
open Go Go.RowKit

set_option maxHeartbeats 2000000 in
theorem chas_any (C : List (List Int × List Int)) (H : List Int) (hH : Byt H) (hn : C.length ≤ 1000000) (v : Value) (w : World) (hs : Sl w v C) :
    Calls Try.prog 10 #[v, .agg (hv H)] w fun e w' => e = .returned (.bool (hasL C H)) ∧ Below w.heap.size w w' := by
  obtain ⟨o, cap, rfl, _, _⟩ := hs.slice
  obtain ⟨n, hne⟩ : ∃ n, n = C.length := ⟨_, rfl⟩
  rw [← hne] at hs hn ⊢
  have hHl := hH.1
  have HN : Hid (n = C.length) := hne
  have HS : Hid (Sl w (.slice o n cap) C) := hs
  have CH : Hid (∀ U N : List Int, Byt U → Byt N → ∀ W, Calls Try.prog 14 #[.agg (cv U N), .agg (hv H)] W fun e w' => e = .returned (.bool (has U N H)) ∧ Below W.heap.size W w') := fun U N h1 h2 => has_any U N H h1 h2 hH
  clear hs hne hH
  go_enter Try.func10, Try.ntmps10
  go_wp2_with fail
  go_loopw [9] (fun i wr => ∃ k : Nat, k ≤ n ∧ i = .int .i64 k ∧ hasL (C.take k) H = false ∧ wr.heap[w.heap.size]? = some (.cells (hv H) 24 (0, 0)) ∧ Below w.heap.size w wr) (fun i _ => n - (intOf i).toNat)
  case atStart => exact ⟨0, Nat.zero_le _, rfl, rfl, heap_new _ _ _ rfl, (Below.refl _ _).alloc (Nat.le_refl _) _⟩
  case round =>
    obtain ⟨k, hk, rfl, hp, g0, hb⟩ := hrel
    have HP : Hid (hasL (C.take k) H = false) := hp
    clear hp
    by_cases hlt : k < n
    · obtain ⟨g, off, cur, t, fr, U, N, rfl, hg, hc, hCk, hU, hN⟩ := HS.out.at k hlt
      have hUl := hU.1
      have hNl := hN.1
      have D1 : Hid (∀ W, Calls Try.prog 14 #[.agg (cv U N), .agg (hv H)] W fun e w' => e = .returned (.bool (has U N H)) ∧ Below W.heap.size W w') := CH.out U N hU hN
      have hg' : wr.heap[g]? = some (.cells cur t fr) := (hb.block g (Array.getElem?_eq_some_iff.1 hg).1).trans hg
      have HC : Hid (∀ j, j < 26 → cur[off + k * 26 + j]? = (cv U N)[j]?) := hc
      have HK : Hid (C[k]? = some (U, N)) := hCk
      obtain ⟨b, hbb⟩ : ∃ b, b = has U N H := ⟨_, rfl⟩
      have HB : Hid (b = has U N H) := hbb
      rw [← hbb] at D1
      have k0 := heap_past wr (.cells (cv U N) 30) _ _ g0
      have k1 := heap_new wr (.cells (cv U N) 30) _ rfl
      have B2 := hb.alloc hb.size (.cells (cv U N) 30)
      clear hg hc hCk hU hN hbb
      go_wp2_with (first
        | (refine wl_loadCat rfl _ rfl g (off + k * 26) rfl cur t fr U N hUl hNl hg' HC.out ?_)
        | (refine wl_storeC rfl _ _ rfl wr.heap.size U N rfl rfl _ (heap_new _ _ _ rfl) rfl hUl hNl _ (setRow_new _ _ _ _ _ rfl) ?_)
        | (refine wl_loadC rfl _ rfl wr.heap.size rfl U N k1 hUl hNl ?_)
        | (refine wl_load26 rfl _ rfl w.heap.size rfl H k0 hHl ?_))
      refine (D1.out _).mono ?_
      rintro e w1 ⟨rfl, hb1⟩
      have z0 := (Array.getElem?_eq_some_iff.1 g0).1
      have g1 : w1.heap[w.heap.size]? = some (.cells (hv H) 24 (0, 0)) := by rw [hb1.block _ (by simp; omega)]; exact k0
      have B3 := B2.trans (hb1.mono B2.size)
      clear k0 k1 B2 hb1 D1 g0
      cases b
      · go_wp2_with fail
        go_roundw
        case rel => exact ⟨k + 1, by omega, by go_num, hasL_take HK.out HB.out.symm HP.out, g1, B3⟩
        case measure => simp [intOf]; omega
      · go_wp2_with fail
        go_ret
        exact ⟨ret_bool (hasL_at HK.out HB.out.symm).symm, B3⟩
    · obtain rfl : k = n := by omega
      go_wp2_with fail
      go_ret
      refine ⟨ret_bool ?_, hb⟩
      have := HP.out
      rw [HN.out, List.take_length] at this
      exact this.symm

set_option maxHeartbeats 2000000 in
theorem rchas_any (C : List (List Int × List Int)) (H : List Int) (hH : Byt H) (hn : C.length ≤ 1000000) (v : Value) (w : World) (hs : Sl w v C) :
    Calls Try.prog 11 #[v, .agg (hv H)] w fun e w' => e = .returned (.bool (hasL C H)) ∧ Below w.heap.size w w' := by
  obtain ⟨o, cap, rfl, _, _⟩ := hs.slice
  obtain ⟨n, hne⟩ : ∃ n, n = C.length := ⟨_, rfl⟩
  rw [← hne] at hs hn ⊢
  have hHl := hH.1
  have HN : Hid (n = C.length) := hne
  have HS : Hid (Sl w (.slice o n cap) C) := hs
  have CH : Hid (∀ U N : List Int, Byt U → Byt N → ∀ W, Calls Try.prog 26 #[.agg (cv U N), .agg (hv H)] W fun e w' => e = .returned (.bool (has U N H)) ∧ Below W.heap.size W w') := fun U N h1 h2 => rhas_any U N H h1 h2 hH
  clear hs hne hH
  go_enter Try.func11, Try.ntmps11
  go_wp2_with fail
  go_loopw [5] (fun i wr => ∃ k : Nat, k ≤ n ∧ i = .int .i64 k ∧ hasL (C.take k) H = false ∧ wr.heap[w.heap.size]? = some (.cells (hv H) 24 (0, 0)) ∧ Below w.heap.size w wr) (fun i _ => n - (intOf i).toNat)
  case atStart => exact ⟨0, Nat.zero_le _, rfl, rfl, heap_new _ _ _ rfl, (Below.refl _ _).alloc (Nat.le_refl _) _⟩
  case round =>
    obtain ⟨k, hk, rfl, hp, g0, hb⟩ := hrel
    have HP : Hid (hasL (C.take k) H = false) := hp
    clear hp
    by_cases hlt : k < n
    · obtain ⟨g, off, cur, t, fr, U, N, rfl, hg, hc, hCk, hU, hN⟩ := HS.out.at k hlt
      have hUl := hU.1
      have hNl := hN.1
      have D1 : Hid (∀ W, Calls Try.prog 26 #[.agg (cv U N), .agg (hv H)] W fun e w' => e = .returned (.bool (has U N H)) ∧ Below W.heap.size W w') := CH.out U N hU hN
      have hg' : wr.heap[g]? = some (.cells cur t fr) := (hb.block g (Array.getElem?_eq_some_iff.1 hg).1).trans hg
      have HC : Hid (∀ j, j < 26 → cur[off + k * 26 + j]? = (cv U N)[j]?) := hc
      have HK : Hid (C[k]? = some (U, N)) := hCk
      obtain ⟨b, hbb⟩ : ∃ b, b = has U N H := ⟨_, rfl⟩
      have HB : Hid (b = has U N H) := hbb
      rw [← hbb] at D1
      clear hg hc hCk hU hN hbb
      go_wp2_with fail
      have ne1 := Later.ne wr
      refine wp_region_later (by kernel_rfl) (by kernel_rfl) ?_
      go_big_quiet_step (fail)
      go_big_quiet_step (fail)
      go_big_quiet_step (fail)
      refine qlSl rfl _ rfl g (off + k * 26) rfl cur t fr U N hUl hNl hg' HC.out ?_
      simp only [Act.put, List.setIfInBounds_toArray, List.set_cons_succ, List.set_cons_zero]
      refine qlH rfl _ rfl w.heap.size rfl H g0 hHl ?_
      simp only [Act.put, List.setIfInBounds_toArray, List.set_cons_succ, List.set_cons_zero]
      go_big_quiet_want; go_big_quiet_op
      refine ⟨_, fun u => Calls.later_of (D1.out u.world), ?_⟩
      go_big_quiet_on
      refine wpQuiet_nil ?_
      rintro w' ⟨u, rfl⟩
      have hb2 := hb.trans (u.below.mono hb.size)
      have g1 := later_block g0 _ ⟨u, rfl⟩
      clear ne1 D1 hb hg'
      cases b
      · go_wp2_with fail
        go_roundw
        case rel => exact ⟨k + 1, by omega, by go_num, hasL_take HK.out HB.out.symm HP.out, g1, hb2⟩
        case measure => simp [intOf]; omega
      · go_wp2_with fail
        go_ret
        exact ⟨ret_bool (hasL_at HK.out HB.out.symm).symm, hb2⟩
    · obtain rfl : k = n := by omega
      go_wp2_with fail
      go_ret
      refine ⟨ret_bool ?_, hb⟩
      have := HP.out
      rw [HN.out, List.take_length] at this
      exact this.symm
end Go.Proofs.Ytjlghkiplapodaa
namespace Go.Proofs.Ytjlghkiplapodaa
open Go Go.RowKit

/-- Have no two of these cubes a header together? -/
def Apart (C : List (List Int × List Int)) : Prop := ∀ (i k : Nat) (U N U' N' : List Int), i < k → C[i]? = some (U, N) → C[k]? = some (U', N') → meets U N U' N' = false
def apartL : List (List Int × List Int) → Bool
  | [] => true
  | c :: C => (C.all fun d => !(meets c.1 c.2 d.1 d.2)) && apartL C
theorem apartL_iff : ∀ {C : List (List Int × List Int)}, apartL C = true ↔ Apart C
  | [] => ⟨fun _ i k U N U' N' _ h1 => by simp at h1, fun _ => rfl⟩
  | c :: C => by
    rw [apartL, Bool.and_eq_true, List.all_eq_true, apartL_iff (C := C)]
    constructor
    · rintro ⟨h1, h2⟩ i k U N U' N' hik hi hk
      obtain ⟨k, rfl⟩ : ∃ k', k = k' + 1 := ⟨k - 1, by omega⟩
      rw [List.getElem?_cons_succ] at hk
      cases i with
      | zero =>
        obtain rfl : c = (U, N) := by simpa using hi
        have := h1 (U', N') (List.mem_of_getElem? hk)
        simpa using this
      | succ i =>
        rw [List.getElem?_cons_succ] at hi
        exact h2 i k U N U' N' (by omega) hi hk
    · intro h
      refine ⟨fun d hd => ?_, fun i k U N U' N' hik hi hk => h (i + 1) (k + 1) U N U' N' (by omega) (by simpa using hi) (by simpa using hk)⟩
      obtain ⟨k, hk, hd⟩ := List.getElem_of_mem hd
      have := h 0 (k + 1) c.1 c.2 d.1 d.2 (by omega) (by simp) (by rw [List.getElem?_cons_succ, List.getElem?_eq_getElem hk, hd])
      rw [this]; rfl
theorem apartL_yes {C : List (List Int × List Int)} (h : Apart C) : apartL C = true := apartL_iff.2 h
theorem apartL_no {C : List (List Int × List Int)} (h : ¬ Apart C) : apartL C = false := by
  cases e : apartL C with
  | false => rfl
  | true => exact absurd (apartL_iff.1 e) h

theorem meets_symm (V M V' M' : List Int) : meets V M V' M' = meets V' M' V M := by
  rw [Bool.eq_iff_iff, meets_iff, meets_iff]
  exact ⟨fun h i hi h1 h2 => (h i hi h2 h1).symm, fun h i hi h1 h2 => (h i hi h2 h1).symm⟩
theorem meetR_form (V M V' M' : List Int) : ∃ A B, A.length = 13 ∧ B.length = 13 ∧ meetR V M V' M' = .tuple #[.agg (cv A B), .bool (meets V M V' M')] := by
  cases h : meets V M V' M'
  · exact ⟨Z, Z, Z_byt.1, Z_byt.1, meetR_no _ _ _ _ h⟩
  · exact ⟨_, _, (meetV_byt _ _ _ _).1, (meetM_byt _ _).1, meetR_yes _ _ _ _ h⟩

set_option maxHeartbeats 4000000 in
theorem apart_any (C : List (List Int × List Int)) (hn : C.length ≤ 1000000) (v : Value) (w : World) (hs : Sl w v C) :
    Calls Try.prog 12 #[v] w fun e w' => e = .returned (.bool (apartL C)) ∧ Below w.heap.size w w' := by
  obtain ⟨o, cap, rfl, _, _⟩ := hs.slice
  obtain ⟨n, hne⟩ : ∃ n, n = C.length := ⟨_, rfl⟩
  rw [← hne] at hs hn ⊢
  have HN : Hid (n = C.length) := hne
  have HS : Hid (Sl w (.slice o n cap) C) := hs
  have hcap : n ≤ cap := hs.len.2.1
  clear hs hne
  go_enter Try.func12, Try.ntmps12
  go_wp2_with fail
  go_loopw [11] (fun i wr => ∃ k : Nat, k ≤ n ∧ i = .int .i64 k ∧ Apart (C.take k) ∧ Below w.heap.size w wr) (fun i _ => n - (intOf i).toNat)
  case atStart => exact ⟨0, Nat.zero_le _, rfl, fun i k U N U' N' _ h => by simp at h, Below.refl _ _⟩
  case round =>
    obtain ⟨k, hk, rfl, hp, hb⟩ := hrel
    have HP : Hid (Apart (C.take k)) := hp
    clear hp
    by_cases hlt : k < n
    · obtain ⟨g, off, cur, t, fr, U, N, rfl, hg, hc, hCk, hU, hN⟩ := HS.out.at k hlt
      have hUl := hU.1
      have hNl := hN.1
      have HU : Hid (Byt U ∧ Byt N) := ⟨hU, hN⟩
      have hg' : wr.heap[g]? = some (.cells cur t fr) := (hb.block g (Array.getElem?_eq_some_iff.1 hg).1).trans hg
      have HC : Hid (∀ j, j < 26 → cur[off + k * 26 + j]? = (cv U N)[j]?) := hc
      have HK : Hid (C[k]? = some (U, N)) := hCk
      have k1 := heap_new wr (.cells (cv U N) 30) _ rfl
      have B2 := hb.alloc hb.size (.cells (cv U N) 30)
      have hgz := (Array.getElem?_eq_some_iff.1 hg).1
      obtain ⟨W, hW⟩ : ∃ W, W = wr.alloc (.cells (cv U N) 30) := ⟨_, rfl⟩
      clear hg hc hCk hU hN
      go_wp2_with (first
        | (refine wl_loadCat rfl _ rfl g (off + k * 26) rfl cur t fr U N hUl hNl hg' HC.out ?_)
        | (refine wl_storeC rfl _ _ rfl wr.heap.size U N rfl rfl _ (heap_new _ _ _ rfl) rfl hUl hNl _ (setRow_new _ _ _ _ _ rfl) ?_))
      rw [← hW] at k1 B2 ⊢
      have zW : W.heap.size = wr.heap.size + 1 := by rw [hW]; simp
      obtain ⟨p, hp⟩ : ∃ p, p = wr.heap.size := ⟨_, rfl⟩
      rw [← hp] at k1 zW ⊢
      clear hW hp
      go_loopw [20] (fun j wq => ∃ m : Nat, m ≤ k ∧ j = .int .i64 m ∧ (∀ m' : Nat, m' < m → ∀ U' N' : List Int, C[m']? = some (U', N') → meets U N U' N' = false) ∧ wq.heap[p]? = some (.cells (cv U N) 30 (0, 0)) ∧ Below w.heap.size w wq) (fun j _ => k - (intOf j).toNat)
      case atStart => exact ⟨0, Nat.zero_le _, rfl, fun m' h => by omega, k1, B2⟩
      case round =>
        obtain ⟨m, hm, rfl, hq, j0, hbq⟩ := hrel
        have HQ : Hid (∀ m' : Nat, m' < m → ∀ U' N' : List Int, C[m']? = some (U', N') → meets U N U' N' = false) := hq
        clear hq
        have jz := (Array.getElem?_eq_some_iff.1 j0).1
        by_cases hml : m < k
        · obtain ⟨g2, off2, cur2, t2, fr2, U2, N2, ho2, hg2, hc2, hCm, hU2, hN2⟩ := HS.out.at m (by omega)
          simp only [Option.some.injEq, Addr.mk.injEq, and_true] at ho2
          obtain ⟨rfl, rfl⟩ := ho2
          have hUl2 := hU2.1
          have hNl2 := hN2.1
          obtain ⟨A, B, hA, hB, hAB⟩ := meetR_form U N U2 N2
          have D1 : Hid (∀ W, Calls Try.prog 27 #[.agg (cv U N), .agg (cv U2 N2)] W fun e w' => e = .returned (.tuple #[.agg (cv A B), .bool (meets U N U2 N2)]) ∧ Below W.heap.size W w') := by
            have := meet_any U N U2 N2 HU.out.1 HU.out.2 hU2 hN2; rwa [hAB] at this
          have hg2' : wr.heap[g]? = some (.cells cur2 t2 fr2) := (hbq.block g (Array.getElem?_eq_some_iff.1 hg2).1).trans hg2
          have HC2 : Hid (∀ j, j < 26 → cur2[off + m * 26 + j]? = (cv U2 N2)[j]?) := hc2
          have HM : Hid (C[m]? = some (U2, N2)) := hCm
          obtain ⟨b, hbb⟩ : ∃ b, b = meets U N U2 N2 := ⟨_, rfl⟩
          have HB : Hid (b = meets U N U2 N2) := hbb
          rw [← hbb] at D1
          have l0 := heap_past wr (.cells (cv U2 N2) 30) _ _ j0
          have l1 := heap_new wr (.cells (cv U2 N2) 30) _ rfl
          have B3 := hbq.alloc hbq.size (.cells (cv U2 N2) 30)
          clear hg2 hc2 hCm hU2 hN2 hbb hAB
          go_wp2_with (first
            | (refine wl_loadCat rfl _ rfl g (off + m * 26) rfl cur2 t2 fr2 U2 N2 hUl2 hNl2 hg2' HC2.out ?_)
            | (refine wl_storeC rfl _ _ rfl wr.heap.size U2 N2 rfl rfl _ (heap_new _ _ _ rfl) rfl hUl2 hNl2 _ (setRow_new _ _ _ _ _ rfl) ?_)
            | (refine wl_loadC rfl _ rfl p rfl U N l0 hUl hNl ?_)
            | (refine wl_loadC rfl _ rfl wr.heap.size rfl U2 N2 l1 hUl2 hNl2 ?_))
          refine (D1.out _).mono ?_
          rintro e w1 ⟨rfl, hb1⟩
          have n0 : w1.heap[p]? = some (.cells (cv U N) 30 (0, 0)) := by rw [hb1.block _ (by simp; omega)]; exact l0
          have B4 := B3.trans (hb1.mono B3.size)
          clear l0 l1 B3 hb1 D1 j0 hbq
          have n1 := heap_past w1 (.cells (cv A B) 30) _ _ n0
          have B5 := B4.alloc B4.size (.cells (cv A B) 30)
          cases b
          · go_wp2_with (first
              | (refine wl_storeC rfl _ _ rfl w1.heap.size A B rfl rfl _ (heap_new _ _ _ rfl) rfl hA hB _ (setRow_new _ _ _ _ _ rfl) ?_))
            go_roundw
            case rel =>
              refine ⟨m + 1, by omega, by go_num, fun m' hm' U' N' he => ?_, n1, B5⟩
              rcases Nat.lt_succ_iff_lt_or_eq.1 hm' with h | rfl
              · exact HQ.out m' h U' N' he
              · have := he.symm.trans HM.out
                simp only [Option.some.injEq, Prod.mk.injEq] at this
                rw [this.1, this.2]; exact HB.out.symm
            case measure => simp [intOf]; omega
          · go_wp2_with (first
              | (refine wl_storeC rfl _ _ rfl w1.heap.size A B rfl rfl _ (heap_new _ _ _ rfl) rfl hA hB _ (setRow_new _ _ _ _ _ rfl) ?_))
            go_ret
            refine ⟨ret_bool (apartL_no fun h => ?_).symm, B5⟩
            have := h m k _ _ _ _ hml HM.out HK.out
            rw [meets_symm, ← HB.out] at this
            cases this
        · obtain rfl : m = k := by omega
          go_wp2_with fail
          go_roundw
          case rel =>
            refine ⟨m + 1, by omega, by go_num, fun i k U' N' U2 N2 hik h1 h2 => ?_, hbq⟩
            have hkm : k < m + 1 := by
              have := (List.getElem?_eq_some_iff.1 h2).1
              rw [List.length_take] at this; omega
            rw [List.getElem?_take_of_lt (by omega)] at h1 h2
            rcases Nat.lt_succ_iff_lt_or_eq.1 hkm with h | rfl
            · exact HP.out i k U' N' U2 N2 hik (by rw [List.getElem?_take_of_lt (by omega)]; exact h1) (by rw [List.getElem?_take_of_lt (by omega)]; exact h2)
            · have := h2.symm.trans HK.out
              simp only [Option.some.injEq, Prod.mk.injEq] at this
              rw [this.1, this.2, meets_symm]; exact HQ.out i hik U' N' h1
          case measure => simp [intOf]; omega
    · obtain rfl : k = n := by omega
      go_wp2_with fail
      go_ret
      refine ⟨ret_bool ?_, hb⟩
      have := HP.out
      rw [HN.out, List.take_length] at this
      exact (apartL_yes this).symm
end Go.Proofs.Ytjlghkiplapodaa
namespace Go.Proofs.Ytjlghkiplapodaa
open Go Go.RowKit

set_option maxHeartbeats 4000000 in
theorem rapart_any (C : List (List Int × List Int)) (hn : C.length ≤ 1000000) (v : Value) (w : World) (hs : Sl w v C) :
    Calls Try.prog 13 #[v] w fun e w' => e = .returned (.bool (apartL C)) ∧ Below w.heap.size w w' := by
  obtain ⟨o, cap, rfl, _, _⟩ := hs.slice
  obtain ⟨n, hne⟩ : ∃ n, n = C.length := ⟨_, rfl⟩
  rw [← hne] at hs hn ⊢
  have HN : Hid (n = C.length) := hne
  have HS : Hid (Sl w (.slice o n cap) C) := hs
  clear hs hne
  go_enter Try.func13, Try.ntmps13
  go_wp2_with fail
  go_loopw [3] (fun i wr => ∃ k : Nat, k ≤ n ∧ i = .int .i64 k ∧ (∀ (i' k' : Nat) (U N U' N' : List Int), i' < k → i' < k' → C[i']? = some (U, N) → C[k']? = some (U', N') → meets U N U' N' = false) ∧ Below w.heap.size w wr) (fun i _ => n - (intOf i).toNat)
  case atStart => exact ⟨0, Nat.zero_le _, rfl, fun i' k' U N U' N' h => by omega, Below.refl _ _⟩
  case round =>
    obtain ⟨k, hk, rfl, hp, hb⟩ := hrel
    have HP : Hid (∀ (i' k' : Nat) (U N U' N' : List Int), i' < k → i' < k' → C[i']? = some (U, N) → C[k']? = some (U', N') → meets U N U' N' = false) := hp
    clear hp
    by_cases hlt : k < n
    · obtain ⟨g, off, cur, t, fr, U, N, rfl, hg, hc, hCk, hU, hN⟩ := HS.out.at k hlt
      have hUl := hU.1
      have hNl := hN.1
      have HU : Hid (Byt U ∧ Byt N) := ⟨hU, hN⟩
      have HG : Hid (w.heap[g]? = some (.cells cur t fr)) := hg
      have HC : Hid (∀ j, j < 26 → cur[off + k * 26 + j]? = (cv U N)[j]?) := hc
      have HK : Hid (C[k]? = some (U, N)) := hCk
      clear hg hc hCk hU hN
      go_wp2_with fail
      go_loopw [4] (fun j wq => ∃ m : Nat, m ≤ n ∧ k < m ∧ j = .int .i64 m ∧ (∀ m' : Nat, k < m' → m' < m → ∀ U' N' : List Int, C[m']? = some (U', N') → meets U N U' N' = false) ∧ Below w.heap.size w wq) (fun j _ => n - (intOf j).toNat)
      case atStart => exact ⟨k + 1, by omega, by omega, by go_num, fun m' h1 h2 => by omega, hb⟩
      case round =>
        clear hb
        obtain ⟨m, hm, hkm, rfl, hq, hb⟩ := hrel
        have HQ : Hid (∀ m' : Nat, k < m' → m' < m → ∀ U' N' : List Int, C[m']? = some (U', N') → meets U N U' N' = false) := hq
        clear hq
        by_cases hml : m < n
        · obtain ⟨g2, off2, cur2, t2, fr2, U2, N2, ho2, hg2, hc2, hCm, hU2, hN2⟩ := HS.out.at m hml
          simp only [Option.some.injEq, Addr.mk.injEq, and_true] at ho2
          obtain ⟨rfl, rfl⟩ := ho2
          have hUl2 := hU2.1
          have hNl2 := hN2.1
          obtain ⟨A, B, hA, hB, hAB⟩ := meetR_form U N U2 N2
          have D1 : Hid (∀ W, Calls Try.prog 28 #[.agg (cv U N), .agg (cv U2 N2)] W fun e w' => e = .returned (.tuple #[.agg (cv A B), .bool (meets U N U2 N2)]) ∧ Below W.heap.size W w') := by
            have := rmeet_any U N U2 N2 HU.out.1 HU.out.2 hU2 hN2; rwa [hAB] at this
          have hg1' : wr.heap[g]? = some (.cells cur t fr) := (hb.block g (Array.getElem?_eq_some_iff.1 HG.out).1).trans HG.out
          have hg2' : wr.heap[g]? = some (.cells cur2 t2 fr2) := (hb.block g (Array.getElem?_eq_some_iff.1 hg2).1).trans hg2
          have HC2 : Hid (∀ j, j < 26 → cur2[off + m * 26 + j]? = (cv U2 N2)[j]?) := hc2
          have HM : Hid (C[m]? = some (U2, N2)) := hCm
          obtain ⟨b, hbb⟩ : ∃ b, b = meets U N U2 N2 := ⟨_, rfl⟩
          have HB : Hid (b = meets U N U2 N2) := hbb
          rw [← hbb] at D1
          clear hg2 hc2 hCm hU2 hN2 hbb hAB
          go_wp2_with fail
          have ne1 := Later.ne wr
          refine region_cut (fun a a' w' => ∃ y5 y21 y22 y23 y24 y25 y26 y27 y28 y29 y30 y31 y32, a' = ((((((((((((((a.put (some 5) y5).put (some 6) (.bool b)).put (some 21) y21).put (some 22) y22).put (some 23) y23).put (some 24) y24).put (some 25) y25).put (some 26) y26).put (some 27) y27).put (some 28) y28).put (some 29) y29).put (some 30) y30).put (some 31) y31).put (some 32) y32) ∧ Below wr.heap.size wr w') ?_ ?_
          · refine region_begin 15 rfl (by kernel_rfl) ?_
            refine region_reads 0 8 7 rfl (by kernel_rfl) (by kernel_rfl) (by kernel_rfl) (by intro d v c a w h; exact absurd h.1 (by simp)) ⟨⟨wr.drew, (Below.refl _ _).drew⟩, rfl⟩ ?_
            simp only [List.drop_zero, List.take_succ_cons, List.take_zero]
            go_big_quiet_step (fail)
            go_big_quiet_step (fail)
            go_big_quiet_step (fail)
            refine qlSl rfl _ rfl g (off + k * 26) rfl cur t fr U N hUl hNl hg1' HC.out ?_
            simp only [Act.put, List.setIfInBounds_toArray, List.set_cons_succ, List.set_cons_zero]
            go_big_quiet_step (fail)
            go_big_quiet_step (fail)
            go_big_quiet_step (fail)
            refine qlSl rfl _ rfl g (off + m * 26) rfl cur2 t2 fr2 U2 N2 hUl2 hNl2 hg2' HC2.out ?_
            simp only [Act.put, List.setIfInBounds_toArray, List.set_cons_succ, List.set_cons_zero]
            refine wpQuiet_nil ?_
            refine wpAnyH_all (rs := [8, 12]) (by kernel_rfl) (by decide) ?_
            intro i hi
            simp only [List.mem_cons, List.not_mem_nil, or_false] at hi
            rcases hi with rfl | rfl
            · refine wpOp_call rfl rfl 28 #[.tmp 25, .tmp 29] (by intro b w; have hf := Try.func28; simp [go_sem]) #[.agg (cv U N), .agg (cv U2 N2)] rfl (fun v w' => v = .tuple #[.agg (cv A B), .bool b] ∧ Below wr.drew.heap.size wr.drew w') ((D1.out _).mono fun e w' h => ⟨_, h.1, rfl, h.2⟩) (some 30) rfl ?_
              rintro v w2 ⟨rfl, hb2⟩
              have hW2 : Below wr.heap.size wr w2 := (Below.refl _ _).drew.trans hb2
              refine ⟨⟨⟨w2, hW2⟩, rfl⟩, ?_⟩
              simp only [Act.put, List.setIfInBounds_toArray, List.set_cons_succ, List.set_cons_zero]
              refine region_reads 9 3 3 rfl (by kernel_rfl) (by kernel_rfl) (by kernel_rfl) (by intro d v c a w h; exact absurd h.1 (by simp)) ⟨⟨w2, hW2⟩, rfl⟩ ?_
              simp only [List.drop_succ_cons, List.drop_zero, List.take_succ_cons, List.take_zero]
              repeat go_big_quiet_step (fail)
              refine wpQuiet_nil ?_
              refine wpAnyH_all (rs := [12]) (by kernel_rfl) (by decide) ?_
              intro i hi
              obtain rfl := List.mem_singleton.1 hi
              refine wpOp_allocC rfl rfl rfl (some 5) rfl ?_
              refine ⟨⟨⟨w2.alloc _, hW2.alloc hW2.size _⟩, rfl⟩, ?_⟩
              simp only [Act.put, List.setIfInBounds_toArray, List.set_cons_succ, List.set_cons_zero]
              refine wpAnyH_all (rs := [13]) (by kernel_rfl) (by decide) ?_
              intro i hi
              obtain rfl := List.mem_singleton.1 hi
              refine wpOp_storeC rfl rfl _ _ rfl w2.heap.size A B rfl rfl _ (heap_new _ _ _ rfl) rfl hA hB none rfl ?_
              rw [setRow_new _ _ _ _ _ rfl]
              refine ⟨⟨⟨w2.alloc _, hW2.alloc hW2.size _⟩, rfl⟩, ?_⟩
              refine wpAnyH_all (rs := [14]) (by kernel_rfl) (by decide) ?_
              intro i hi
              obtain rfl := List.mem_singleton.1 hi
              refine wpOp_assign rfl rfl _ rfl (.bool b) rfl (some 6) rfl ?_
              refine ⟨⟨⟨w2.alloc _, hW2.alloc hW2.size _⟩, rfl⟩, ?_⟩
              refine wpAnyH_done (by kernel_rfl) ?_ _
              exact ⟨rfl, _, _, _, _, _, _, _, _, _, _, _, _, _, rfl, hW2.alloc hW2.size _⟩
            · refine wpOp_allocC rfl rfl rfl (some 5) rfl ?_
              have hWA : Below wr.heap.size wr (wr.drew.alloc (.cells zeroC 30)) := (Below.refl _ _).drew.alloc (Nat.le_refl _) _
              refine ⟨⟨⟨_, hWA⟩, rfl⟩, ?_⟩
              simp only [Act.put, List.setIfInBounds_toArray, List.set_cons_succ, List.set_cons_zero]
              refine wpAnyH_all (rs := [8]) (by kernel_rfl) (by decide) ?_
              intro i hi
              obtain rfl := List.mem_singleton.1 hi
              refine wpOp_call rfl rfl 28 #[.tmp 25, .tmp 29] (by intro b w; have hf := Try.func28; simp [go_sem]) #[.agg (cv U N), .agg (cv U2 N2)] rfl (fun v w' => v = .tuple #[.agg (cv A B), .bool b] ∧ Below (wr.drew.alloc (.cells zeroC 30)).heap.size (wr.drew.alloc (.cells zeroC 30)) w') ((D1.out _).mono fun e w' h => ⟨_, h.1, rfl, h.2⟩) (some 30) rfl ?_
              rintro v w2 ⟨rfl, hb2⟩
              have hW2 : Below wr.heap.size wr w2 := hWA.trans (hb2.mono hWA.size)
              have hgA : w2.heap[wr.heap.size]? = some (.cells zeroC 30 (0, 0)) := by rw [hb2.block _ (by simp)]; exact heap_new _ _ _ rfl
              refine ⟨⟨⟨w2, hW2⟩, rfl⟩, ?_⟩
              simp only [Act.put, List.setIfInBounds_toArray, List.set_cons_succ, List.set_cons_zero]
              refine region_reads 9 3 2 rfl (by kernel_rfl) (by kernel_rfl) (by kernel_rfl) (by intro d v c a w h; exact absurd h.1 (by simp)) ⟨⟨w2, hW2⟩, rfl⟩ ?_
              simp only [List.drop_succ_cons, List.drop_zero, List.take_succ_cons, List.take_zero]
              repeat go_big_quiet_step (fail)
              refine wpQuiet_nil ?_
              refine wpAnyH_all (rs := [13]) (by kernel_rfl) (by decide) ?_
              intro i hi
              obtain rfl := List.mem_singleton.1 hi
              refine wpOp_storeC rfl rfl _ _ rfl wr.heap.size A B rfl rfl _ hgA rfl hA hB none rfl ?_
              refine ⟨⟨⟨_, below_setRow hW2 (Nat.le_refl _) _⟩, rfl⟩, ?_⟩
              refine wpAnyH_all (rs := [14]) (by kernel_rfl) (by decide) ?_
              intro i hi
              obtain rfl := List.mem_singleton.1 hi
              refine wpOp_assign rfl rfl _ rfl (.bool b) rfl (some 6) rfl ?_
              refine ⟨⟨⟨_, below_setRow hW2 (Nat.le_refl _) _⟩, rfl⟩, ?_⟩
              refine wpAnyH_done (by kernel_rfl) ?_ _
              exact ⟨rfl, _, _, _, _, _, _, _, _, _, _, _, _, _, rfl, below_setRow hW2 (Nat.le_refl _) _⟩
          · rintro a' w' ⟨y5, y21, y22, y23, y24, y25, y26, y27, y28, y29, y30, y31, y32, rfl, hbw⟩
            simp only [Act.put, List.setIfInBounds_toArray, List.set_cons_succ, List.set_cons_zero]
            have B2 := hb.trans (hbw.mono hb.size)
            clear hb hbw hg1' hg2' D1 ne1
            cases b
            · go_wp2_with fail
              go_roundw
              case rel =>
                refine ⟨m + 1, by omega, by omega, by go_num, fun m' h1 hm' U' N' he => ?_, B2⟩
                rcases Nat.lt_succ_iff_lt_or_eq.1 hm' with h | rfl
                · exact HQ.out m' h1 h U' N' he
                · have := he.symm.trans HM.out
                  simp only [Option.some.injEq, Prod.mk.injEq] at this
                  rw [this.1, this.2]; exact HB.out.symm
              case measure => simp [intOf]; omega
            · go_wp2_with fail
              go_ret
              refine ⟨ret_bool (apartL_no fun h => ?_).symm, B2⟩
              have := h k m _ _ _ _ hkm HK.out HM.out
              rw [← HB.out] at this
              cases this
        · obtain rfl : m = n := by omega
          go_wp2_with fail
          go_roundw
          case rel =>
            refine ⟨k + 1, by omega, by go_num, fun i' k' U' N' U2 N2 h0 hik h1 h2 => ?_, hb⟩
            rcases Nat.lt_succ_iff_lt_or_eq.1 h0 with h | rfl
            · exact HP.out i' k' U' N' U2 N2 h hik h1 h2
            · have := h1.symm.trans HK.out
              simp only [Option.some.injEq, Prod.mk.injEq] at this
              rw [this.1, this.2]
              exact HQ.out k' hik (by have := (List.getElem?_eq_some_iff.1 h2).1; rw [HN.out]; exact this) U2 N2 h2
          case measure => simp [intOf]; omega
    · obtain rfl : k = n := by omega
      go_wp2_with fail
      go_ret
      refine ⟨ret_bool (apartL_yes fun i' k' U N U' N' hik h1 h2 => HP.out i' k' U N U' N' ?_ hik h1 h2).symm, hb⟩
      have := (List.getElem?_eq_some_iff.1 h1).1
      rw [HN.out]; exact this
end Go.Proofs.Ytjlghkiplapodaa
namespace Go.Proofs.Ytjlghkiplapodaa
open Go Go.RowKit

set_option maxHeartbeats 4000000 in
theorem rsame_any (A B : List (List Int × List Int)) (hA : A.length ≤ 1000000) (hB : B.length ≤ 1000000) (m : Int) (v u : Value) (w : World) (ha : Sl w v A) (hb : Sl w u B) :
    Calls Try.prog 23 #[v, u, .int .i64 m] w fun e w' => e = .returned (.tuple #[.bool (sameR A B m).1, .int .i64 (sameR A B m).2]) ∧ Below w.heap.size w w' := by
  obtain ⟨oa, ca, rfl, _, _⟩ := ha.slice
  obtain ⟨ob, cb, rfl, _, _⟩ := hb.slice
  obtain ⟨na, hna⟩ : ∃ n, n = A.length := ⟨_, rfl⟩
  obtain ⟨nb, hnb⟩ : ∃ n, n = B.length := ⟨_, rfl⟩
  have HNA : Hid (na = A.length) := hna
  have HNB : Hid (nb = B.length) := hnb
  have ba : na ≤ 1000000 := by rw [hna]; exact hA
  have bb : nb ≤ 1000000 := by rw [hnb]; exact hB
  rw [← hna] at ha ⊢
  rw [← hnb] at hb ⊢
  have HA : Hid (Sl w (.slice oa na ca) A) := ha
  have HB : Hid (Sl w (.slice ob nb cb) B) := hb
  obtain ⟨S, hS⟩ : ∃ S, S = sameR A B m := ⟨_, rfl⟩
  have HSE : Hid (S = if (eachR B m A).1 = true then eachR A m B else (false, (eachR B m A).2)) := hS
  obtain ⟨E, hE⟩ : ∃ E, E = eachR B m A := ⟨_, rfl⟩
  obtain ⟨F, hF⟩ : ∃ F, F = eachR A m B := ⟨_, rfl⟩
  rw [← hE, ← hF] at HSE
  have HE0 : Hid (eachR B m (A.drop 0) = E) := hE.symm
  have HF0 : Hid (eachR A m (B.drop 0) = F) := hF.symm
  rw [← hS]
  clear ha hb hS hE hF hna hnb
  go_enter Try.func23, Try.ntmps23
  go_wp2_with fail
  go_loopw [8] (fun i wr => ∃ k : Nat, k ≤ na ∧ i = .int .i64 k ∧ eachR B m (A.drop k) = E ∧ Below w.heap.size w wr) (fun i _ => na - (intOf i).toNat)
  case atStart => exact ⟨0, Nat.zero_le _, rfl, HE0.out, Below.refl _ _⟩
  case round =>
    clear HE0
    obtain ⟨k, hk, rfl, hR, hb⟩ := hrel
    have HR : Hid (eachR B m (A.drop k) = E) := hR
    clear hR
    by_cases hlt : k < na
    · obtain ⟨g, off, cur, t, fr, U, N, rfl, hg, hcc, hCk, hU, hN⟩ := HA.out.at k hlt
      have hUl := hU.1
      have hNl := hN.1
      have hg' : wr.heap[g]? = some (.cells cur t fr) := (hb.block g (Array.getElem?_eq_some_iff.1 hg).1).trans hg
      have HE : Hid (∀ j, j < 26 → cur[off + k * 26 + j]? = (cv U N)[j]?) := hcc
      have D1 : Hid (∀ W, Sl W (.slice ob nb cb) B → Calls Try.prog 19 #[(.slice ob nb cb), .agg (cv U N), .int .i64 m] W fun e w' => e = .returned (.tuple #[.bool (covB (leftC U N B (bnd m))), .int .i64 (errI (leftC U N B (bnd m)))]) ∧ Below W.heap.size W w') := fun W h => rcovers_any U N hU hN B hB m _ W h
      have HST : Hid (eachR B m (A.drop k) = if covB (leftC U N B (bnd m)) = true then eachR B m (A.drop (k + 1)) else (false, errI (leftC U N B (bnd m)))) := eachR_cons hCk
      have HS2 : Hid (Sl wr (.slice ob nb cb) B) := HB.out.below hb
      obtain ⟨x, hx⟩ : ∃ x, x = covB (leftC U N B (bnd m)) := ⟨_, rfl⟩
      obtain ⟨y, hy⟩ : ∃ y, y = errI (leftC U N B (bnd m)) := ⟨_, rfl⟩
      rw [← hx, ← hy] at D1 HST
      clear hg hcc hCk hU hN hx hy
      go_wp2_with (first
        | (refine wl_loadCat rfl _ rfl g (off + k * 26) rfl cur t fr U N hUl hNl hg' HE.out ?_))
      refine (D1.out _ HS2.out).mono ?_
      rintro e w4 ⟨rfl, hb4⟩
      have B4 := hb.trans (hb4.mono hb.size)
      clear hb4 D1 HS2 hg' hb
      cases x
      · go_wp2_with fail
        go_ret2
        refine ⟨?_, B4⟩
        have := HR.out
        rw [HST.out] at this
        have h2 : (false, y) = E := by simpa using this
        rw [HSE.out, ← h2]; rfl
      · go_wp2_with fail
        go_roundw
        case rel =>
          refine ⟨k + 1, by omega, by go_num, ?_, B4⟩
          have := HR.out
          rw [HST.out] at this
          simpa using this
        case measure => simp [intOf]; omega
    · obtain rfl : k = na := by omega
      have HET : Hid (S = F) := by
        have := HR.out
        rw [HNA.out, List.drop_length] at this
        show S = F
        rw [HSE.out, ← this]; rfl
      clear HR HSE
      obtain ⟨w0, hw0⟩ : ∃ w0 : World, w0 = wr := ⟨_, rfl⟩
      rw [← hw0] at hb ⊢
      clear hw0 wr
      go_wp2_with fail
      go_loopw [11] (fun i wr => ∃ k : Nat, k ≤ nb ∧ i = .int .i64 k ∧ eachR A m (B.drop k) = F ∧ Below w.heap.size w wr) (fun i _ => nb - (intOf i).toNat)
      case atStart => exact ⟨0, Nat.zero_le _, rfl, HF0.out, hb⟩
      case round =>
        clear HF0 hb
        obtain ⟨na, hna⟩ : ∃ n, n = k := ⟨_, rfl⟩
        rw [← hna] at HA ⊢
        clear hna hlt HNA ba hk
        obtain ⟨k, hk, rfl, hR, hb⟩ := hrel
        have HR : Hid (eachR A m (B.drop k) = F) := hR
        clear hR
        by_cases hlt : k < nb
        · obtain ⟨g, off, cur, t, fr, U, N, rfl, hg, hcc, hCk, hU, hN⟩ := HB.out.at k hlt
          have hUl := hU.1
          have hNl := hN.1
          have hg' : wr.heap[g]? = some (.cells cur t fr) := (hb.block g (Array.getElem?_eq_some_iff.1 hg).1).trans hg
          have HE : Hid (∀ j, j < 26 → cur[off + k * 26 + j]? = (cv U N)[j]?) := hcc
          have D1 : Hid (∀ W, Sl W (.slice oa na ca) A → Calls Try.prog 19 #[(.slice oa na ca), .agg (cv U N), .int .i64 m] W fun e w' => e = .returned (.tuple #[.bool (covB (leftC U N A (bnd m))), .int .i64 (errI (leftC U N A (bnd m)))]) ∧ Below W.heap.size W w') := fun W h => rcovers_any U N hU hN A hA m _ W h
          have HST : Hid (eachR A m (B.drop k) = if covB (leftC U N A (bnd m)) = true then eachR A m (B.drop (k + 1)) else (false, errI (leftC U N A (bnd m)))) := eachR_cons hCk
          have HS2 : Hid (Sl wr (.slice oa na ca) A) := HA.out.below hb
          obtain ⟨x, hx⟩ : ∃ x, x = covB (leftC U N A (bnd m)) := ⟨_, rfl⟩
          obtain ⟨y, hy⟩ : ∃ y, y = errI (leftC U N A (bnd m)) := ⟨_, rfl⟩
          rw [← hx, ← hy] at D1 HST
          clear hg hcc hCk hU hN hx hy
          go_wp2_with (first
            | (refine wl_loadCat rfl _ rfl g (off + k * 26) rfl cur t fr U N hUl hNl hg' HE.out ?_))
          refine (D1.out _ HS2.out).mono ?_
          rintro e w4 ⟨rfl, hb4⟩
          have B4 := hb.trans (hb4.mono hb.size)
          clear hb4 D1 HS2 hg' hb
          cases x
          · go_wp2_with fail
            go_ret2
            refine ⟨?_, B4⟩
            have := HR.out
            rw [HST.out] at this
            have h2 : (false, y) = F := by simpa using this
            rw [HET.out, ← h2]; rfl
          · go_wp2_with fail
            go_roundw
            case rel =>
              refine ⟨k + 1, by omega, by go_num, ?_, B4⟩
              have := HR.out
              rw [HST.out] at this
              simpa using this
            case measure => simp [intOf]; omega
        · obtain rfl : k = nb := by omega
          go_wp2_with fail
          go_ret2
          refine ⟨?_, hb⟩
          have := HR.out
          rw [HNB.out, List.drop_length] at this
          rw [HET.out, ← this]; rfl
end Go.Proofs.Ytjlghkiplapodaa
namespace Go.Proofs.Ytjlghkiplapodaa
open Go Go.RowKit

theorem wl_min {ops : Array Oper} {rest : List Oper} {o : Oper} {a : Act} {w : World} {Q : Exit → Act → World → Prop} (hgd : o.guard = none) (x y : Operand) (ho : o.op = .call { callee := .builtin .min, args := #[x, y], argTypes := #[3, 3] })
    (n k : Nat) (hx : a.eval x = .int .i64 n) (hy : a.eval y = .int .i64 40) (hk : k = min n 40) (h : wpList Try.prog ops Q rest (a.put o.dst (.int .i64 k)) w) : wpList Try.prog ops Q (o :: rest) a w := by
  obtain ⟨dst, op, ty, pos, after, guard⟩ := o
  subst ho
  have hr : (execOp a.eval ⟨dst, .call { callee := .builtin .min, args := #[x, y], argTypes := #[3, 3] }, ty, pos, after, guard⟩).run Try.prog w = .ok (.value (.int .i64 k)) w := by
    subst hk
    by_cases h1 : 40 < n
    · have e : ((min n 40 : Nat) : Int) = 40 := by omega
      have h4 : ¬ (n : Int) ≤ 40 := by omega
      rw [e]
      unfold execOp
      simp [resolve, invoke, builtin, hx, hy, Builtin.min_, Builtin.min2, h4]
    · have e : ((min n 40 : Nat) : Int) = n := by omega
      rw [e]
      unfold execOp
      simp [resolve, invoke, builtin, hx, hy, Builtin.min_, Builtin.min2]
      omega
  refine wpList_plain hgd fun K hK => ?_
  unfold Oper.wp
  rw [hr]
  exact hK _ _ h
/-- The first forty at most. -/
theorem Sl.cut {w : World} {o : Option Addr} {n cap : Nat} {C : List (List Int × List Int)} (h : Sl w (.slice o n cap) C) (k : Nat) (hk : k = min n 40) : Sl w (.slice o k cap) (C.take k) := h.take k (by omega)
theorem cut_len {C : List (List Int × List Int)} {k : Nat} (hk : k ≤ 40) : (C.take k).length ≤ 1000000 := by rw [List.length_take]; omega
end Go.Proofs.Ytjlghkiplapodaa
namespace Go.Proofs.Ytjlghkiplapodaa
open Go Go.RowKit

theorem has_meet (V M V' M' H : List Int) (h : meets V M V' M' = true) : has (meetV V M V' M') (meetM M M') H = (has V M H && has V' M' H) := by
  rw [Bool.eq_iff_iff, Bool.and_eq_true, has_iff, has_iff, has_iff]
  have hm := (meets_iff V M V' M').1 h
  have e1 : ∀ i, i < 104 → bt (meetV V M V' M') i = ((bt V i && bt M i) || (bt V' i && bt M' i)) := fun i hi => mk_bt _ i hi
  have e2 : ∀ i, i < 104 → bt (meetM M M') i = (bt M i || bt M' i) := fun i hi => mk_bt _ i hi
  constructor
  · intro g
    constructor
    · intro i hi h1
      have h3 := g i hi (by rw [e2 i hi, h1]; rfl)
      rw [e1 i hi, h1] at h3
      have h4 := hm i hi h1
      revert h3 h4
      cases bt V i <;> cases bt V' i <;> cases bt M' i <;> cases bt H i <;> simp
    · intro i hi h1
      have h3 := g i hi (by rw [e2 i hi, h1]; simp)
      rw [e1 i hi, h1] at h3
      have h4 := fun h => hm i hi h h1
      revert h3 h4
      cases bt V i <;> cases bt V' i <;> cases bt M i <;> cases bt H i <;> simp
  · rintro ⟨g1, g2⟩ i hi h1
    have h3 := g1 i hi
    have h4 := g2 i hi
    rw [e2 i hi] at h1
    rw [e1 i hi]
    revert h1 h3 h4
    cases bt V i <;> cases bt V' i <;> cases bt M i <;> cases bt M' i <;> cases bt H i <;> simp
theorem has_meets {V M V' M' H : List Int} (h : has V M H = true) (h' : has V' M' H = true) : meets V M V' M' = true := by
  rw [has_iff] at h h'
  exact (meets_iff _ _ _ _).2 fun i hi h1 h2 => by rw [h i hi h1, h' i hi h2]
end Go.Proofs.Ytjlghkiplapodaa
