import Derived.Test.YthddlchkbnmcaaaGreatDoorJ35
import Derived.Test.YthddlchkbnmcaaaGreatDoorJ36
import Derived.Test.YthddlchkbnmcaaaGreatDoorJ26
import Derived.Test.YthddlchkbnmcaaaGreatDoorJ16
import Derived.Test.YthddlchkbnmcaaaGreatDoorJ1
namespace Go.Proofs.YthddlchkbnmcaaaGreatDoor
open Go Go.RowKit
set_option maxRecDepth 20000

abbrev CubeT := List Int × List Int
def allC : CubeT := (Z, Z)
def clip8 (n : Int) : Nat := (min (max n 0) 32).toNat
/-- The cubes of a prefix, and of a protocol. -/
def prefL (f : Int) (v : Int) (n : Int) : List CubeT := [(pxV f v.toNat (clip8 n), pxM f (clip8 n))]
def protL (n : Int) : List CubeT := if n = -1 then [allC] else if 0 ≤ n ∧ n ≤ 255 then [(pxV 4 n.toNat 8, pxM 4 8)] else []
theorem m0_Z : m0 = Z := by rw [Z_eq]; rfl
theorem all8 (w : World) : Calls Tryz.prog 14 #[] w fun e w' => e = .returned (.agg (cv Z Z)) ∧ Below w.heap.size w w' := by
  have := all0 w
  rwa [m0_Z] at this
theorem own_one8 (w : World) (V M : List Int) (hV : Byt V) (hM : Byt M) : (w.alloc (.cells (cv V M) 37)).ownsRow w.heap.size 37 26 (.slice (some ⟨w.heap.size, 0, none⟩) 1 1) 1 (ccells [(V, M)]) := by
  have := World.ownsRow_lit (base := w.heap.size) (e := 37) (size := 26) w (cv V M) 1 (Nat.le_refl _) (by unfold maxLen; omega) (by rw [cv_size _ _ hV.1 hM.1])
  rw [← ccells_one] at this
  exact this
theorem byts_one {V M : List Int} (hV : Byt V) (hM : Byt M) : Byts [(V, M)] := fun c hc => by rw [List.mem_singleton.1 hc]; exact ⟨hV, hM⟩
theorem sl_one8 (w : World) (V M : List Int) (hV : Byt V) (hM : Byt M) : Sl (w.alloc (.cells (cv V M) 37)) (.slice (some ⟨w.heap.size, 0, none⟩) 1 1) [(V, M)] := sl_of (own_one8 w V M hV hM) (byts_one hV hM)
theorem sl_two8 (w : World) (V M : List Int) (hV : Byt V) (hM : Byt M) : Sl ((w.alloc (.cells (cv V M) 37)).alloc (.cells (cv V M) 37)) (.slice (some ⟨w.heap.size + 1, 0, none⟩) 1 1) [(V, M)] := by
  have := sl_one8 (w.alloc (.cells (cv V M) 37)) V M hV hM
  rw [show (w.alloc (.cells (cv V M) 37)).heap.size = w.heap.size + 1 by simp] at this
  exact this
theorem sl_none8 (w : World) : Sl w (.slice none 0 0) [] := sl_of (C := []) (World.ownsRow_nil w w.heap.size _ _) (fun c hc => absurd hc (by simp))

set_option maxHeartbeats 2000000 in
theorem prefix8_any (f v n : Int) (hf : f = 0 ∨ f = 1) (h0 : 0 ≤ v) (h1 : v < 4294967296) (w : World) (hP : Places w) :
    Calls Tryz.prog 31 #[.int .i64 f, .int .u32 v, .int .i64 n] w fun e w' => (∃ u, e = .returned u ∧ Sl w' u (prefL f v n)) ∧ Below w.heap.size w w' := by
  obtain ⟨v', rfl⟩ := Int.eq_ofNat_of_zero_le h0
  obtain ⟨k, hk⟩ : ∃ k, k = clip8 n := ⟨_, rfl⟩
  have PX := prefix_ok f v' k w hf (by omega) (by rw [hk]; unfold clip8; omega) hP
  unfold prefL
  rw [← hk, Int.toNat_natCast]
  have hV := pxV_byt f v' k
  have hM := pxM_byt f k
  obtain ⟨V, hVe⟩ : ∃ V, V = pxV f v' k := ⟨_, rfl⟩
  obtain ⟨M, hMe⟩ : ∃ M, M = pxM f k := ⟨_, rfl⟩
  rw [← hVe] at PX hV ⊢
  rw [← hMe] at PX hM ⊢
  have HPX : Hid (∀ W, W = w → Calls Tryz.prog 55 #[.int .i64 f, .int .u32 (v' : Int), .int .i64 (k : Int)] W fun e w' => e = .returned (.tuple #[.agg (cv V M), .int .i64 0]) ∧ Below w.heap.size w w') := fun W hW => by subst hW; exact PX
  obtain ⟨mx, hmx⟩ : ∃ mx, mx = max n 0 := ⟨_, rfl⟩
  have HMX : Hid (mx = max n 0) := hmx
  have HMN : Hid ((k : Int) = min mx 32) := by show _ = _; rw [hk, hmx]; unfold clip8; omega
  have hVl := hV.1
  have hMl := hM.1
  clear PX hVe hMe hk hP hmx
  go_enter Tryz.func31, Tryz.ntmps31
  go_wp2_with (first
    | (refine wl_maxI rfl _ _ rfl n 0 mx rfl rfl HMX.out ?_)
    | (refine wl_minI rfl _ _ rfl mx 32 (k : Int) rfl rfl HMN.out ?_))
  refine (HPX.out _ rfl).mono ?_
  rintro e w1 ⟨rfl, hb1⟩
  have B1 : Hid (Below w.heap.size w w1) := hb1
  have K1 : Hid ((w1.alloc (.cells (cv V M) 37)).heap[w1.heap.size]? = some (.cells (cv V M) 37 (0, 0))) := heap_new _ _ _ rfl
  clear hb1
  go_wp2_with (first
    | (refine wl_storeC rfl _ _ rfl w1.heap.size V M rfl rfl _ (heap_new _ _ _ rfl) rfl hVl hMl _ (setRow_new _ _ _ _ _ rfl) ?_)
    | (refine wl_loadC rfl _ rfl w1.heap.size rfl V M K1.out hVl hMl ?_)
    | (refine wl_build1 rfl _ rfl V M hVl hMl rfl ?_))
  go_ret
  exact ⟨⟨_, rfl, sl_two8 w1 V M hV hM⟩, (B1.out.alloc B1.out.size _).alloc (by have := B1.out.size; simp; omega) _⟩

set_option maxHeartbeats 2000000 in
theorem protos_any (n : Int) (w : World) (hP : Places w) :
    Calls Tryz.prog 32 #[.int .i64 n] w fun e w' => (∃ u, e = .returned u ∧ Sl w' u (protL n)) ∧ Below w.heap.size w w' := by
  have hZl := Z_byt.1
  by_cases h1 : n = -1
  · subst h1
    have HA : Hid (∀ W, Calls Tryz.prog 14 #[] W fun e w' => e = .returned (.agg (cv Z Z)) ∧ Below W.heap.size W w') := all8
    rw [show protL (-1) = [allC] from rfl]
    go_enter Tryz.func32, Tryz.ntmps32
    go_wp2_with fail
    refine (HA.out _).mono ?_
    rintro e w1 ⟨rfl, hb1⟩
    have B1 : Hid (Below w.heap.size w w1) := hb1
    clear hb1
    go_wp2_with (refine wl_build1 rfl _ rfl Z Z hZl hZl rfl ?_)
    go_ret
    exact ⟨⟨_, rfl, sl_one8 _ Z Z Z_byt Z_byt⟩, B1.out.alloc B1.out.size _⟩
  · have h1' : (n == -1) = false := by simp [h1]
    by_cases h2 : 0 ≤ n ∧ n ≤ 255
    · obtain ⟨k, rfl⟩ := Int.eq_ofNat_of_zero_le h2.1
      have PX := proto_ok k w (by omega) hP
      rw [show protL (k : Int) = [(pxV 4 k 8, pxM 4 8)] by unfold protL; rw [if_neg h1, if_pos h2, Int.toNat_natCast]]
      have hV := pxV_byt 4 k 8
      have hM := pxM_byt 4 8
      obtain ⟨V, hVe⟩ : ∃ V, V = pxV 4 k 8 := ⟨_, rfl⟩
      obtain ⟨M, hMe⟩ : ∃ M, M = pxM 4 8 := ⟨_, rfl⟩
      rw [← hVe] at PX hV ⊢
      rw [← hMe] at PX hM ⊢
      have HPX : Hid (∀ W, W = w → Calls Tryz.prog 56 #[.int .i64 (k : Int)] W fun e w' => e = .returned (.tuple #[.agg (cv V M), .int .i64 0]) ∧ Below w.heap.size w w') := fun W hW => by subst hW; exact PX
      have hVl := hV.1
      have hMl := hM.1
      clear PX hVe hMe hP h1 h2
      go_enter Tryz.func32, Tryz.ntmps32
      go_wp2_with fail
      refine (HPX.out _ rfl).mono ?_
      rintro e w1 ⟨rfl, hb1⟩
      have B1 : Hid (Below w.heap.size w w1) := hb1
      have K1 : Hid ((w1.alloc (.cells (cv V M) 37)).heap[w1.heap.size]? = some (.cells (cv V M) 37 (0, 0))) := heap_new _ _ _ rfl
      clear hb1
      go_wp2_with (first
        | (refine wl_storeC rfl _ _ rfl w1.heap.size V M rfl rfl _ (heap_new _ _ _ rfl) rfl hVl hMl _ (setRow_new _ _ _ _ _ rfl) ?_)
        | (refine wl_loadC rfl _ rfl w1.heap.size rfl V M K1.out hVl hMl ?_)
        | (refine wl_build1 rfl _ rfl V M hVl hMl rfl ?_))
      go_ret
      exact ⟨⟨_, rfl, sl_two8 w1 V M hV hM⟩, (B1.out.alloc B1.out.size _).alloc (by have := B1.out.size; simp; omega) _⟩
    · have PX := proto_no n w h2
      rw [show protL n = [] by unfold protL; rw [if_neg h1, if_neg h2]]
      have HPX : Hid (∀ W, W = w → Calls Tryz.prog 56 #[.int .i64 n] W fun e w' => e = .returned (.tuple #[.agg (cv Z Z), .int .i64 10]) ∧ Below w.heap.size w w') := fun W hW => by subst hW; exact PX
      clear PX hP h1 h2
      go_enter Tryz.func32, Tryz.ntmps32
      go_wp2_with fail
      refine (HPX.out _ rfl).mono ?_
      rintro e w1 ⟨rfl, hb1⟩
      have B1 : Hid (Below w.heap.size w w1) := hb1
      clear hb1
      go_wp2_with (refine wl_storeC rfl _ _ rfl w1.heap.size Z Z rfl rfl _ (heap_new _ _ _ rfl) rfl hZl hZl _ (setRow_new _ _ _ _ _ rfl) ?_)
      go_ret
      exact ⟨⟨_, rfl, sl_none8 _⟩, B1.out.alloc B1.out.size _⟩

theorem crossR_len (c : CubeT) (B : List CubeT) : (crossR c B).length ≤ B.length := by
  unfold crossR
  rw [List.length_map]
  exact List.length_filter_le _ _
theorem crossL_len (A B : List CubeT) : (crossL A B).length ≤ A.length * B.length := by
  induction A with
  | nil => simp [crossL]
  | cons c A ih =>
    have h := crossR_len c B
    have e : crossL (c :: A) B = crossR c B ++ crossL A B := rfl
    rw [e, List.length_append, List.length_cons, Nat.add_mul, Nat.one_mul]
    omega
/-- Lists crossed, one behind the other. -/
def meetsL (L : List (List CubeT)) : List CubeT := L.foldl crossL [allC]
theorem meetsL_take {L : List (List CubeT)} {k : Nat} {l : List CubeT} (h : L[k]? = some l) : meetsL (L.take (k + 1)) = crossL (meetsL (L.take k)) l := by
  unfold meetsL
  rw [List.take_add_one, h, List.foldl_append]
  rfl
theorem byts_crossL (A B : List CubeT) : Byts (crossL A B) := fun c hc => by
  unfold crossL crossR at hc
  obtain ⟨a, ha, hc⟩ := List.mem_flatMap.1 hc
  obtain ⟨b, hb, rfl⟩ := List.mem_map.1 hc
  exact ⟨meetV_byt _ _ _ _, meetM_byt _ _⟩
/-- Lists of cubes in a row. -/
def ListsAt (w : World) (v : Value) (L : List (List CubeT)) : Prop :=
  ∃ g vs, v = .slice (some ⟨g, 0, none⟩) L.length L.length ∧ w.heap[g]? = some (.cells vs 49 (0, 0)) ∧ ∀ (i : Nat) (l : List CubeT), L[i]? = some l → ∃ u, vs[i]? = some u ∧ Sl w u l

set_option maxHeartbeats 4000000 in
theorem meets_any (L : List (List CubeT)) (vl : Value) (w : World) (hl : ListsAt w vl L) (hn : L.length ≤ 100) (hb1 : ∀ l ∈ L, l.length ≤ 1000) (hb2 : ∀ k, (meetsL (L.take k)).length ≤ 1000) :
    Calls Tryz.prog 30 #[vl] w fun e w' => (∃ u, e = .returned u ∧ w'.ownsRow w.heap.size 37 26 u (meetsL L).length (ccells (meetsL L))) ∧ Below w.heap.size w w' := by
  have hZl := Z_byt.1
  have HA : Hid (∀ W, Calls Tryz.prog 14 #[] W fun e w' => e = .returned (.agg (cv Z Z)) ∧ Below W.heap.size W w') := all8
  have HC : Hid (∀ (A B : List CubeT) va vb W, A.length ≤ 1000 → B.length ≤ 1000 → (crossL A B).length ≤ 1000 → Sl W va A → Sl W vb B → Calls Tryz.prog 54 #[va, vb, .int .i64 2048] W fun e w' => (∃ u, e = .returned (.tuple #[u, .int .i64 0]) ∧ w'.ownsRow W.heap.size 37 26 u (crossL A B).length (ccells (crossL A B))) ∧ Below W.heap.size W w') := fun A B va vb W h1 h2 h3 h4 h5 => (cross_any A B h1 h2 2048 va vb W h4 h5).mono fun e w' h => by
    obtain ⟨h | h, hb⟩ := h
    · obtain ⟨u, e1, _, e3⟩ := h
      exact ⟨⟨u, e1, e3⟩, hb⟩
    · exfalso
      have := h.2
      rw [show bnd4 2048 = 2048 from rfl] at this
      omega
  obtain ⟨g, vs, rfl, hg, hvs⟩ := hl
  obtain ⟨n, hn0⟩ : ∃ n, n = L.length := ⟨_, rfl⟩
  have HN : Hid (n = L.length) := hn0
  rw [← hn0] at hn ⊢
  have HG : Hid (w.heap[g]? = some (.cells vs 49 (0, 0))) := hg
  have HV : Hid (∀ (i : Nat) (l : List CubeT), L[i]? = some l → ∃ u, vs[i]? = some u ∧ Sl w u l) := hvs
  have HB1 : Hid (∀ l ∈ L, l.length ≤ 1000) := hb1
  have HB2 : Hid (∀ k, (meetsL (L.take k)).length ≤ 1000) := hb2
  clear hg hvs hb1 hb2 hn0
  go_enter Tryz.func30, Tryz.ntmps30
  go_wp2_with fail
  refine (HA.out _).mono ?_
  rintro e w1 ⟨rfl, hbw⟩
  have B1 : Hid (Below w.heap.size w (w1.alloc (.cells (cv Z Z) 37))) := hbw.alloc hbw.size _
  have O1 : Hid ((w1.alloc (.cells (cv Z Z) 37)).ownsRow w.heap.size 37 26 (.slice (some ⟨w1.heap.size, 0, none⟩) 1 1) (meetsL (L.take 0)).length (ccells (meetsL (L.take 0))) ∧ Byts (meetsL (L.take 0))) := ⟨gown_base (own_one8 w1 Z Z Z_byt Z_byt) hbw.size, byts_one Z_byt Z_byt⟩
  clear hbw
  go_wp2_with (refine wl_build1 rfl _ rfl Z Z hZl hZl rfl ?_)
  go_loopw [3, 10] (fun v i wr => ∃ (k : Nat) (C : List CubeT), k ≤ n ∧ i = .int .i64 (k : Int) ∧ Hid (C = meetsL (L.take k)) ∧ wr.ownsRow w.heap.size 37 26 v C.length (ccells C) ∧ Byts C ∧ Below w.heap.size w wr) (fun _ i _ => n - (intOf i).toNat)
  case atStart => exact ⟨0, _, Nat.zero_le _, rfl, rfl, O1.out.1, O1.out.2, B1.out⟩
  case round =>
    clear O1 B1
    obtain ⟨k, C, hk, rfl, HCE, hown, hbyt, hb⟩ := hrel
    have HO : Hid (wr.ownsRow w.heap.size 37 26 u3 C.length (ccells C)) := hown
    have HY : Hid (Byts C) := hbyt
    have HB : Hid (Below w.heap.size w wr) := hb
    clear hown hb hbyt
    by_cases hlt : k < n
    · have hlt' : (k : Int) < (n : Int) := by omega
      obtain ⟨l, hlk⟩ : ∃ l, L[k]? = some l := ⟨_, List.getElem?_eq_getElem (by have := HN.out; omega)⟩
      obtain ⟨u, hu, hsl⟩ := HV.out k l hlk
      have hgr : wr.heap[g]? = some (.cells vs 49 (0, 0)) := (HB.out.block g (Array.getElem?_eq_some_iff.1 HG.out).1).trans HG.out
      have cx : wr.cell? ⟨g, k, none⟩ = some u := by rw [cell_of_row _ _ _ _ _ _ hgr]; exact hu
      have SLW : Hid (Sl wr u l) := hsl.below HB.out
      have SC : Hid (Sl wr u3 C) := sl_of HO.out HY.out
      have HT : Hid (meetsL (L.take (k + 1)) = crossL C l) := by show _ = _; rw [HCE.out]; exact meetsL_take hlk
      have H1 : Hid (C.length ≤ 1000) := by show _ ≤ _; rw [HCE.out]; exact HB2.out k
      have H2 : Hid (l.length ≤ 1000) := HB1.out l (List.mem_of_getElem? hlk)
      have H3 : Hid ((crossL C l).length ≤ 1000) := by show _ ≤ _; rw [← HT.out]; exact HB2.out (k + 1)
      obtain ⟨o, cap, rfl, _, _⟩ := hsl.slice
      have HLT : Hid (k < n) := hlt
      clear hu hsl hgr hlk hlt
      go_wp2_with fail
      refine (HC.out C l _ _ _ H1.out H2.out H3.out SC.out SLW.out).mono ?_
      rintro e w2 ⟨⟨v, rfl, ho2⟩, hb2⟩
      have O2 : Hid (w2.ownsRow w.heap.size 37 26 v (crossL C l).length (ccells (crossL C l))) := gown_base ho2 HB.out.size
      have B2 : Hid (Below w.heap.size w w2) := HB.out.trans (hb2.mono HB.out.size)
      clear ho2 hb2
      go_wp2_with fail
      go_roundw
      case rel =>
        have := HLT.out
        exact ⟨k + 1, crossL C l, by omega, by go_num, HT.out.symm, O2.out, byts_crossL _ _, B2.out⟩
      case measure =>
        have := HLT.out
        simp [intOf]; omega
    · have hlt' : ¬ (k : Int) < (n : Int) := by omega
      have HE : Hid (C = meetsL L) := by
        have := HN.out
        show _ = _
        rw [HCE.out, List.take_of_length_le (by omega)]
      go_wp2_with fail
      go_ret
      exact ⟨⟨_, rfl, by rw [← HE.out]; exact HO.out⟩, HB.out⟩
end Go.Proofs.YthddlchkbnmcaaaGreatDoor
