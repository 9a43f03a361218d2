import Derived.Test.YthddlchkbnmcaaaGreatDoorJ19
import Derived.Test.YthddlchkbnmcaaaGreatDoorJ9
import Derived.Test.YthddlchkbnmcaaaGreatDoorJ1
namespace Go.Proofs.YthddlchkbnmcaaaGreatDoor
open Go Go.RowKit
set_option maxRecDepth 20000

/-- One cube appended to one's own row of them, and where the new row lies. -/
theorem wl_append1 {ops : Array Oper} {rest : List Oper} {o : Oper} {a : Act} {w : World} {Q : Exit → Act → World → Prop} (hgd : o.guard = none) (s x : Operand) (ho : o.op = .call { callee := .builtin .append, args := #[s, x], argTypes := #[49, 49] })
    (base : Nat) (v : Value) (C : List (List Int × List Int)) (V M : List Int) (hV : V.length = 13) (hM : M.length = 13) (hs : a.eval s = v) (hown : w.ownsRow base 37 26 v C.length (ccells C)) (g cap : Nat) (hx : a.eval x = .slice (some ⟨g, 0, none⟩) 1 cap) (hg : w.heap[g]? = some (.cells (cv V M) 37 (0, 0)))
    (hn : C.length ≤ 1000000) (hbase : base ≤ w.heap.size)
    (h : ∀ v' w', w'.ownsRow base 37 26 v' (C ++ [(V, M)]).length (ccells (C ++ [(V, M)])) → w.grownBy w' v.ownBlock → (v'.ownBlock = v.ownBlock ∨ v'.ownBlock = some w.heap.size) → wpList Tryz.prog ops Q rest (a.put o.dst v') w') : wpList Tryz.prog ops Q (o :: rest) a w := by
  obtain ⟨i0, hi, hz0, hz1, hz2⟩ := infoC
  have hsz := cv_size V M hV hM
  refine wpList_append_own_at _ hgd s x 49 ho base 37 i0 (.agg zeroC) 26 26 Tryz.underlying49 hi hz0 hz1 hz2 rfl (by decide) v _ _ hs hown ⟨g, 0, none⟩ 1 cap (cv V M).toList hx (by simp [hsz]) (fun j y hy => ?_) (fun u hu => ?_) (by unfold maxLen; omega) (by omega) hbase ?_
  · have hadd : (⟨g, 0, none⟩ : Addr).add j = ⟨g, j, none⟩ := by unfold Addr.add; split <;> simp_all
    rw [hadd, cell_of_row w g j _ _ _ hg, ← hy]
    simp
  · exact (Array.all_eq_true_iff_forall_mem.1 (cv_one V M)) u (by simpa using hu)
  · intro v' w' h5 h6 _ h7
    refine h v' w' ?_ h6 h7
    rw [List.length_append, ccells_append, ccells_one]; exact h5

theorem own_ne {w : World} {B : Nat} {e : TypeId} {s : Nat} {v : Value} {n : Nat} {xs : List Value} (h : w.ownsRow B e s v n xs) {g : Nat} (hg : w.heap.size ≤ g) : v.ownBlock ≠ some g := fun hq => by
  have := (h.lt g hq).2
  omega
end Go.Proofs.YthddlchkbnmcaaaGreatDoor
namespace Go.Proofs.YthddlchkbnmcaaaGreatDoor
open Go Go.RowKit
set_option maxRecDepth 20000

/-- What a cube has together with each of a list. -/
def crossR (c : List Int × List Int) (B : List (List Int × List Int)) : List (List Int × List Int) := (B.filter fun d => meets c.1 c.2 d.1 d.2).map fun d => (meetV c.1 c.2 d.1 d.2, meetM c.2 d.2)
/-- What each of one list has together with each of another one. -/
def crossL (A B : List (List Int × List Int)) : List (List Int × List Int) := A.flatMap fun c => crossR c B
theorem crossR_take {c d : List Int × List Int} {B : List (List Int × List Int)} {k : Nat} (hk : B[k]? = some d) : crossR c (B.take (k + 1)) = crossR c (B.take k) ++ (if meets c.1 c.2 d.1 d.2 then [(meetV c.1 c.2 d.1 d.2, meetM c.2 d.2)] else []) := by
  unfold crossR
  rw [List.take_add_one, hk, List.filter_append, List.map_append]
  congr 1
  cases h : meets c.1 c.2 d.1 d.2 <;> simp [h]
theorem crossL_take {c : List Int × List Int} {A B : List (List Int × List Int)} {k : Nat} (hk : A[k]? = some c) : crossL (A.take (k + 1)) B = crossL (A.take k) B ++ crossR c B := by
  unfold crossL
  rw [List.take_add_one, hk]
  simp
theorem crossR_le (c : List Int × List Int) (B : List (List Int × List Int)) (k : Nat) : (crossR c (B.take k)).length ≤ (crossR c B).length := by
  conv => rhs; rw [← List.take_append_drop k B]
  unfold crossR
  rw [List.filter_append, List.map_append, List.length_append]
  omega
theorem crossL_le (A B : List (List Int × List Int)) (k : Nat) : (crossL (A.take k) B).length ≤ (crossL A B).length := by
  conv => rhs; rw [← List.take_append_drop k A]
  unfold crossL
  rw [List.flatMap_append, List.length_append]
  omega
/-- So much as came to be is not more than all. -/
theorem cross_part {c : List Int × List Int} {A B : List (List Int × List Int)} {i : Nat} (hi : A[i]? = some c) (j : Nat) : (crossL (A.take i) B ++ crossR c (B.take j)).length ≤ (crossL A B).length := by
  have h1 := crossL_le A B (i + 1)
  rw [crossL_take hi, List.length_append] at h1
  have h2 := crossR_le c B j
  rw [List.length_append]
  omega

/-- What a number of cubes counts as. -/
def bnd4 (m : Int) : Nat := (min (max m 0) 2048).toNat
theorem bnd4_le (m : Int) : bnd4 m ≤ 2048 := by unfold bnd4; omega
theorem bnd4_eq (m : Int) : ((bnd4 m : Nat) : Int) = min (max m 0) 2048 := by unfold bnd4; omega

set_option maxHeartbeats 4000000 in
theorem cross_any (A B : List (List Int × List Int)) (hA : A.length ≤ 1000) (hB : B.length ≤ 1000) (m : Int) (va vb : Value) (w : World) (hsa : Sl w va A) (hsb : Sl w vb B) :
    Calls Tryz.prog 54 #[va, vb, .int .i64 m] w fun e w' => ((∃ u, e = .returned (.tuple #[u, .int .i64 0]) ∧ (crossL A B).length ≤ bnd4 m ∧ w'.ownsRow w.heap.size 37 26 u (crossL A B).length (ccells (crossL A B))) ∨ (e = .returned (.tuple #[.slice none 0 0, .int .i64 4]) ∧ bnd4 m < (crossL A B).length)) ∧ Below w.heap.size w w' := by
  obtain ⟨oa, capa, rfl, _, _⟩ := hsa.slice
  obtain ⟨ob, capb, rfl, _, _⟩ := hsb.slice
  obtain ⟨na, hna⟩ : ∃ n, n = A.length := ⟨_, rfl⟩
  obtain ⟨nb, hnb⟩ : ∃ n, n = B.length := ⟨_, rfl⟩
  rw [← hna] at hsa hA ⊢
  rw [← hnb] at hsb hB ⊢
  have HNA : Hid (na = A.length) := hna
  have HNB : Hid (nb = B.length) := hnb
  have HSA : Hid (Sl w (.slice oa na capa) A) := hsa
  have HSB : Hid (Sl w (.slice ob nb capb) B) := hsb
  obtain ⟨q, hq⟩ : ∃ q, q = max m 0 := ⟨_, rfl⟩
  have HQ : Hid (q = max m 0) := hq
  obtain ⟨most, hmo⟩ : ∃ most, most = bnd4 m := ⟨_, rfl⟩
  have hmost : most ≤ 2048 := by rw [hmo]; exact bnd4_le m
  have HMO : Hid ((most : Int) = min q 2048) := by show _ = _; rw [hmo, hq]; exact bnd4_eq m
  rw [← hmo]
  clear hsa hsb hna hnb hq hmo
  go_enter Tryz.func54, Tryz.ntmps54
  go_wp2_with (first
    | (refine wl_maxI rfl _ _ rfl m 0 q rfl rfl HQ.out ?_)
    | (refine wl_minI rfl _ _ rfl q 2048 (most : Int) rfl rfl HMO.out ?_))
  go_loopw [8, 20] (fun out i wr => ∃ k : Nat, k ≤ na ∧ i = .int .i64 (k : Int) ∧ (crossL (A.take k) B).length ≤ most ∧ wr.ownsRow w.heap.size 37 26 out (crossL (A.take k) B).length (ccells (crossL (A.take k) B)) ∧ Below w.heap.size w wr) (fun _ i _ => na - (intOf i).toNat)
  case atStart => exact ⟨0, Nat.zero_le _, rfl, Nat.zero_le _, World.ownsRow_nil _ _ _ _, Below.refl _ _⟩
  case round =>
    obtain ⟨k, hk, rfl, hle, hown, hb⟩ := hrel
    obtain ⟨wo, hwo⟩ : ∃ wo : World, wo = wr := ⟨_, rfl⟩
    rw [← hwo] at hown hb ⊢
    clear hwo wr
    by_cases hlt : k < na
    · obtain ⟨g, off, cur, t, fr, U, N, rfl, hg, hc, hAk, hU, hN⟩ := HSA.out.at k hlt
      have hUl := hU.1
      have hNl := hN.1
      have HU : Hid (Byt U ∧ Byt N) := ⟨hU, hN⟩
      have hg' : wo.heap[g]? = some (.cells cur t fr) := (hb.block g (Array.getElem?_eq_some_iff.1 hg).1).trans hg
      have HC : Hid (∀ j, j < 26 → cur[off + k * 26 + j]? = (cv U N)[j]?) := hc
      have HT : Hid (crossL (A.take (k + 1)) B = crossL (A.take k) B ++ crossR (U, N) B) := crossL_take hAk
      have HPT : Hid (∀ j, (crossL (A.take k) B ++ crossR (U, N) (B.take j)).length ≤ (crossL A B).length) := cross_part hAk
      obtain ⟨X, hX⟩ : ∃ X, X = crossL (A.take k) B := ⟨_, rfl⟩
      rw [← hX] at hle hown HT HPT
      have OWN : Hid (wo.ownsRow w.heap.size 37 26 u8 X.length (ccells X)) := hown
      have c0 := heap_new wo (.cells (cv U N) 37) _ rfl
      have B1 := hb.alloc hb.size (.cells (cv U N) 37)
      have HNE : Hid (u8.ownBlock ≠ some wo.heap.size) := own_ne hown (Nat.le_refl _)
      have OWN1 : Hid ((wo.alloc (.cells (cv U N) 37)).ownsRow w.heap.size 37 26 u8 X.length (ccells X)) := hown.alloc _
      have zo := hb.size
      clear hg hc hAk hU hN hX hown hb
      go_wp2_with (first
        | (refine wl_loadCat rfl _ rfl g (off + k * 26) rfl cur t fr U N hUl hNl hg' HC.out ?_)
        | (refine wl_storeC rfl _ _ rfl wo.heap.size U N rfl rfl _ (heap_new _ _ _ rfl) rfl hUl hNl _ (setRow_new _ _ _ _ _ rfl) ?_))
      go_loopw [8, 26] (fun out i wr => ∃ j : Nat, j ≤ nb ∧ i = .int .i64 (j : Int) ∧ ∃ D, D = X ++ crossR (U, N) (B.take j) ∧ D.length ≤ most ∧ wr.ownsRow w.heap.size 37 26 out D.length (ccells D) ∧ out.ownBlock ≠ some wo.heap.size ∧ wr.heap[wo.heap.size]? = some (.cells (cv U N) 37 (0, 0)) ∧ Below w.heap.size w wr) (fun _ i _ => nb - (intOf i).toNat)
      case atStart => exact ⟨0, Nat.zero_le _, rfl, X, by simp [crossR], hle, OWN1.out, HNE.out, c0, B1⟩
      case round =>
        clear c0 B1 OWN1 HNE hg' OWN hle
        obtain ⟨j, hj, rfl, D, hD, hle, hown, hne, c0, hb⟩ := hrel
        have HD : Hid (D = X ++ crossR (U, N) (B.take j)) := hD
        obtain ⟨o8, cap8, rfl⟩ := own_slice hown
        obtain ⟨nd, hnd⟩ : ∃ nd, nd = D.length := ⟨_, rfl⟩
        have HND : Hid (nd = D.length) := hnd
        rw [← hnd] at hown hne hle ⊢
        have OWN : Hid (wr.ownsRow w.heap.size 37 26 (.slice o8 nd cap8) nd (ccells D)) := hown
        have HNE : Hid ((Value.slice o8 nd cap8).ownBlock ≠ some wo.heap.size) := hne
        have z0 := (Array.getElem?_eq_some_iff.1 c0).1
        clear hD hne hnd
        by_cases hjl : j < nb
        · obtain ⟨g2, off2, cur2, t2, fr2, U2, N2, rfl, hg2, hc2, hBj, hU2, hN2⟩ := HSB.out.at j hjl
          have hUl2 := hU2.1
          have hNl2 := hN2.1
          have h2g : wr.heap[g2]? = some (.cells cur2 t2 fr2) := (hb.block g2 (Array.getElem?_eq_some_iff.1 hg2).1).trans hg2
          have HC2 : Hid (∀ i, i < 26 → cur2[off2 + j * 26 + i]? = (cv U2 N2)[i]?) := hc2
          have HS : Hid (crossR (U, N) (B.take (j + 1)) = crossR (U, N) (B.take j) ++ (if meets U N U2 N2 then [(meetV U N U2 N2, meetM N N2)] else [])) := crossR_take hBj
          have ME : Hid (∀ W, Calls Tryz.prog 62 #[.agg (cv U N), .agg (cv U2 N2)] W fun e w' => e = .returned (meetR U N U2 N2) ∧ Below W.heap.size W w') := meet_any U N U2 N2 HU.out.1 HU.out.2 hU2 hN2
          have k0 := heap_past wr (.cells (cv U2 N2) 37) _ _ c0
          have k1 := heap_new wr (.cells (cv U2 N2) 37) _ rfl
          have B2 := hb.alloc hb.size (.cells (cv U2 N2) 37)
          have OWN2 : Hid ((wr.alloc (.cells (cv U2 N2) 37)).ownsRow w.heap.size 37 26 (.slice o8 nd cap8) nd (ccells D)) := hown.alloc _
          clear hg2 hc2 hBj hU2 hN2 hown OWN
          cases hm : meets U N U2 N2
          · rw [meetR_no _ _ _ _ hm] at ME
            rw [hm] at HS
            have hZl := Z_byt.1
            go_wp2_with (first
              | (refine wl_loadCat rfl _ rfl g2 (off2 + j * 26) rfl cur2 t2 fr2 U2 N2 hUl2 hNl2 h2g HC2.out ?_)
              | (refine wl_storeC rfl _ _ rfl wr.heap.size U2 N2 rfl rfl _ (heap_new _ _ _ rfl) rfl hUl2 hNl2 _ (setRow_new _ _ _ _ _ rfl) ?_)
              | (refine wl_loadC rfl _ rfl wr.heap.size rfl U2 N2 k1 hUl2 hNl2 ?_)
              | (refine wl_loadC rfl _ rfl wo.heap.size rfl U N k0 hUl hNl ?_))
            refine (ME.out _).mono ?_
            rintro e w1 ⟨rfl, hb1⟩
            have B3 := B2.trans (hb1.mono B2.size)
            have c1 : w1.heap[wo.heap.size]? = some (.cells (cv U N) 37 (0, 0)) := by rw [hb1.block _ (by simp; omega)]; exact k0
            have c2 := heap_past w1 (.cells (cv Z Z) 37) _ _ c1
            have B4 := B3.alloc B3.size (.cells (cv Z Z) 37)
            have OWN3 : Hid ((w1.alloc (.cells (cv Z Z) 37)).ownsRow w.heap.size 37 26 (.slice o8 nd cap8) nd (ccells D)) := (own_below OWN2.out hb1).alloc _
            clear hb1 k0 k1 B2 OWN2 c1 B3 h2g
            go_wp2_with (first
              | (refine wl_storeC rfl _ _ rfl w1.heap.size Z Z rfl rfl _ (heap_new _ _ _ rfl) rfl hZl hZl _ (setRow_new _ _ _ _ _ rfl) ?_))
            go_roundw
            case rel => exact ⟨j + 1, by omega, by go_num, D, by rw [HS.out, HD.out]; simp, by rw [← HND.out]; exact hle, by rw [← HND.out]; exact OWN3.out, HNE.out, c2, B4⟩
            case measure => simp [intOf]; omega
          · rw [meetR_yes _ _ _ _ hm] at ME
            rw [hm] at HS
            have HAV := (meetV_byt U N U2 N2)
            have HAM := (meetM_byt N N2)
            obtain ⟨AV, hAV⟩ : ∃ AV, AV = meetV U N U2 N2 := ⟨_, rfl⟩
            obtain ⟨AM, hAM⟩ : ∃ AM, AM = meetM N N2 := ⟨_, rfl⟩
            rw [← hAV, ← hAM] at ME HS
            rw [← hAV] at HAV
            rw [← hAM] at HAM
            have hAVl := HAV.1
            have hAMl := HAM.1
            have HS2 : Hid (X ++ crossR (U, N) (B.take (j + 1)) = D ++ [(AV, AM)]) := by
              show _ = _
              rw [HS.out, HD.out]; simp
            have HP2 : Hid ((D ++ [(AV, AM)]).length ≤ (crossL A B).length) := by
              show _ ≤ _
              rw [← HS2.out]; exact HPT.out (j + 1)
            clear HAV HAM hAV hAM
            go_wp2_with (first
              | (refine wl_loadCat rfl _ rfl g2 (off2 + j * 26) rfl cur2 t2 fr2 U2 N2 hUl2 hNl2 h2g HC2.out ?_)
              | (refine wl_storeC rfl _ _ rfl wr.heap.size U2 N2 rfl rfl _ (heap_new _ _ _ rfl) rfl hUl2 hNl2 _ (setRow_new _ _ _ _ _ rfl) ?_)
              | (refine wl_loadC rfl _ rfl wr.heap.size rfl U2 N2 k1 hUl2 hNl2 ?_)
              | (refine wl_loadC rfl _ rfl wo.heap.size rfl U N k0 hUl hNl ?_))
            refine (ME.out _).mono ?_
            rintro e w1 ⟨rfl, hb1⟩
            have B3 := B2.trans (hb1.mono B2.size)
            have c1 : w1.heap[wo.heap.size]? = some (.cells (cv U N) 37 (0, 0)) := by rw [hb1.block _ (by simp; omega)]; exact k0
            have z1 := (Array.getElem?_eq_some_iff.1 c1).1
            have c2 := heap_past w1 (.cells (cv AV AM) 37) _ _ c1
            have c3 := heap_new w1 (.cells (cv AV AM) 37) _ rfl
            have B4 := B3.alloc B3.size (.cells (cv AV AM) 37)
            have OWN3 : Hid ((w1.alloc (.cells (cv AV AM) 37)).ownsRow w.heap.size 37 26 (.slice o8 nd cap8) nd (ccells D)) := (own_below OWN2.out hb1).alloc _
            have hz3 := B3.size
            clear hb1 k0 k1 B2 OWN2 c1 B3 h2g
            by_cases hfull : nd = most
            · go_wp2_with (first
                | (refine wl_storeC rfl _ _ rfl w1.heap.size AV AM rfl rfl _ (heap_new _ _ _ rfl) rfl hAVl hAMl _ (setRow_new _ _ _ _ _ rfl) ?_))
              go_ret2
              refine ⟨.inr ⟨rfl, ?_⟩, B4⟩
              have := HP2.out
              rw [List.length_append, ← HND.out] at this
              simp at this
              omega
            · go_wp2_with (first
                | (refine wl_storeC rfl _ _ rfl w1.heap.size AV AM rfl rfl _ (heap_new _ _ _ rfl) rfl hAVl hAMl _ (setRow_new _ _ _ _ _ rfl) ?_)
                | (refine wl_loadC rfl _ rfl w1.heap.size rfl AV AM c3 hAVl hAMl ?_)
                | (refine wl_build1 rfl _ rfl AV AM hAVl hAMl rfl ?_)
                | (at_builtin; refine of_stopped ?_))
              unfold Stopped
              have c4 := heap_past (w1.alloc (.cells (cv AV AM) 37)) (.cells (cv AV AM) 37) _ _ c2
              have c5 := heap_new (w1.alloc (.cells (cv AV AM) 37)) (.cells (cv AV AM) 37) (w1.heap.size + 1) (by simp)
              have B5 := B4.alloc B4.size (.cells (cv AV AM) 37)
              have OWN5 : Hid (((w1.alloc (.cells (cv AV AM) 37)).alloc (.cells (cv AV AM) 37)).ownsRow w.heap.size 37 26 (.slice o8 nd cap8) D.length (ccells D)) := by
                have := OWN3.out.alloc (.cells (cv AV AM) 37)
                rw [HND.out] at this ⊢
                exact this
              refine wl_append1 rfl _ _ rfl w.heap.size _ D AV AM hAVl hAMl rfl OWN5.out _ 1 rfl c5 (by rw [← HND.out]; omega) (by simp; omega) ?_
              intro v' w2 hown2 hgr hat
              have B6 : Below w.heap.size w w2 := B5.grown hgr (by simp; omega) (fun q hq => (OWN5.out.lt q hq).1)
              have c6 : w2.heap[wo.heap.size]? = some (.cells (cv U N) 37 (0, 0)) := by
                rw [hgr.block _ (by simp; omega) (fun hq => HNE.out hq.symm)]
                exact c4
              have HNE2 : Hid (v'.ownBlock ≠ some wo.heap.size) := by
                rcases hat with h | h
                · show _ ≠ _; rw [h]; exact HNE.out
                · show _ ≠ _; rw [h]; simp; omega
              have OWN6 : Hid (w2.ownsRow w.heap.size 37 26 v' (D ++ [(AV, AM)]).length (ccells (D ++ [(AV, AM)]))) := hown2
              have hl2 : (D ++ [(AV, AM)]).length ≤ most := by rw [List.length_append, ← HND.out]; simp; omega
              have HL2 : Hid ((D ++ [(AV, AM)]).length ≤ most) := hl2
              simp only [Act.put, List.setIfInBounds_toArray, List.set_cons_succ, List.set_cons_zero]
              clear hown2 hgr hat c4 c5 B5 OWN5 c2 c3 B4 OWN3 hl2
              go_wp2_with fail
              go_roundw
              case rel => exact ⟨j + 1, by omega, by go_num, D ++ [(AV, AM)], HS2.out.symm, HL2.out, OWN6.out, HNE2.out, c6, B6⟩
              case measure => simp [intOf]; omega
        · obtain rfl : j = nb := by omega
          have HF : Hid (D = crossL (A.take (k + 1)) B) := by
            show _ = _
            rw [HT.out, HD.out, HNB.out, List.take_length]
          go_wp2_with fail
          go_roundw
          case rel => exact ⟨k + 1, by omega, by go_num, by rw [← HF.out, ← HND.out]; exact hle, by rw [← HF.out, ← HND.out]; exact OWN.out, hb⟩
          case measure => simp [intOf]; omega
    · obtain rfl : k = na := by omega
      have HE : Hid (crossL (A.take k) B = crossL A B) := by
        show _ = _
        rw [HNA.out, List.take_length]
      rw [HE.out] at hle hown
      have OWN : Hid (wo.ownsRow w.heap.size 37 26 u8 (crossL A B).length (ccells (crossL A B))) := hown
      have HLE : Hid ((crossL A B).length ≤ most) := hle
      clear hown hle HE
      go_wp2_with fail
      go_ret2
      exact ⟨.inl ⟨u8, rfl, HLE.out, OWN.out⟩, hb⟩
end Go.Proofs.YthddlchkbnmcaaaGreatDoor
