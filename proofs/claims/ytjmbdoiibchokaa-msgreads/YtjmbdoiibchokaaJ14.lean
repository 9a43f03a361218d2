import Derived.Test.YtjmbdoiibchokaaJ13
import Derived.Test.YtjmbdoiibchokaaJ12
namespace Go.Proofs.Ytjmbdoiibchokaa
open Go Go.Lib Go.RowKit
set_option maxRecDepth 20000

/-! The reference's Decode. -/
theorem goM_cube {L : List UInt8} {p : Nat} {m : MsgM} (h : L.length = p + 26) : goM [13] (L.drop p) m = if (tcT L (p : Int)).2.2 = 0 then some (setC m (tcT L (p : Int)).1 (tcT L (p : Int)).2.1) else none := by
  rw [tcT_at h]
  have hl2 : (L.drop p).length = 26 := by rw [List.length_drop, h]; omega
  rw [goM]
  have e : (L.drop p).take (sizeF 13) = L.drop p := List.take_of_length_le (by rw [hl2]; decide)
  rw [e]
  have e2 : setF m 13 (L.drop p) = setC m (nI ((L.drop p).take 13)) (nI (L.drop (p + 13))) := by
    unfold setF setC
    rw [if_pos rfl, List.drop_drop]
  rw [e2]
  have e3 : cubR (setC m (nI ((L.drop p).take 13)) (nI (L.drop (p + 13)))) = (nI ((L.drop p).take 13) == can (nI ((L.drop p).take 13)) (nI (L.drop (p + 13)))) := rfl
  rw [e3]
  cases (nI ((L.drop p).take 13) == can (nI ((L.drop p).take 13)) (nI (L.drop (p + 13))))
  · simp
  · simp [goM]
theorem cube_last (k : Int) {p : Nat} (h : (fldK k)[p]? = some 13) : p + 1 = (fldK k).length := by
  have hp : p < 8 := Nat.lt_of_lt_of_le (List.getElem?_eq_some_iff.1 h).1 (fld_len k)
  have key : ∀ p : Fin 8, (fldK k)[p.1]? = some 13 → p.1 + 1 = (fldK k).length :=
    fld_cases (P := fun l => ∀ p : Fin 8, l[p.1]? = some 13 → p.1 + 1 = l.length) (by decide) (by decide) (by decide) (by decide) (by decide) (by decide) (by decide) (by decide) k
  exact key ⟨p, hp⟩ h
theorem drop_cons {l : List Nat} {p j : Nat} (h : l[p]? = some j) : l.drop p = j :: l.drop (p + 1) := by
  obtain ⟨hp, e⟩ := List.getElem?_eq_some_iff.1 h
  rw [List.drop_eq_getElem_cons hp, e]
theorem goM_step {j : Nat} {l : List Nat} {bs : List UInt8} {m : MsgM} (hj : j ≠ 13) : goM (j :: l) bs m = goM l (bs.drop (sizeF j)) (setF m j (bs.take (sizeF j))) := by
  rw [goM, decide_eq_false hj]
  rfl
/-- A header that is overwritten from its beginning. -/
def layH (B : List UInt8) (H : List Int) (q : Nat) : List Int := nI (B.take q) ++ H.drop q
theorem layH_zero (B : List UInt8) (H : List Int) : layH B H 0 = H := by unfold layH; simp [nI]
theorem layH_all (B : List UInt8) (H : List Int) (hB : B.length = 13) (hH : H.length = 13) : layH B H 13 = nI B := by
  unfold layH
  rw [List.take_of_length_le (by omega), List.drop_of_length_le (by omega), List.append_nil]
theorem layH_succ {B : List UInt8} {H : List Int} (hB : B.length = 13) (hH : H.length = 13) {q : Nat} (hq : q < 13) {c : UInt8} (hc : B[q]? = some c) : (layH B H q).set q (c.toNat : Int) = layH B H (q + 1) := by
  unfold layH
  have hl : (nI (B.take q)).length = q := by rw [nI_len, List.length_take]; omega
  rw [List.set_append_right _ _ (by omega), hl, Nat.sub_self, List.take_add_one, hc]
  have e : H.drop q = H[q] :: H.drop (q + 1) := List.drop_eq_getElem_cons (by omega)
  rw [e, List.set_cons_zero]
  unfold nI
  rw [List.map_append, List.append_assoc]
  rfl
theorem layH_byt {B : List UInt8} {H : List Int} (hB : B.length = 13) (hH : Byt H) {q : Nat} (hq : q ≤ 13) : Byt (layH B H q) := by
  have hl : (layH B H q).length = 13 := by unfold layH; rw [List.length_append, nI_len, List.length_take, List.length_drop, hH.1]; omega
  refine ⟨hl, fun k => ?_⟩
  by_cases hk : k < 13
  · have h1 : (layH B H q).getD k 0 ∈ layH B H q := by
      rw [List.getD_eq_getElem?_getD, List.getElem?_eq_getElem (by omega)]
      exact List.getElem_mem _
    obtain ⟨x, hx⟩ : ∃ x, x = (layH B H q).getD k 0 := ⟨_, rfl⟩
    rw [← hx] at h1 ⊢
    unfold layH at h1
    rcases List.mem_append.1 h1 with h | h
    · unfold nI at h
      obtain ⟨c, _, hc⟩ := List.mem_map.1 h
      have := c.toNat_lt
      rw [← hc]
      omega
    · have h2 := List.mem_of_mem_drop h
      obtain ⟨i, hi, e⟩ := List.getElem_of_mem h2
      have := hH.2 i
      rw [List.getD_eq_getElem?_getD, List.getElem?_eq_getElem hi] at this
      rw [← e]
      exact this
  · rw [List.getD_eq_getElem?_getD, List.getElem?_eq_none (by omega)]
    decide
theorem ms_setHq {m : MsgM} (h : okM m) (q : Nat) (hq : q < 13) (x : Int) : (msA m).setIfInBounds (40 + q) (.int .u8 x) = msA (setH m (m.head.set q x)) := by
  unfold msA msL setH
  rw [List.setIfInBounds_toArray, show 40 + q = (39 + q) + 1 by omega, List.set_cons_succ, List.set_append_right _ _ (by rw [List.length_map, h.1]; omega), List.length_map, h.1, show 39 + q - 13 = 26 + q by omega, List.set_append_right _ _ (by rw [List.length_map, List.length_append, h.2.1.1, h.2.2.1.1]; omega), List.length_map, List.length_append, h.2.1.1, h.2.2.1.1, Nat.add_sub_cancel_left, List.map_set]
theorem conv16b (x : Nat) (hx : x < 9223372036854775808) (w : World) : (convert 57 3 (.int .u64 (x : Int))).run Try.prog w = .ok (.int .i64 (x : Int)) w := by
  simp [convert, run_underlying Try.underlying3, run_underlying Try.underlying57, go_sem]
  rw [IntKind.wrap_i64]
  omega
/-- What has come of the first fields. -/
def DLink (k : Int) (body : List UInt8) (p q : Nat) (mp : MsgM) (ec : Int) : Prop :=
  (ec = 0 ∧ goM (fldK k) body (zeroM k) = goM ((fldK k).drop p) (body.drop q) mp) ∨ (ec ≠ 0 ∧ p = (fldK k).length ∧ goM (fldK k) body (zeroM k) = none)
structure DSt (w : World) (k : Int) (body : List UInt8) (g p : Nat) (vb : Value) (q : Nat) (ec : Int) (W : World) : Prop where
  mem : ∃ mp, okM mp ∧ W.heap[g]? = some (.cells (msA mp) 27 (0, 0)) ∧ DLink k body p q mp ec
  out : W.heap[w.heap.size]? = some (.cells zeroMs 27 (0, 0))
  bod : BSl W vb body
  bel : Below w.heap.size w W
  sum : q = (((fldK k).take p).map sizeF).sum
theorem sum_fit {k : Int} {p j : Nat} (hj : (fldK k)[p]? = some j) : (((fldK k).take p).map sizeF).sum + sizeF j ≤ sizeK k := by
  rw [← sum_take hj]
  unfold sizeK
  conv => rhs; rw [← List.take_append_drop (p + 1) (fldK k)]
  rw [List.map_append, List.sum_append]
  omega
theorem dec_go {L : List UInt8} {k : Nat} {body : List UInt8} (ho : openB L = some (k, body)) (hk : fldK (k : Int) ≠ []) (hl : body.length = sizeK (k : Int)) : decO L = goM (fldK (k : Int)) body (zeroM (k : Int)) := by
  rw [dec_fill ho hk]
  unfold fillG
  rw [← size_split, if_pos hl, ← fld_split]
theorem dec_len {L : List UInt8} {k : Nat} {body : List UInt8} (ho : openB L = some (k, body)) (hl : body.length ≠ sizeK (k : Int)) : decO L = none := by
  unfold decO
  rw [ho]
  dsimp only
  rw [if_pos (by simp [hl])]
theorem DSt.step {w : World} {k : Int} {body : List UInt8} {g p : Nat} {vb : Value} {q : Nat} {W W' : World} (h : DSt w k body g p vb q 0 W) {j : Nat} (hj : (fldK k)[p]? = some j) (hne : j ≠ 13) (hg : w.heap.size ≤ g) (hv : vb.ownBlock ≠ some g) (hw : w.heap.size ≠ g)
    (hgr : W.grownBy W' (some g)) (hs : w.heap.size ≤ W.heap.size) {mp : MsgM} (hm : okM (setF mp j ((body.drop q).take (sizeF j)))) (hl : DLink k body p q mp 0) (hmem : W'.heap[g]? = some (.cells (msA (setF mp j ((body.drop q).take (sizeF j)))) 27 (0, 0))) : DSt w k body g (p + 1) vb (q + sizeF j) 0 W' := by
  refine ⟨⟨_, hm, hmem, ?_⟩, ?_, h.bod.grown hgr (fun y hy e => hv (hy.trans e.symm)), below_grown16 h.bel hgr hg hs, ?_⟩
  · rcases hl with ⟨_, hl⟩ | ⟨hl, _⟩
    · refine .inl ⟨rfl, ?_⟩
      rw [hl, drop_cons hj, goM_step hne, List.drop_drop]
    · exact absurd rfl hl
  · exact (hgr.block _ (Array.getElem?_eq_some_iff.1 h.out).1 (fun e => hw (Option.some.inj e))).trans h.out
  · rw [h.sum, sum_take hj]
set_option maxHeartbeats 16000000 in
theorem r16dec_any (v : Value) (L : List UInt8) (w : World) (hL : BSl w v L) (hl : L.length ≤ 140737488355328) : Calls Try.prog 15 #[v] w fun e w' => DecR L w e w' := by
  have HL : Hid (BSl w v L) := hL
  obtain ⟨ov, nv, cx, rfl⟩ : ∃ o n c, v = .slice o n c := by obtain ⟨o, c, h, _⟩ := hL.slice; exact ⟨o, _, c, h⟩
  clear hL
  obtain ⟨w1, hw1⟩ : ∃ w1, w1 = w.alloc (.cells zeroMs 27) := ⟨_, rfl⟩
  have g1 : w1.heap[w.heap.size]? = some (.cells zeroMs 27 (0, 0)) := by rw [hw1]; exact heap_new _ _ _ rfl
  have B1 : Below w.heap.size w w1 := by rw [hw1]; exact (Below.refl _ _).alloc (Nat.le_refl _) _
  have hs1 := (Array.getElem?_eq_some_iff.1 g1).1
  have CO : Hid (Calls Try.prog 31 #[.slice ov nv cx] w1 fun e w' => ∃ u, e = .returned (.tuple #[.int .i64 (openT L).1, u, .int .i64 (openT L).2.2]) ∧ BOwn w1.heap.size w' u (openT L).2.1 ∧ Below w1.heap.size w1 w') := ropen_any _ L w1 (HL.out.below B1) hl
  clear hl HL
  by_cases he : (openT L).2.2 = 0
  · obtain ⟨k, body, ho, hT⟩ := openT_some he
    rw [hT] at CO
    clear he hT
    have CF : Hid (∀ W, Calls Try.prog 20 #[.int .i64 (k : Int)] W fun e w' => e = .returned (.string (strB (k : Int))) ∧ w' = W) := fun W => r16fields_any (k : Int) W
    have CZ : Hid (∀ W, Calls Try.prog 32 #[.int .i64 (k : Int)] W fun e w' => e = .returned (.int .i64 ((sizeK (k : Int) : Nat) : Int)) ∧ w' = W) := fun W => r16size_any (k : Int) W
    have HIX : Hid (∀ (i j : Nat), (fldK (k : Int))[i]? = some j → ∀ W, (Instr.index 9 (.string (strB (k : Int))) (.int .i64 (i : Int))).run Try.prog W = .ok (.int .u8 ((letN j : Nat) : Int)) W) := fun i j h W => ix16 h W
    by_cases hk : fldK (k : Int) = []
    · have HD : Hid (decM L = (zeroM 0, 12)) := decM_none (dec_none ho hk)
      have hse : (strB (k : Int)).toList.isEmpty = true := by rw [ByteArray.toList_eq, (str_empty _).2 hk]; rfl
      obtain ⟨s, hs⟩ : ∃ s, s = strB (k : Int) := ⟨_, rfl⟩
      rw [← hs] at CF hse
      clear hs ho hk CZ HIX
      go_enter Try.func15, Try.ntmps15
      go_wp2_with fail
      rw [← hw1]
      clear hw1
      refine CO.out.mono ?_
      rintro e w2 ⟨u, rfl, hO, hb2⟩
      have g2 : w2.heap[w.heap.size]? = some (.cells zeroMs 27 (0, 0)) := (hb2.block _ hs1).trans g1
      have B2 : Below w.heap.size w w2 := B1.trans (hb2.mono B1.size)
      clear hO hb2 g1 B1
      go_wp2_with (first
        | go_skip
        | (go_at_call 20; refine (CF.out _).mono ?_; rintro e w3 ⟨rfl, hw3⟩; obtain rfl := hw3.symm)
        | ((with_reducible refine wl_gb16 27 _ rfl ?_); refine wl_buildM0 rfl rfl ?_)
        | ((with_reducible refine wl_gs16 27 _ _ rfl ?_); refine wl_storeA MsOk rfl _ _ rfl w.heap.size (msA (zeroM 0)) (ms_fits (zero_ok 0)) rfl rfl _ g2 rfl _ rfl ?_))
      refine retAe MsOk (p := 2) (u := 3) rfl rfl w.heap.size rfl (msA (zeroM 0)) (msA_size (zero_ok 0)) (setRow_heap _ _ _ _ _ _ g2) _ rfl ⟨?_, below_setRow B2 (Nat.le_refl _) _⟩
      rw [HD.out]; rfl
    · have hse : (strB (k : Int)).toList.isEmpty = false := by
        rw [ByteArray.toList_eq]
        cases e : (strB (k : Int)).data.toList with
        | nil => exact absurd ((str_empty _).1 e) hk
        | cons a l => rfl
      obtain ⟨s, hs⟩ : ∃ s, s = strB (k : Int) := ⟨_, rfl⟩
      obtain ⟨n, hn⟩ : ∃ n, n = (fldK (k : Int)).length := ⟨_, rfl⟩
      have HN : Hid (n = (fldK (k : Int)).length) := hn
      have hsz : s.size = n := by rw [hs, hn, strB_size]
      have hn8 : n ≤ 8 := by rw [hn]; exact fld_len _
      obtain ⟨sz, hsk⟩ : ∃ sz, sz = sizeK (k : Int) := ⟨_, rfl⟩
      have HSK : Hid (sz = sizeK (k : Int)) := hsk
      have hsz8 : sz ≤ 68 := by rw [hsk]; exact size_le _
      rw [← hs] at CF hse HIX
      rw [← hsk] at CZ
      clear hs hn
      by_cases hlen : body.length = sz
      · have HDG : Hid (decO L = goM (fldK (k : Int)) body (zeroM (k : Int))) := dec_go ho hk (by rw [← hsk]; exact hlen)
        have hq2 : (((body.length : Nat) : Int) != (sz : Int)) = false := by simp; omega
        have hq1 : (((body.length : Nat) : Int) == (sz : Int)) = true := by simp; omega
        obtain ⟨nb, hnb⟩ : ∃ nb, nb = body.length := ⟨_, rfl⟩
        rw [← hnb] at hq1 hq2
        have HNB : Hid (nb = body.length) := hnb
        have HNS : Hid (nb = sizeK (k : Int)) := by show _ = _; rw [hnb, hlen, hsk]
        have hnb68 : nb ≤ 68 := by rw [hnb, hlen]; exact hsz8
        clear hnb hlen hsk ho hk
        go_enter Try.func15, Try.ntmps15
        go_wp2_with fail
        rw [← hw1]
        clear hw1
        refine CO.out.mono ?_
        rintro e w2 ⟨u, rfl, hO, hb2⟩
        obtain ⟨ou, cu, hu, hc1, hc2⟩ := hO.sl.slice
        rw [← HNB.out] at hu hc1
        subst hu
        unfold maxLen at hc2
        have g2 : w2.heap[w.heap.size]? = some (.cells zeroMs 27 (0, 0)) := (hb2.block _ hs1).trans g1
        have B2 : Below w.heap.size w w2 := B1.trans (hb2.mono B1.size)
        have hs2 := (Array.getElem?_eq_some_iff.1 g2).1
        have HO : Hid (BOwn w1.heap.size w2 (.slice ou nb cu) body) := hO
        clear hO hb2 g1 B1
        have n0 := heap_new w2 (.cells zeroMs 27) _ rfl
        have n1 := setRow_heap _ _ _ (msA (zeroM (k : Int))) _ _ n0
        have g3 : ((w2.alloc (.cells zeroMs 27)).setRow w2.heap.size (msA (zeroM (k : Int)))).heap[w.heap.size]? = some (.cells zeroMs 27 (0, 0)) := (setRow_other _ _ _ _ (by omega)).trans (heap_past _ _ _ _ g2)
        have Bx : Below w2.heap.size w2 ((w2.alloc (.cells zeroMs 27)).setRow w2.heap.size (msA (zeroM (k : Int)))) := below_setRow ((Below.refl _ _).alloc (Nat.le_refl _) _) (Nat.le_refl _) _
        have HST : Hid (DSt w (k : Int) body w2.heap.size 0 (.slice ou nb cu) 0 0 ((w2.alloc (.cells zeroMs 27)).setRow w2.heap.size (msA (zeroM (k : Int))))) :=
          ⟨⟨_, zero_ok _, n1, .inl ⟨rfl, rfl⟩⟩, g3, HO.out.sl.below Bx, B2.trans (Bx.mono B2.size), rfl⟩
        have HOB : Hid (Value.ownBlock (.slice ou nb cu) ≠ some w2.heap.size) := fun e => by have := (HO.out.ge _ e).2; omega
        go_wp2_with (first
          | go_skip
          | (go_at_call 20; refine (CF.out _).mono ?_; rintro e w3 ⟨rfl, hw3⟩; obtain rfl := hw3.symm)
          | (go_at_call 32; refine (CZ.out _).mono ?_; rintro e w3 ⟨rfl, hw3⟩; obtain rfl := hw3.symm)
          | ((with_reducible refine wl_gb16 27 _ rfl ?_); refine wl_buildM rfl _ rfl (k : Int) rfl ?_)
          | ((with_reducible refine wl_gs16 27 _ _ rfl ?_); refine wl_storeA MsOk rfl _ _ rfl w2.heap.size (msA (zeroM (k : Int))) (ms_fits (zero_ok (k : Int))) rfl rfl _ n0 rfl _ rfl ?_))
        obtain ⟨gm, hgm⟩ : ∃ gm, gm = w2.heap.size := ⟨_, rfl⟩
        rw [← hgm] at HST HOB hs2 ⊢
        clear n0 n1 g3 Bx hse hq1 hq2 g2 B2 hgm HO
        try simp only [Act.put]
        go_loopw [6, 9, 10] (fun e x i W => ∃ (p q : Nat) (ec : Int), p ≤ n ∧ i = .int .i64 (p : Int) ∧ x = .int .i64 (q : Int) ∧ e = .int .i64 ec ∧ DSt w (k : Int) body gm p (.slice ou nb cu) q ec W) (fun _ _ i _ => n - (intOf i).toNat)
        case atStart => exact ⟨0, 0, 0, Nat.zero_le _, rfl, rfl, rfl, HST.out⟩
        case round =>
          clear HST
          obtain ⟨p, q, ec, hp, rfl, rfl, rfl, hst⟩ := hrel
          have HST : Hid (DSt w (k : Int) body gm p (.slice ou nb cu) q ec wr) := hst
          obtain ⟨mp, hmp, hmem, hlink⟩ := hst.mem
          have hms := msA_size hmp
          have hso := (Array.getElem?_eq_some_iff.1 hst.out).1
          have hgl := (Array.getElem?_eq_some_iff.1 hmem).1
          clear hst
          by_cases hlt : p < n
          · obtain ⟨j, hj⟩ : ∃ j, (fldK (k : Int))[p]? = some j := ⟨_, List.getElem?_eq_getElem (by rw [← HN.out]; exact hlt)⟩
            have hec : ec = 0 := by
              rcases hlink with ⟨h, _⟩ | ⟨_, h, _⟩
              · exact h
              · rw [← HN.out] at h; omega
            subst hec
            have hix := HIX.out p j hj
            have HJ : Hid ((fldK (k : Int))[p]? = some j) := hj
            have hj15 := fldK_lt (k : Int) j (List.mem_of_getElem? hj)
            have h13 : (((letN j : Nat) : Int) == 67) = decide (j = 13) := letN_beq (j := 13) hj15 (by decide)
            have h14 : (((letN j : Nat) : Int) == 72) = decide (j = 14) := letN_beq (j := 14) hj15 (by decide)
            have hfit : q + sizeF j ≤ nb := by rw [HNS.out, HST.out.sum]; exact sum_fit hj
            have HLK : Hid (DLink (k : Int) body p q mp 0) := hlink
            clear hlink hj
            by_cases e13 : j = 13
            · rw [decide_eq_true e13] at h13
              have HNL : Hid (nb = q + 26) := by
                show _ = _
                have h1 := cube_last (k : Int) (p := p) (by rw [← e13]; exact HJ.out)
                have h2 := sum_take HJ.out
                rw [h1, List.take_length, ← HST.out.sum, e13] at h2
                rw [HNS.out]
                exact h2
              have HPN : Hid (p + 1 = (fldK (k : Int)).length) := cube_last (k : Int) (by rw [← e13]; exact HJ.out)
              have hq100 : q ≤ 68 := by omega
              obtain ⟨V, hV⟩ : ∃ V, V = (tcT body (q : Int)).1 := ⟨_, rfl⟩
              obtain ⟨M, hM⟩ : ∃ M, M = (tcT body (q : Int)).2.1 := ⟨_, rfl⟩
              obtain ⟨ec, hec⟩ : ∃ ec, ec = (tcT body (q : Int)).2.2 := ⟨_, rfl⟩
              have hVM := tcT_byt (L := body) (p := q) (by rw [← HNB.out]; exact HNL.out)
              rw [← hV, ← hM] at hVM
              have hVl := hVM.1.1
              have hMl := hVM.2.1
              have HLK2 : Hid (DLink (k : Int) body (p + 1) (q + 26) (setC mp V M) ec) := by
                have hg := goM_cube (L := body) (p := q) (m := mp) (by rw [← HNB.out]; exact HNL.out)
                rw [← hV, ← hM, ← hec] at hg
                have hd : (fldK (k : Int)).drop p = [13] := by
                  rw [drop_cons HJ.out, e13, HPN.out, List.drop_length]
                rcases HLK.out with ⟨_, hl⟩ | ⟨hl, _⟩
                · rw [hd, hg] at hl
                  by_cases h0 : ec = 0
                  · rw [if_pos h0] at hl
                    exact .inl ⟨h0, by rw [hl, HPN.out, List.drop_length]; rfl⟩
                  · rw [if_neg h0] at hl
                    exact .inr ⟨h0, HPN.out, hl⟩
                · exact absurd rfl hl
              have CT : Hid (∀ W, BSl W (.slice ou nb cu) body → Calls Try.prog 33 #[.slice ou nb cu, .int .i64 (q : Int)] W fun e w' => e = .returned (.tuple #[.agg (cv V M), .int .i64 ec]) ∧ Below W.heap.size W w') := fun W hW => by
                have := rtakeCube_any (.slice ou nb cu) body (q : Int) W hW
                rw [← hV, ← hM, ← hec] at this
                exact this
              have HSM : Hid (q + 26 = (((fldK (k : Int)).take (p + 1)).map sizeF).sum) := by show _ = _; rw [sum_take HJ.out, ← HST.out.sum, e13]; rfl
              clear hV hM hec e13 h14 hfit
              go_wp2_with fail
              refine (CT.out _ HST.out.bod).mono ?_
              rintro e w4 ⟨rfl, hb4⟩
              have hm4 : w4.heap[gm]? = some (.cells (msA mp) 27 (0, 0)) := (hb4.block _ hgl).trans hmem
              have HO4 : Hid (w4.heap[w.heap.size]? = some (.cells zeroMs 27 (0, 0))) := (hb4.block _ hso).trans HST.out.out
              have HV4 : Hid (BSl w4 (.slice ou nb cu) body) := HST.out.bod.below hb4
              have HB4 : Hid (Below w.heap.size w w4) := HST.out.bel.trans (hb4.mono HST.out.bel.size)
              have hs4 := (Array.getElem?_eq_some_iff.1 hm4).1
              have hso4 := (Array.getElem?_eq_some_iff.1 HO4.out).1
              clear hb4 hmem
              have n0 := heap_new w4 (.cells zeroC 25) _ rfl
              have n1 := setRow_heap _ _ _ (cv V M) _ _ n0
              have By : Below w4.heap.size w4 ((w4.alloc (.cells zeroC 25)).setRow w4.heap.size (cv V M)) := below_setRow ((Below.refl _ _).alloc (Nat.le_refl _) _) (Nat.le_refl _) _
              have hm5 : ((w4.alloc (.cells zeroC 25)).setRow w4.heap.size (cv V M)).heap[gm]? = some (.cells (msA mp) 27 (0, 0)) := (By.block _ hs4).trans hm4
              have HO5 : Hid (((w4.alloc (.cells zeroC 25)).setRow w4.heap.size (cv V M)).heap[w.heap.size]? = some (.cells zeroMs 27 (0, 0))) := (By.block _ hso4).trans HO4.out
              have HV5 : Hid (BSl ((w4.alloc (.cells zeroC 25)).setRow w4.heap.size (cv V M)) (.slice ou nb cu) body) := HV4.out.below By
              have HB5 : Hid (Below w.heap.size w ((w4.alloc (.cells zeroC 25)).setRow w4.heap.size (cv V M))) := HB4.out.trans (By.mono HB4.out.size)
              go_wp2_with (first
                | ((with_reducible refine wl_gl16 25 _ rfl ?_); refine wl_loadC rfl _ rfl w4.heap.size rfl V M n1 hVl hMl ?_)
                | ((with_reducible refine wl_gs16 25 _ _ rfl ?_); refine wl_storeC rfl _ _ rfl w4.heap.size V M rfl rfl _ n0 rfl hVl hMl _ rfl ?_)
                | ((with_reducible refine wl_gs16 25 _ _ rfl ?_); refine wl_storeAP CuGOk rfl _ _ rfl gm 14 rfl (cv V M) ⟨cv_size _ _ hVl hMl, cv_one _ _⟩ rfl _ _ hm5 (by rw [hms]; decide) _ (ms_setC hmp V M) ?_))
              try simp only [Act.put]
              go_roundw
              case rel =>
                refine ⟨p + 1, q + 26, ec, by omega, by go_num, by go_num, rfl, ⟨_, setC_ok hmp hVM.1 hVM.2, setRow_heap _ _ _ _ _ _ hm5, HLK2.out⟩, ?_, ?_, ?_, HSM.out⟩
                · exact (setRow_other _ _ _ _ (by omega)).trans HO5.out
                · exact HV5.out.grown (grown_row16 (grown_refl16 _ _) _) (fun y hy e => HOB.out (hy.trans e.symm))
                · exact below_setRow HB5.out (by omega) _
              case measure => simp [intOf]; omega
            · rw [decide_eq_false e13] at h13
              by_cases e14 : j = 14
              · rw [decide_eq_true e14] at h14
                have hs14 : sizeF j = 13 := by rw [e14]; rfl
                rw [hs14] at hfit
                have hq100 : q ≤ 68 := by omega
                obtain ⟨B, hBd⟩ : ∃ B, B = (body.drop q).take 13 := ⟨_, rfl⟩
                have hBl : B.length = 13 := by rw [hBd, List.length_take, List.length_drop, ← HNB.out]; omega
                have HBA : Hid (∀ r, r < 13 → B[r]? = body[q + r]?) := fun r hr => by rw [hBd, List.getElem?_take_of_lt hr, List.getElem?_drop]
                have HSF : Hid (setF mp j ((body.drop q).take (sizeF j)) = setH mp (nI B)) := by
                  show _ = _
                  rw [hs14, e14, hBd]
                  rfl
                have HHd : Hid (Byt mp.head) := hmp.2.2.2
                have hhl := hmp.2.2.2.1
                obtain ⟨wo, hwo⟩ : ∃ wo : World, wo = wr := ⟨_, rfl⟩
                rw [← hwo] at HST hmem hso hgl ⊢
                clear hwo hBd e14
                go_wp2_with fail
                go_loopw [13] (fun i W => ∃ r : Nat, r ≤ 13 ∧ i = .int .i64 (r : Int) ∧ W.heap[gm]? = some (.cells (msA (setH mp (layH B mp.head r))) 27 (0, 0)) ∧ wo.grownBy W (some gm)) (fun i _ => 13 - (intOf i).toNat)
                case atStart => exact ⟨0, by omega, rfl, by rw [layH_zero]; exact hmem, grown_refl16 _ _⟩
                case round =>
                  obtain ⟨r, hr, rfl, hmr, hgr⟩ := hrel
                  have HGR : Hid (wo.grownBy wr (some gm)) := hgr
                  have HBO : Hid (BSl wr (.slice ou nb cu) body) := HST.out.bod.grown hgr (fun y hy e => HOB.out (hy.trans e.symm))
                  clear hgr
                  have hokr : okM (setH mp (layH B mp.head r)) := setH_ok hmp (layH_byt hBl HHd.out hr)
                  by_cases hlr : r < 13
                  · obtain ⟨g, off, c, rfl, hc3, hLc⟩ := HBO.out.at (q + r) (by omega)
                    have HC : Hid (B[r]? = some c) := (HBA.out r hlr).trans hLc
                    have hcc : wr.cell? ⟨gm, 40 + r, none⟩ = some (.int .u8 ((layH B mp.head r).getD r 0)) := by
                      rw [cell_of_row wr _ _ _ _ _ hmr, ms_head hokr r hlr]
                      exact hv_at _ (layH_byt hBl HHd.out hr).1 r hlr
                    have hff : wr.frozen? ⟨gm, 40 + r, none⟩ = false := frozen_of_row wr _ _ _ _ hmr
                    have HMR : Hid ((wr.setCell ⟨gm, 40 + r, none⟩ (.int .u8 (c.toNat : Int))).heap[gm]? = some (.cells (msA (setH mp (layH B mp.head (r + 1)))) 27 (0, 0))) := by
                      have h1 := ms_setHq hokr r hlr (c.toNat : Int)
                      have h2 : setH (setH mp (layH B mp.head r)) ((setH mp (layH B mp.head r)).head.set r (c.toNat : Int)) = setH mp (layH B mp.head (r + 1)) := by
                        show setH mp ((layH B mp.head r).set r (c.toNat : Int)) = _
                        rw [layH_succ hBl HHd.out.1 hlr HC.out]
                      rw [h2] at h1
                      show _ = _
                      rw [← h1]
                      exact heap_setCell_same _ _ _ _ _ _ hmr
                    obtain ⟨old, hold⟩ : ∃ old, old = (layH B mp.head r).getD r 0 := ⟨_, rfl⟩
                    rw [← hold] at hcc
                    clear hold hLc hmr
                    go_wp2_with fail
                    go_roundw
                    case rel => exact ⟨r + 1, by omega, by go_num, HMR.out, grown_cell16 HGR.out _ _⟩
                    case measure => simp [intOf]; omega
                  · obtain rfl : r = 13 := by omega
                    rw [layH_all B mp.head hBl hhl] at hmr hokr
                    have HM13 : Hid (wr.heap[gm]? = some (.cells (msA (setH mp (nI B))) 27 (0, 0))) := hmr
                    clear hmr
                    go_wp2_with fail
                    go_roundw
                    case rel =>
                      refine ⟨p + 1, q + 13, 0, by omega, by go_num, by go_num, rfl, ?_⟩
                      have := HST.out.step HJ.out e13 (by omega) HOB.out (by omega) HGR.out HST.out.bel.size (mp := mp) (by rw [HSF.out]; exact hokr) HLK.out (by rw [HSF.out]; exact HM13.out)
                      rw [hs14] at this
                      exact this
                    case measure => simp [intOf]; omega
              · rw [decide_eq_false e14] at h14
                have hj13 : j < 13 := by omega
                rw [sizeF_num hj13] at hfit
                have hq100 : q ≤ 68 := by omega
                obtain ⟨y, hy⟩ : ∃ y : Nat, y = valB ((body.drop q).take 6) := ⟨_, rfl⟩
                have hy2 : y < 281474976710656 := by
                  have h1 := valB_lt ((body.drop q).take 6)
                  have h2 : ((body.drop q).take 6).length = 6 := by rw [List.length_take, List.length_drop, ← HNB.out]; omega
                  rw [h2, ← hy] at h1
                  omega
                have CT : Hid (∀ W, BSl W (.slice ou nb cu) body → Calls Try.prog 34 #[.slice ou nb cu, .int .i64 (q : Int), .int .i64 6] W fun e w' => e = .returned (.tuple #[.int .u64 (y : Int), .int .i64 0]) ∧ w' = W) := fun W hW => by
                  have hqq : takeT body (q : Int) 6 = (y, 0) := by
                    unfold takeT
                    rw [if_pos ⟨by decide, by omega⟩, if_pos (by rw [← HNB.out]; omega), Int.toNat_natCast, hy]
                    rfl
                  have := rtake_any (.slice ou nb cu) body (q : Int) 6 W hW
                  rw [hqq] at this
                  exact this
                have HSF : Hid (setF mp j ((body.drop q).take (sizeF j)) = setN mp j (y : Int)) := by show _ = _; rw [sizeF_num hj13, setF_num hj13, hy]
                have CSE : Hid (∀ W, Calls Try.prog 35 #[.agg (msA mp), .int .u8 ((letN j : Nat) : Int), .int .i64 (y : Int)] W fun e w' => e = .returned (.agg (msA (setN mp j (y : Int)))) ∧ Below W.heap.size W w') := fun W => r16set_any mp hmp j hj13 (y : Int) W
                obtain ⟨lc, hlc⟩ : ∃ lc : Int, lc = ((letN j : Nat) : Int) := ⟨_, rfl⟩
                rw [← hlc] at hix h13 h14 CSE
                clear hlc hy
                have ne1 := Later.ne wr
                go_wp2_with fail
                refine (CT.out _ HST.out.bod).mono ?_
                rintro e w4 ⟨rfl, hw4⟩
                obtain rfl := hw4.symm
                have hcv := conv16b y (by omega)
                go_wp2_with fail
                refine wp_region_latertail 7 (by kernel_rfl) (by kernel_rfl) ?_
                simp only [List.take_succ_cons, List.take_zero, List.drop_succ_cons, List.drop_zero]
                refine qlA MsOk rfl _ rfl gm 0 rfl _ _ _ (msA mp) hms (later_block hmem) (own_cells _ _) ?_
                simp only [Act.put, List.setIfInBounds_toArray, List.set_cons_succ, List.set_cons_zero]
                go_big_quiet_step (fail)
                go_big_quiet_step (fail)
                go_big_quiet_step (fail)
                go_big_quiet_step (fail)
                go_big_quiet_step (fail)
                go_big_quiet_want; go_big_quiet_op
                refine ⟨_, fun u => Calls.later_of (CSE.out u.world), ?_⟩
                go_big_quiet_on
                refine wpQuiet_nil ?_
                rintro w5 ⟨u, hu⟩
                have hm5 : w5.heap[gm]? = some (.cells (msA mp) 27 (0, 0)) := by rw [hu, u.below.block _ hgl]; exact hmem
                have HGR : Hid (wr.grownBy (w5.setRow gm (msA (setN mp j (y : Int)))) (some gm)) := by rw [hu]; exact grown_row16 (grown_below16 (grown_refl16 _ _) u.below) _
                clear hu u ne1
                have hmn := setN_ok hmp j (y : Int)
                go_wp2_with (first
                  | ((with_reducible refine wl_gs16 27 _ _ rfl ?_); refine wl_storeA MsOk rfl _ _ rfl gm (msA (setN mp j (y : Int))) (ms_fits hmn) rfl rfl _ hm5 hms _ rfl ?_))
                try simp only [Act.put]
                go_roundw
                case rel =>
                  refine ⟨p + 1, q + 6, 0, by omega, by go_num, by go_num, rfl, ?_⟩
                  have := HST.out.step HJ.out e13 (by omega) HOB.out (by omega) HGR.out HST.out.bel.size (mp := mp) (by rw [HSF.out]; exact hmn) HLK.out (by rw [HSF.out]; exact setRow_heap _ _ _ _ _ _ hm5)
                  rw [sizeF_num hj13] at this
                  exact this
                case measure => simp [intOf]; omega
          · obtain rfl : p = n := by omega
            have hoz := HST.out.out
            rcases hlink with ⟨rfl, hl⟩ | ⟨hne, _, hl⟩
            · have HD : Hid (decM L = (mp, 0)) := decM_some (by rw [HDG.out, hl, HN.out, List.drop_length]; rfl)
              clear hl
              have hBw := HST.out.bel
              go_wp2_with (first
                | ((with_reducible refine wl_gl16 27 _ rfl ?_); refine wl_loadA MsOk rfl _ rfl gm 0 rfl _ _ _ (msA mp) hms hmem (own_cells _ _) ?_)
                | ((with_reducible refine wl_gs16 27 _ _ rfl ?_); refine wl_storeA MsOk rfl _ _ rfl w.heap.size (msA mp) (ms_fits hmp) rfl rfl _ hoz rfl _ rfl ?_))
              refine retAe MsOk (p := 2) (u := 3) rfl rfl w.heap.size rfl (msA mp) hms (setRow_heap _ _ _ _ _ _ hoz) _ rfl ⟨?_, below_setRow hBw (Nat.le_refl _) _⟩
              rw [HD.out]; rfl
            · have HD : Hid (decM L = (zeroM 0, 12)) := decM_none (by rw [HDG.out, hl])
              clear hl
              have hBw := HST.out.bel
              have he1 : (ec == 0) = false := by simpa using hne
              have he2 : (ec != 0) = true := by simp [hne]
              go_wp2_with (first
                | ((with_reducible refine wl_gb16 27 _ rfl ?_); refine wl_buildM0 rfl rfl ?_)
                | ((with_reducible refine wl_gs16 27 _ _ rfl ?_); refine wl_storeA MsOk rfl _ _ rfl w.heap.size (msA (zeroM 0)) (ms_fits (zero_ok 0)) rfl rfl _ hoz rfl _ rfl ?_))
              refine retAe MsOk (p := 2) (u := 3) rfl rfl w.heap.size rfl (msA (zeroM 0)) (msA_size (zero_ok 0)) (setRow_heap _ _ _ _ _ _ hoz) _ rfl ⟨?_, below_setRow hBw (Nat.le_refl _) _⟩
              rw [HD.out]; rfl
      · have HD : Hid (decM L = (zeroM 0, 12)) := decM_none (dec_len ho (by rw [← hsk]; exact hlen))
        have hq2 : (((body.length : Nat) : Int) != (sz : Int)) = true := by simp; omega
        have hq1 : (((body.length : Nat) : Int) == (sz : Int)) = false := by simp; omega
        obtain ⟨nb, hnb⟩ : ∃ nb, nb = body.length := ⟨_, rfl⟩
        rw [← hnb] at hq1 hq2
        have HNB : Hid (nb = body.length) := hnb
        clear hnb hlen hsk ho hk HIX
        go_enter Try.func15, Try.ntmps15
        go_wp2_with fail
        rw [← hw1]
        clear hw1
        refine CO.out.mono ?_
        rintro e w2 ⟨u, rfl, hO, hb2⟩
        obtain ⟨ou, cu, hu, hc1, hc2⟩ := hO.sl.slice
        rw [← HNB.out] at hu hc1
        subst hu
        have g2 : w2.heap[w.heap.size]? = some (.cells zeroMs 27 (0, 0)) := (hb2.block _ hs1).trans g1
        have B2 : Below w.heap.size w w2 := B1.trans (hb2.mono B1.size)
        clear hO hb2 g1 B1
        go_wp2_with (first
          | go_skip
          | (go_at_call 20; refine (CF.out _).mono ?_; rintro e w3 ⟨rfl, hw3⟩; obtain rfl := hw3.symm)
          | (go_at_call 32; refine (CZ.out _).mono ?_; rintro e w3 ⟨rfl, hw3⟩; obtain rfl := hw3.symm)
          | ((with_reducible refine wl_gb16 27 _ rfl ?_); refine wl_buildM0 rfl rfl ?_)
          | ((with_reducible refine wl_gs16 27 _ _ rfl ?_); refine wl_storeA MsOk rfl _ _ rfl w.heap.size (msA (zeroM 0)) (ms_fits (zero_ok 0)) rfl rfl _ g2 rfl _ rfl ?_))
        refine retAe MsOk (p := 2) (u := 3) rfl rfl w.heap.size rfl (msA (zeroM 0)) (msA_size (zero_ok 0)) (setRow_heap _ _ _ _ _ _ g2) _ rfl ⟨?_, below_setRow B2 (Nat.le_refl _) _⟩
        rw [HD.out]; rfl
  · obtain ⟨ho, h12⟩ := openT_none he
    have HD : Hid (decM L = (zeroM 0, 12)) := decM_none (decO_open ho)
    rw [h12] at CO
    clear ho h12 he
    go_enter Try.func15, Try.ntmps15
    go_wp2_with fail
    rw [← hw1]
    clear hw1
    refine CO.out.mono ?_
    rintro e w2 ⟨u, rfl, hO, hb2⟩
    have g2 : w2.heap[w.heap.size]? = some (.cells zeroMs 27 (0, 0)) := (hb2.block _ hs1).trans g1
    have B2 : Below w.heap.size w w2 := B1.trans (hb2.mono B1.size)
    clear hO hb2 g1 B1
    go_wp2_with (first
      | go_skip
      | ((with_reducible refine wl_gb16 27 _ rfl ?_); refine wl_buildM0 rfl rfl ?_)
      | ((with_reducible refine wl_gs16 27 _ _ rfl ?_); refine wl_storeA MsOk rfl _ _ rfl w.heap.size (msA (zeroM 0)) (ms_fits (zero_ok 0)) rfl rfl _ g2 rfl _ rfl ?_))
    refine retAe MsOk (p := 2) (u := 3) rfl rfl w.heap.size rfl (msA (zeroM 0)) (msA_size (zero_ok 0)) (setRow_heap _ _ _ _ _ _ g2) _ rfl ⟨?_, below_setRow B2 (Nat.le_refl _) _⟩
    rw [HD.out]; rfl
end Go.Proofs.Ytjmbdoiibchokaa
namespace Go.Proofs.Ytjmbdoiibchokaa
open Go Go.Lib Go.RowKit
set_option maxRecDepth 20000

theorem dec_ok (L : List UInt8) : okM (decM L).1 := by
  cases h : decO L with
  | none => rw [decM_none h]; exact zero_ok 0
  | some m => rw [decM_some h]; exact (enc_dec h).1
set_option maxHeartbeats 8000000 in
theorem lawMReads_any (v : Value) (L : List UInt8) (w : World) (hL : BSl w v L) (hl : L.length ≤ 140737488351232) : Calls Try.prog 5 #[v] w fun e w' => e = .returned (.bool true) ∧ Below w.heap.size w w' := by
  have AW : Hid (∀ W, Calls Try.prog 8 #[] W fun e w' => e = .returned (.bool true) ∧ Below W.heap.size W w') := fun W => awake16_any W
  obtain ⟨m, hmd⟩ : ∃ m, m = (decM L).1 := ⟨_, rfl⟩
  obtain ⟨ec, hec⟩ : ∃ ec, ec = (decM L).2 := ⟨_, rfl⟩
  have hm : okM m := by rw [hmd]; exact dec_ok L
  have HCS : Hid ((ec = 0 ∧ encM m = (L, 0)) ∨ (ec = 12 ∧ m = zeroM 0)) := by
    cases h : decO L with
    | none =>
      rw [decM_none h] at hmd hec
      exact .inr ⟨hec, hmd⟩
    | some m' =>
      rw [decM_some h] at hmd hec
      obtain ⟨_, h2, h3⟩ := enc_dec h
      refine .inl ⟨hec, ?_⟩
      rw [hmd]
      unfold encM
      rw [if_pos h2, h3]
  have D1 : Hid (∀ W, BSl W v L → Calls Try.prog 14 #[v] W fun e w' => e = .returned (.tuple #[.agg (msA m), .int .i64 ec]) ∧ Below W.heap.size W w') := fun W hW => by rw [hmd, hec]; exact mdec_any v L W hW (by omega)
  have D2 : Hid (∀ W, BSl W v L → Calls Try.prog 15 #[v] W fun e w' => e = .returned (.tuple #[.agg (msA m), .int .i64 ec]) ∧ Below W.heap.size W w') := fun W hW => by rw [hmd, hec]; exact r16dec_any v L W hW (by omega)
  have E1 : Hid (∀ W, Calls Try.prog 11 #[.agg (msA m)] W fun e w' => ∃ u, e = .returned (.tuple #[u, .int .i64 (encM m).2]) ∧ BOwn W.heap.size w' u (encM m).1 ∧ Below W.heap.size W w') := fun W => menc_any m hm W
  clear hmd hec hl
  have HV : Hid (BSl w v L) := hL
  obtain ⟨ov, nv, cx, rfl⟩ := val_slice hL
  clear hL
  have hms := msA_size hm
  have hfi := ms_fits hm
  have eM : ∀ W, (Op.equalIn 10000 27 (.agg (msA m)) (.agg (msA m))).run Try.prog W = .ok true W := fun W => by
    rw [eqM16 hm hm W, (eqB16_iff hm hm).2 rfl]
  have eg : ∀ op x y (xs ys : Array Value) w, (eqGuard op 27 x y (.agg xs) (.agg ys)).run Try.prog w = .ok () w := egM
  go_enter Try.func5, Try.ntmps5
  go_wp2_with fail
  refine (AW.out _).mono ?_
  rintro e w1 ⟨rfl, hb1⟩
  have B1 : Below w.heap.size w w1 := hb1
  clear hb1
  go_wp2_with fail
  refine (D1.out _ (HV.out.below B1)).mono ?_
  rintro e w2 ⟨rfl, hb2⟩
  have B2 : Below w.heap.size w w2 := B1.trans (hb2.mono B1.size)
  clear hb2 B1
  have n0 := heap_new w2 (.cells zeroMs 27) _ rfl
  have g3 := setRow_heap _ _ _ (msA m) _ _ n0
  have B3 : Below w.heap.size w ((w2.alloc (.cells zeroMs 27)).setRow w2.heap.size (msA m)) := below_setRow (B2.alloc B2.size _) B2.size _
  go_wp2_with (first
    | ((with_reducible refine wl_gs16 27 _ _ rfl ?_); refine wl_storeA MsOk rfl _ _ rfl w2.heap.size (msA m) hfi rfl rfl _ n0 rfl _ rfl ?_))
  refine (D2.out _ (HV.out.below B3)).mono ?_
  rintro e w4 ⟨rfl, hb4⟩
  have g4 : w4.heap[w2.heap.size]? = some (.cells (msA m) 27 (0, 0)) := (hb4.block _ (Array.getElem?_eq_some_iff.1 g3).1).trans g3
  have B4 : Below w.heap.size w w4 := B3.trans (hb4.mono B3.size)
  have hs4 := (Array.getElem?_eq_some_iff.1 g4).1
  clear hb4 n0 g3 B3
  have n0 := heap_new w4 (.cells zeroMs 27) _ rfl
  have n1 := setRow_heap _ _ _ (msA m) _ _ n0
  have g5 : ((w4.alloc (.cells zeroMs 27)).setRow w4.heap.size (msA m)).heap[w2.heap.size]? = some (.cells (msA m) 27 (0, 0)) := (setRow_other _ _ _ _ (by omega)).trans (heap_past _ _ _ _ g4)
  have B5 : Below w.heap.size w ((w4.alloc (.cells zeroMs 27)).setRow w4.heap.size (msA m)) := below_setRow (B4.alloc B4.size _) B4.size _
  rcases HCS.out with ⟨he, hen⟩ | ⟨he, hz⟩
  · subst he
    rw [hen] at E1
    clear hen HCS
    go_wp2_with (first
      | ((with_reducible refine wl_gs16 27 _ _ rfl ?_); refine wl_storeA MsOk rfl _ _ rfl w4.heap.size (msA m) hfi rfl rfl _ n0 rfl _ rfl ?_)
      | ((with_reducible refine wl_gl16 27 _ rfl ?_); refine wl_loadA MsOk rfl _ rfl w4.heap.size 0 rfl _ _ _ (msA m) hms n1 (own_cells _ _) ?_)
      | ((with_reducible refine wl_gl16 27 _ rfl ?_); refine wl_loadA MsOk rfl _ rfl w2.heap.size 0 rfl _ _ _ (msA m) hms g5 (own_cells _ _) ?_))
    refine (E1.out _).mono ?_
    rintro e w6 ⟨u, rfl, hO, hb6⟩
    have B6 : Below w.heap.size w w6 := B5.trans (hb6.mono B5.size)
    have HU : Hid (BSl w6 u L) := hO.sl
    obtain ⟨ou, nu, cu, rfl⟩ := val_slice hO.sl
    clear hO hb6
    have CS : Hid (∀ W, W = w6 → Calls Try.prog 13 #[.slice ov nv cx, .slice ou nu cu] W fun e w' => e = .returned (.bool true) ∧ w' = W) := fun W hW => by
      subst hW
      have := rsameB_any _ _ L L W (HV.out.below B6) HU.out
      rw [beq_self_eq_true] at this
      exact this
    go_wp2_with (first
      | (go_at_call 13; refine (CS.out _ rfl).mono ?_; rintro e w7 ⟨rfl, hw7⟩; obtain rfl := hw7.symm))
    go_ret
    exact ⟨rfl, B6⟩
  · subst he
    have eZ : ∀ W, (Op.equalIn 10000 27 (.agg (msA m)) (.agg (msA (zeroM 0)))).run Try.prog W = .ok true W := fun W => by
      rw [← hz]
      exact eM W
    clear hz HCS
    go_wp2_with (first
      | ((with_reducible refine wl_gs16 27 _ _ rfl ?_); refine wl_storeA MsOk rfl _ _ rfl w4.heap.size (msA m) hfi rfl rfl _ n0 rfl _ rfl ?_)
      | ((with_reducible refine wl_gl16 27 _ rfl ?_); refine wl_loadA MsOk rfl _ rfl w4.heap.size 0 rfl _ _ _ (msA m) hms n1 (own_cells _ _) ?_)
      | ((with_reducible refine wl_gl16 27 _ rfl ?_); refine wl_loadA MsOk rfl _ rfl w2.heap.size 0 rfl _ _ _ (msA m) hms g5 (own_cells _ _) ?_)
      | ((with_reducible refine wl_gb16 27 _ rfl ?_); refine wl_buildM0 rfl rfl ?_))
    go_ret
    exact ⟨rfl, B5⟩
end Go.Proofs.Ytjmbdoiibchokaa
