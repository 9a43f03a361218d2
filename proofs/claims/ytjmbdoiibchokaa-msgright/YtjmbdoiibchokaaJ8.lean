import Derived.Test.YtjmbdoiibchokaaJ7
namespace Go.Proofs.Ytjmbdoiibchokaa
open Go Go.Lib Go.RowKit
set_option maxRecDepth 20000

/-! The fields' fill. -/
def fillN : List Nat → List UInt8 → MsgM → MsgM
  | [], _, m => m
  | j :: ns, bs, m => fillN ns (bs.drop 6) (setN m j (valB (bs.take 6) : Nat))
theorem setF_num {m : MsgM} {j : Nat} (hj : j < 13) (bs : List UInt8) : setF m j bs = setN m j (valB bs : Nat) := by
  unfold setF setN
  rw [if_neg (by omega), if_neg (by omega)]
theorem sizeF_num {j : Nat} (hj : j < 13) : sizeF j = 6 := by
  unfold sizeF
  rw [if_neg (by omega), if_neg (by omega)]
theorem goM_nums (tl : List Nat) : ∀ (ns : List Nat) (bs : List UInt8) (m : MsgM), (∀ j ∈ ns, j < 13) → goM (ns ++ tl) bs m = goM tl (bs.drop (ns.length * 6)) (fillN ns bs m)
  | [], bs, m, _ => by simp [fillN]
  | j :: ns, bs, m, h => by
    have hj := h j List.mem_cons_self
    rw [List.cons_append, goM, sizeF_num hj]
    have : (decide (j = 13) && !(cubR (setF m j (bs.take 6)))) = false := by
      rw [decide_eq_false (by omega)]
      rfl
    rw [this, setF_num hj]
    simp only [Bool.false_eq_true, if_false]
    rw [goM_nums tl ns _ _ (fun x hx => h x (List.mem_cons_of_mem _ hx)), List.drop_drop, fillN, List.length_cons]
    congr 2
    omega
theorem fillN_snoc (j : Nat) : ∀ (ns : List Nat) (bs : List UInt8) (m : MsgM), fillN (ns ++ [j]) bs m = setN (fillN ns bs m) j (valB ((bs.drop (ns.length * 6)).take 6) : Nat)
  | [], bs, m => by simp [fillN]
  | x :: ns, bs, m => by
    have e : 6 + ns.length * 6 = (ns.length + 1) * 6 := by omega
    rw [List.cons_append, fillN, fillN_snoc j ns, fillN, List.drop_drop, List.length_cons, e]
/-- Worlds that hold one block. -/
structure Keep16 (g : Nat) (o : Obj) where
  world : World
  k1 : world.heap[g]? = some o
abbrev In16 (g : Nat) (o : Obj) (w : World) : Prop := ∃ z : Keep16 g o, w = z.world
theorem In16.of {g : Nat} {o : Obj} {w : World} (h : w.heap[g]? = some o) : In16 g o w := ⟨⟨w, h⟩, rfl⟩
/-- What comes of bytes. -/
def lenF (n : Nat) (c d : Bool) : Nat := n * 6 + (if c then 26 else 0) + (if d then 13 else 0)
def tlF (c d : Bool) : List Nat := (if c then [13] else []) ++ (if d then [14] else [])
def fillG (ns : List Nat) (c d : Bool) (L : List UInt8) (m : MsgM) : Option MsgM := if L.length = lenF ns.length c d then goM (ns ++ tlF c d) L m else none
def FillR (g : Nat) (ns : List Nat) (c d : Bool) (m : MsgM) (L : List UInt8) (w : World) (e : Ending) (w' : World) : Prop :=
  ∃ m', w.grownBy w' (some g) ∧ okM m' ∧ w'.heap[g]? = some (.cells (msA m') 27 (0, 0)) ∧ ((fillG ns c d L m = some m' ∧ e = .returned (.bool true)) ∨ (fillG ns c d L m = none ∧ e = .returned (.bool false)))
theorem fillG_none {ns : List Nat} {c d : Bool} {L : List UInt8} {m : MsgM} (h : L.length ≠ lenF ns.length c d) : fillG ns c d L m = none := by unfold fillG; rw [if_neg h]
theorem fillG_ff {ns : List Nat} {L : List UInt8} {m : MsgM} (hn : ∀ j ∈ ns, j < 13) (h : L.length = lenF ns.length false false) : fillG ns false false L m = some (fillN ns L m) := by
  unfold fillG
  rw [if_pos h, goM_nums _ ns L m hn]
  rfl
theorem fillG_ft {ns : List Nat} {L : List UInt8} {m : MsgM} (hn : ∀ j ∈ ns, j < 13) (h : L.length = lenF ns.length false true) : fillG ns false true L m = some (setH (fillN ns L m) (nI (L.drop (ns.length * 6)))) := by
  unfold fillG
  rw [if_pos h, goM_nums _ ns L m hn]
  have hl : (L.drop (ns.length * 6)).length = 13 := by rw [List.length_drop, h]; unfold lenF; simp
  show goM [14] _ _ = _
  rw [goM]
  have e : (L.drop (ns.length * 6)).take (sizeF 14) = L.drop (ns.length * 6) := List.take_of_length_le (by rw [hl]; decide)
  rw [e]
  rfl
theorem tcT_at {L : List UInt8} {p : Nat} (h : L.length = p + 26) : tcT L p = if (nI ((L.drop p).take 13) == can (nI ((L.drop p).take 13)) (nI (L.drop (p + 13)))) = true then (nI ((L.drop p).take 13), nI (L.drop (p + 13)), 0) else (Z, Z, 12) := by
  unfold tcT
  rw [if_pos (by omega), if_pos (by omega), Int.toNat_natCast, List.take_of_length_le (l := L.drop (p + 13)) (by rw [List.length_drop]; omega)]
theorem fillG_tf {ns : List Nat} {L : List UInt8} {m : MsgM} (hn : ∀ j ∈ ns, j < 13) (h : L.length = lenF ns.length true false) :
    fillG ns true false L m = if (tcT L ((ns.length * 6 : Nat) : Int)).2.2 = 0 then some (setC (fillN ns L m) (tcT L ((ns.length * 6 : Nat) : Int)).1 (tcT L ((ns.length * 6 : Nat) : Int)).2.1) else none := by
  have hl : L.length = ns.length * 6 + 26 := by rw [h]; unfold lenF; simp
  unfold fillG
  rw [if_pos h, goM_nums _ ns L m hn, tcT_at hl]
  have hl2 : (L.drop (ns.length * 6)).length = 26 := by rw [List.length_drop, hl]; omega
  show goM [13] _ _ = _
  rw [goM]
  have e : (L.drop (ns.length * 6)).take (sizeF 13) = L.drop (ns.length * 6) := List.take_of_length_le (by rw [hl2]; decide)
  rw [e]
  have e2 : setF (fillN ns L m) 13 (L.drop (ns.length * 6)) = setC (fillN ns L m) (nI ((L.drop (ns.length * 6)).take 13)) (nI (L.drop (ns.length * 6 + 13))) := by
    unfold setF setC
    rw [if_pos rfl, List.drop_drop]
  rw [e2]
  have e3 : cubR (setC (fillN ns L m) (nI ((L.drop (ns.length * 6)).take 13)) (nI (L.drop (ns.length * 6 + 13)))) = (nI ((L.drop (ns.length * 6)).take 13) == can (nI ((L.drop (ns.length * 6)).take 13)) (nI (L.drop (ns.length * 6 + 13)))) := rfl
  rw [e3]
  cases (nI ((L.drop (ns.length * 6)).take 13) == can (nI ((L.drop (ns.length * 6)).take 13)) (nI (L.drop (ns.length * 6 + 13))))
  · simp
  · simp [goM]
theorem tcT_byt {L : List UInt8} {p : Nat} (h : L.length = p + 26) : Byt (tcT L p).1 ∧ Byt (tcT L p).2.1 := by
  rw [tcT_at h]
  split
  · exact ⟨nI_byt _ (by rw [List.length_take, List.length_drop]; omega), nI_byt _ (by rw [List.length_drop]; omega)⟩
  · exact ⟨Z_byt, Z_byt⟩
/-- Thirteen bytes are laid over the header of a message's block. -/
theorem wl_copyM {ops : Array Oper} {rest : List Oper} {o : Oper} {a : Act} {w : World} {Q : Exit → Act → World → Prop} (hgd : o.guard = none) (d s : Operand) (ho : o.op = .call { callee := .builtin .copy, args := #[d, s], argTypes := #[30, 30] })
    (g : Nat) (m : MsgM) (hm : okM m) (hd : a.eval d = .slice (some ⟨g, 40, none⟩) 13 13) (u : Value) (hs : a.eval s = u) (L : List UInt8) (hL : BSl w u L) (hl : L.length = 13) (hg : w.heap[g]? = some (.cells (msA m) 27 (0, 0)))
    (h : wpList Try.prog ops Q rest (a.put o.dst (.int .i64 13)) (w.setRow g (msA (setH m (nI L))))) : wpList Try.prog ops Q (o :: rest) a w := by
  obtain ⟨oa, cap, rfl, h1, h2, h3, h4⟩ := hL
  obtain ⟨gs, os, _, _, _, rfl, _⟩ := h4 0 (by omega)
  have e : (Lib.byteCells L) = (hv (nI L)).toList := by unfold Lib.byteCells nI hv; rw [List.map_map]; rfl
  refine wpList_copy_own hgd d s 30 30 ho 5 Try.underlying30 (by kernel_rfl) g 40 13 13 ⟨gs, os, none⟩ L.length cap hd hs (msA m) 27 hg (Lib.byteCells L) ?_ ?_ ?_ ?_ ?_
  · rw [Lib.byteCells_length, hl]; rfl
  · intro j v hj
    have hjl : j < 13 := by
      have := (List.getElem?_eq_some_iff.1 hj).1
      rw [Lib.byteCells_length, hl] at this
      exact this
    obtain ⟨g', off', cur, t, fr, e, h5, h6⟩ := h4 j (by omega)
    simp only [Option.some.injEq, Addr.mk.injEq, and_true] at e
    obtain ⟨rfl, rfl⟩ := e
    rw [add_form, cell_of_row _ _ _ _ _ _ h5, h6, ← hj, bcells_at _ j (by omega)]
  · rw [Lib.byteCells_length, hl, msA_size hm]; decide
  · intro v hv
    unfold Lib.byteCells at hv
    obtain ⟨b, _, rfl⟩ := List.mem_map.1 hv
    rfl
  · have e2 : ((msA m).toList.take 40 ++ (Lib.byteCells L ++ (msA m).toList.drop (40 + (Lib.byteCells L).length))).toArray = msA (setH m (nI L)) := by
      rw [Lib.byteCells_length, hl, e, ← List.append_assoc]
      exact ms_setH hm (nI L)
    rw [e2, show goInt ((Lib.byteCells L).length : Nat) = .int .i64 13 by rw [Lib.byteCells_length, hl]; rfl]
    exact h
set_option maxHeartbeats 16000000 in
theorem ffill_any (h g : Nat) (ns : List Nat) (c d : Bool) (m : MsgM) (w : World) (H : FIn w h g ns m) (hl : ns.length ≤ 7) (hne : h ≠ g) (hcd : ¬ (c = true ∧ d = true)) (v : Value) (L : List UInt8) (hL : BSl w v L) (hv : v.ownBlock ≠ some g) :
    Calls Try.prog 30 #[.agg (fvA h g ns.length c d), v] w fun e w' => FillR g ns c d m L w e w' := by
  obtain ⟨ov, cap, hvv, hc1, hc2⟩ := hL.slice
  subst hvv
  obtain ⟨nl, hnl⟩ : ∃ nl, nl = L.length := ⟨_, rfl⟩
  have HNL : Hid (nl = L.length) := hnl
  rw [← hnl] at hL hc1 hv ⊢
  clear hnl
  have hcm := hc2
  unfold maxLen at hc2
  obtain ⟨n, hn⟩ : ∃ n, n = ns.length := ⟨_, rfl⟩
  have HN : Hid (n = ns.length) := hn
  rw [← hn] at hl ⊢
  clear hn
  have HNS : Hid (∀ j ∈ ns, j < 13) := H.hn
  have hgl := (Array.getElem?_eq_some_iff.1 H.hg).1
  have hhl := (Array.getElem?_eq_some_iff.1 H.hh).1
  have HV : Hid (Value.ownBlock (.slice ov nl cap) ≠ some g) := hv
  obtain ⟨w1, hw1⟩ : ∃ w1, w1 = w.alloc (.cells (fvA h g n c d) 45) := ⟨_, rfl⟩
  have HI : Hid (FIn w1 h g ns m) := by rw [hw1]; exact H.alloc _
  have HL : Hid (BSl w1 (.slice ov nl cap) L) := by rw [hw1]; exact hL.alloc _
  have HF : Hid (w1.heap[w.heap.size]? = some (.cells (fvA h g n c d) 45 (0, 0))) := by rw [hw1]; exact heap_new _ _ _ rfl
  have HB : Hid (w.grownBy w1 (some g)) := by rw [hw1]; exact grown_below16 (grown_refl16 _ _) ((Below.refl _ _).alloc (Nat.le_refl _) _)
  have g0 := HF.out
  have hsz1 := (Array.getElem?_eq_some_iff.1 g0).1
  have CS : Hid (∀ W, Calls Try.prog 44 #[.agg (fvA h g n c d)] W fun e w' => e = .returned (.int .i64 ((lenF n c d : Nat) : Int)) ∧ Below W.heap.size W w') := fun W => fsize_any h g n c d W hl
  clear H hL hv
  have hle : lenF n c d ≤ 81 := by unfold lenF; split <;> split <;> omega
  obtain ⟨q, hq⟩ : ∃ q, q = lenF n c d := ⟨_, rfl⟩
  have HQ : Hid (q = lenF n c d) := hq
  rw [← hq] at CS hle
  clear hq
  have g00 : (w.alloc (.cells (fvA h g n c d) 45)).heap[w.heap.size]? = some (.cells (fvA h g n c d) 45 (0, 0)) := heap_new _ _ _ rfl
  by_cases hlen : nl = q
  · have HLN : Hid (nl = q) := hlen
    have hq0 : ((nl : Int) == (q : Int)) = true := by rw [hlen]; simp
    have hq1 : (nl == q) = true := by rw [hlen]; simp
    have hq2 : ((nl : Int) != (q : Int)) = false := by rw [hlen]; simp
    clear hlen
    go_enter Try.func30, Try.ntmps30
    go_wp2_with (first
      | ((with_reducible refine wl_gl16 45 _ rfl ?_); refine wl_loadA FvOk rfl _ rfl w.heap.size 0 rfl _ _ _ (fvA h g n c d) rfl g00 (own_cells _ _) ?_))
    rw [← hw1]
    clear hw1 g00
    refine (CS.out _).mono ?_
    rintro e w2 ⟨rfl, hb2⟩
    have HI2 : Hid (FIn w2 h g ns (fillN (ns.take 0) L m)) := HI.out.below hb2
    have HL2 : Hid (BSl w2 (.slice ov nl cap) L) := HL.out.below hb2
    have HF2 : Hid (w2.heap[w.heap.size]? = some (.cells (fvA h g n c d) 45 (0, 0))) := (hb2.block _ hsz1).trans g0
    have HB2 : Hid (w.grownBy w2 (some g)) := grown_below16 HB.out hb2
    have c0 : w2.cell? ⟨w.heap.size, 0, none⟩ = some (.slice (some ⟨h, 0, none⟩) n n) := cell_of_row _ _ _ _ _ _ HF2.out
    clear hb2 HI HL HF HB g0 hsz1 CS
    go_wp2_with fail
    clear c0 hq0 hq1 hq2
    go_loopw [5, 20] (fun x i W => ∃ k : Nat, k ≤ n ∧ i = .int .i64 k ∧ x = .int .i64 ((k * 6 : Nat) : Int) ∧ FIn W h g ns (fillN (ns.take k) L m) ∧ BSl W (.slice ov nl cap) L ∧ W.heap[w.heap.size]? = some (.cells (fvA h g n c d) 45 (0, 0)) ∧ w.grownBy W (some g)) (fun _ i _ => n - (intOf i).toNat)
    case atStart => exact ⟨0, Nat.zero_le _, rfl, rfl, HI2.out, HL2.out, HF2.out, HB2.out⟩
    case round =>
      clear HI2 HL2 HF2 HB2
      obtain ⟨k, hk, rfl, rfl, hI, hLL, hF, hB⟩ := hrel
      have HI : Hid (FIn wr h g ns (fillN (ns.take k) L m)) := hI
      have HL : Hid (BSl wr (.slice ov nl cap) L) := hLL
      have HF : Hid (wr.heap[w.heap.size]? = some (.cells (fvA h g n c d) 45 (0, 0))) := hF
      have HB : Hid (w.grownBy wr (some g)) := hB
      have hsz := (Array.getElem?_eq_some_iff.1 hF).1
      clear hI hLL hF hB
      by_cases hlt : k < n
      · have hfit : k * 6 + 6 ≤ nl := by
          rw [HLN.out, HQ.out]
          unfold lenF
          omega
        obtain ⟨j, hj⟩ : ∃ j, ns[k]? = some j := ⟨_, List.getElem?_eq_getElem (by rw [← HN.out]; exact hlt)⟩
        obtain ⟨e1, e2, hj13⟩ := HI.out.at hj
        have f2 : wr.frozen? ⟨g, j + 1, none⟩ = false := frozen_of_row _ _ _ _ _ HI.out.hg
        obtain ⟨y, hy⟩ : ∃ y : Nat, y = valB ((L.drop (k * 6)).take 6) := ⟨_, rfl⟩
        have hy2 : y < 281474976710656 := by
          have h1 := valB_lt ((L.drop (k * 6)).take 6)
          have h2 : ((L.drop (k * 6)).take 6).length = 6 := by rw [List.length_take, List.length_drop, ← HNL.out]; omega
          rw [h2, ← hy] at h1
          omega
        have HT : Hid (fillN (ns.take (k + 1)) L m = setN (fillN (ns.take k) L m) j (y : Int)) := by
          show _ = _
          rw [List.take_add_one, hj]
          show fillN (ns.take k ++ [j]) L m = _
          rw [fillN_snoc, List.length_take, hy, Nat.min_eq_left (by rw [← HN.out]; omega)]
        have CT : Hid (∀ W, W = wr → Calls Try.prog 45 #[.slice ov nl cap, .int .i64 ((k * 6 : Nat) : Int), .int .i64 6] W fun e w' => e = .returned (.tuple #[.int .u64 (y : Int), .int .i64 0]) ∧ w' = W) := fun W hW => by
          subst hW
          have hq : takeT L ((k * 6 : Nat) : Int) 6 = (y, 0) := by
            unfold takeT
            rw [if_pos ⟨by decide, by omega⟩, if_pos (by rw [← HNL.out]; omega), Int.toNat_natCast, hy]
            rfl
          have := take_any (.slice ov nl cap) L ((k * 6 : Nat) : Int) 6 W HL.out (by omega)
          rw [hq] at this
          exact this
        obtain ⟨x, hx⟩ : ∃ x, x = numM (fillN (ns.take k) L m) j := ⟨_, rfl⟩
        rw [← hx] at e2
        clear hj hx hy
        obtain ⟨p, hp⟩ : ∃ p, p = k * 6 := ⟨_, rfl⟩
        have HP : Hid (p = k * 6) := hp
        rw [← hp] at CT hfit ⊢
        clear hp
        have hpp : p ≤ 100 := by have := HP.out; omega
        go_wp2_with fail
        refine (CT.out _ rfl).mono ?_
        rintro e w2 ⟨rfl, hw2⟩
        obtain rfl := hw2.symm
        go_wp2_with fail
        go_roundw
        case rel =>
          refine ⟨k + 1, by omega, by go_num, ?_, ⟨?_, ?_, ?_, HNS.out⟩, ?_, ?_, grown_cell16 HB.out _ _⟩
          · have := HP.out
            congr 1
            omega
          · rw [HT.out, ← ms_setN HI.out.hm j hj13 (y : Int)]
            exact heap_setCell_same _ _ _ _ _ _ HI.out.hg
          · exact (heap_setCell_other _ ⟨g, j + 1, none⟩ h _ (by simpa using hne)).trans HI.out.hh
          · rw [HT.out]
            exact setN_ok HI.out.hm j _
          · exact HL.out.grown (grown_cell16 (grown_refl16 _ _) _ _) (fun q hq e => HV.out (hq.trans e.symm))
          · exact (heap_setCell_other _ ⟨g, j + 1, none⟩ w.heap.size _ (by simp; omega)).trans HF.out
        case measure => simp [intOf]; omega
      · obtain rfl : k = n := by omega
        obtain ⟨p, hp⟩ : ∃ p, p = k * 6 := ⟨_, rfl⟩
        have HP : Hid (p = k * 6) := hp
        rw [← hp]
        clear hp
        have hpp : p ≤ 42 := by have := HP.out; omega
        have hI2 : FIn wr h g ns (fillN ns L m) := by
          have := HI.out
          rw [HN.out, List.take_length] at this
          exact this
        obtain ⟨m1, hm1⟩ : ∃ m1, m1 = fillN ns L m := ⟨_, rfl⟩
        have HM1 : Hid (m1 = fillN ns L m) := hm1
        rw [← hm1] at hI2
        clear hm1 HI
        have hgm := hI2.hg
        have hmm := hI2.hm
        have hms := msA_size hmm
        clear hI2
        have c1 : wr.cell? ⟨w.heap.size, 1, none⟩ = some (ptrC g c) := cell_of_row _ _ _ _ _ _ HF.out
        have c2 : wr.cell? ⟨w.heap.size, 2, none⟩ = some (ptrH g d) := cell_of_row _ _ _ _ _ _ HF.out
        have HLE : Hid (L.length = lenF ns.length c d) := by show _ = _; rw [← HNL.out, ← HN.out, HLN.out, HQ.out]
        cases c with
        | false =>
          have c1' : wr.cell? ⟨w.heap.size, 1, none⟩ = some (.pointer none) := c1
          clear c1
          cases d with
          | false =>
            have c2' : wr.cell? ⟨w.heap.size, 2, none⟩ = some (.pointer none) := c2
            clear c2
            go_wp2_with fail
            go_ret
            exact ⟨m1, HB.out, hmm, hgm, .inl ⟨by rw [fillG_ff HNS.out HLE.out, HM1.out], rfl⟩⟩
          | true =>
            have c2' : wr.cell? ⟨w.heap.size, 2, none⟩ = some (.pointer (some ⟨g, 40, none⟩)) := c2
            clear c2
            have HFI : Hid (nl = p + 13) := by
              show _ = _
              rw [HLN.out, HQ.out, HP.out]
              rfl
            have hfi1 : p < nl := by have := HFI.out; omega
            go_wp2_with fail
            have hms2 : okM (setH m1 (nI (L.drop p))) := setH_ok hmm (nI_byt _ (by rw [List.length_drop, ← HNL.out, HFI.out]; omega))
            obtain ⟨gv, ofv, _, rfl, _, _⟩ := HL.out.at p (by rw [HFI.out]; omega)
            have HP1 : Hid (∀ W : World, wr.grownBy W none → BSl W (.slice (some ⟨gv, ofv + p, none⟩) (nl - p) (cap - p)) (L.drop p)) := fun W hW => by
              have := (HL.out.grown hW (fun _ _ => by simp)).part gv ofv p (nl - p) (cap - p) rfl (by omega) (by omega) (by omega)
              rw [List.take_of_length_le (by rw [List.length_drop, ← HNL.out]; exact Nat.le_refl _)] at this
              exact this
            have CF : ∀ z : Keep16 w.heap.size (.cells (fvA h g k false true) 45 (0, 0)), z.world.cell? ⟨w.heap.size, 2, none⟩ = some (.pointer (some ⟨g, 40, none⟩)) := fun z => cell_of_row _ _ _ _ _ _ z.k1
            refine region_cut (fun a a' w' => ∃ y55 y56 y57 y58 y59 y60 y61 y62, a' = ((((((((a.put (some 55) y55).put (some 56) y56).put (some 57) y57).put (some 58) y58).put (some 59) y59).put (some 60) y60).put (some 61) y61).put (some 62) y62) ∧ w' = wr.drew.setRow g (msA (setH m1 (nI (L.drop p))))) ?_ ?_
            · have S0 : In16 w.heap.size (.cells (fvA h g k false true) 45 (0, 0)) wr.drew := In16.of HF.out
              have ne1 : Nonempty (Keep16 w.heap.size (.cells (fvA h g k false true) 45 (0, 0))) := ⟨⟨wr.drew, HF.out⟩⟩
              refine region_beginS (In16 w.heap.size (.cells (fvA h g k false true) 45 (0, 0))) 8 rfl (by kernel_rfl) ?_
              refine region_reads 0 7 1 rfl (by kernel_rfl) (by kernel_rfl) (by kernel_rfl) (by intro d v c a w h; exact absurd h.1 (by simp)) S0 ?_
              simp only [List.drop_zero, List.take_succ_cons, List.take_zero]
              go_big_quiet_step (fail)
              go_big_quiet_step (fail)
              go_big_quiet_step (rfl)
              go_big_quiet_step (fail)
              go_big_quiet_step (fail)
              go_big_quiet_step (fail)
              go_big_quiet_step (fail)
              refine wpQuiet_nil ?_
              refine wpAnyH_all (rs := [7]) (by kernel_rfl) (by decide) ?_
              intro i hi
              obtain rfl := List.mem_singleton.1 hi
              refine wpOp_of_listW rfl ?_
              refine wl_copyM rfl _ _ rfl g m1 hmm rfl (.slice (some ⟨gv, ofv + p, none⟩) (nl - p) (cap - p)) rfl (L.drop p) (HP1.out _ ⟨rfl, rfl, rfl, Nat.le_refl _, fun _ _ _ => rfl⟩) (by rw [List.length_drop, ← HNL.out, HFI.out]; omega) hgm ?_
              refine ⟨In16.of ((setRow_other _ _ _ _ (by omega)).trans HF.out), ?_⟩
              refine wpAnyH_done (by kernel_rfl) ?_ _
              simp only [Act.put, List.setIfInBounds_toArray, List.set_cons_succ, List.set_cons_zero]
              exact ⟨trivial, _, _, _, _, _, _, _, _, rfl, trivial⟩
            rintro a' w3 ⟨y55, y56, y57, y58, y59, y60, y61, y62, rfl, hw3⟩
            have HG3 : Hid (w3.heap[g]? = some (.cells (msA (setH m1 (nI (L.drop p)))) 27 (0, 0))) := by rw [hw3]; exact setRow_heap _ _ _ _ _ _ hgm
            have HB3 : Hid (w.grownBy w3 (some g)) := by rw [hw3]; exact grown_row16 (w := wr.drew) (HB.out.trans ⟨rfl, rfl, rfl, Nat.le_refl _, fun _ _ _ => rfl⟩) _
            clear hw3
            simp only [Act.put, List.setIfInBounds_toArray, List.set_cons_succ, List.set_cons_zero]
            go_wp2_with fail
            go_ret
            exact ⟨_, HB3.out, hms2, HG3.out, .inl ⟨by rw [fillG_ft HNS.out HLE.out, HM1.out, HP.out, HN.out], rfl⟩⟩
        | true =>
          have c1' : wr.cell? ⟨w.heap.size, 1, none⟩ = some (.pointer (some ⟨g, 14, none⟩)) := c1
          cases d with
          | true => exact absurd ⟨rfl, rfl⟩ hcd
          | false =>
            have c2' : wr.cell? ⟨w.heap.size, 2, none⟩ = some (.pointer none) := c2
            clear c1 c2
            have HFI : Hid (nl = p + 26) := by
              show _ = _
              rw [HLN.out, HQ.out, HP.out]
              rfl
            obtain ⟨V, hV⟩ : ∃ V, V = (tcT L (p : Int)).1 := ⟨_, rfl⟩
            obtain ⟨M, hM⟩ : ∃ M, M = (tcT L (p : Int)).2.1 := ⟨_, rfl⟩
            obtain ⟨ec, hec⟩ : ∃ ec, ec = (tcT L (p : Int)).2.2 := ⟨_, rfl⟩
            have hVM := tcT_byt (L := L) (p := p) (by rw [← HNL.out]; exact HFI.out)
            rw [← hV, ← hM] at hVM
            have HG : Hid (fillG ns true false L m = if ec = 0 then some (setC m1 V M) else none) := by
              show _ = _
              rw [fillG_tf HNS.out HLE.out, HM1.out, hV, hM, hec, HP.out, HN.out]
            have CT : Hid (∀ W, W = wr → Calls Try.prog 46 #[.slice ov nl cap, .int .i64 (p : Int)] W fun e w' => e = .returned (.tuple #[.agg (cv V M), .int .i64 ec]) ∧ Below W.heap.size W w') := fun W hW => by
              subst hW
              have := takeCube_any (.slice ov nl cap) L (p : Int) W HL.out (by omega)
              rw [← hV, ← hM, ← hec] at this
              exact this
            clear hV hM hec
            have hVl := hVM.1.1
            have hMl := hVM.2.1
            go_wp2_with fail
            refine (CT.out _ rfl).mono ?_
            rintro e w2 ⟨rfl, hb2⟩
            have HB2 : Hid (w.grownBy w2 (some g)) := grown_below16 HB.out hb2
            have hg2 : w2.heap[g]? = some (.cells (msA m1) 27 (0, 0)) := (hb2.block _ (Array.getElem?_eq_some_iff.1 hgm).1).trans hgm
            have HF2 : Hid (w2.heap[w.heap.size]? = some (.cells (fvA h g k true false) 45 (0, 0))) := (hb2.block _ hsz).trans HF.out
            have hs2 := (Array.getElem?_eq_some_iff.1 HF2.out).1
            clear hb2 hgm c1' c2'
            have n0 := heap_new w2 (.cells zeroC 25) _ rfl
            have HN0 : Hid ((w2.alloc (.cells zeroC 25)).heap[w.heap.size]? = some (.cells (fvA h g k true false) 45 (0, 0))) := heap_past _ _ _ _ HF2.out
            have hg20 : (w2.alloc (.cells zeroC 25)).heap[g]? = some (.cells (msA m1) 27 (0, 0)) := heap_past _ _ _ _ hg2
            have n1 := setRow_heap _ _ _ (cv V M) _ _ n0
            have hg3 : ((w2.alloc (.cells zeroC 25)).setRow w2.heap.size (cv V M)).heap[g]? = some (.cells (msA m1) 27 (0, 0)) := (setRow_other _ _ _ _ (by omega)).trans hg20
            have HF3 : Hid (((w2.alloc (.cells zeroC 25)).setRow w2.heap.size (cv V M)).heap[w.heap.size]? = some (.cells (fvA h g k true false) 45 (0, 0))) := (setRow_other _ _ _ _ (by omega)).trans HN0.out
            have HB3 : Hid (w.grownBy ((w2.alloc (.cells zeroC 25)).setRow w2.heap.size (cv V M)) (some g)) := grown_below16 HB2.out (below_setRow ((Below.refl _ _).alloc (Nat.le_refl _) _) (Nat.le_refl _) _)
            have c1 : ((w2.alloc (.cells zeroC 25)).setRow w2.heap.size (cv V M)).cell? ⟨w.heap.size, 1, none⟩ = some (.pointer (some ⟨g, 14, none⟩)) := cell_of_row _ _ _ _ _ _ HF3.out
            by_cases he : ec = 0
            · rw [if_pos he] at HG
              subst he
              have c2 : (((w2.alloc (.cells zeroC 25)).setRow w2.heap.size (cv V M)).setRow g (msA (setC m1 V M))).cell? ⟨w.heap.size, 2, none⟩ = some (.pointer none) := cell_of_row _ _ _ _ _ _ ((setRow_other _ _ _ _ (by omega)).trans HF3.out)
              go_wp2_with (first
                | ((with_reducible refine wl_gl16 25 _ rfl ?_); refine wl_loadC rfl _ rfl w2.heap.size rfl V M n1 hVl hMl ?_)
                | ((with_reducible refine wl_gs16 25 _ _ rfl ?_); refine wl_storeC rfl _ _ rfl w2.heap.size V M rfl rfl _ n0 rfl hVl hMl _ rfl ?_)
                | ((with_reducible refine wl_gs16 25 _ _ rfl ?_); refine wl_storeAP CuGOk rfl _ _ rfl g 14 rfl (cv V M) ⟨cv_size _ _ hVl hMl, cv_one _ _⟩ rfl _ _ hg3 (by rw [hms]; decide) _ (ms_setC hmm V M) ?_))
              try simp only [Act.put]
              go_wp2_with fail
              go_ret
              exact ⟨_, grown_row16 HB3.out _, setC_ok hmm hVM.1 hVM.2, setRow_heap _ _ _ _ _ _ hg3, .inl ⟨HG.out, rfl⟩⟩
            · rw [if_neg he] at HG
              have he1 : (ec == 0) = false := by simpa using he
              have he2 : (ec != 0) = true := by simp [he]
              go_wp2_with (first
                | ((with_reducible refine wl_gs16 25 _ _ rfl ?_); refine wl_storeC rfl _ _ rfl w2.heap.size V M rfl rfl _ n0 rfl hVl hMl _ rfl ?_))
              try simp only [Act.put]
              go_wp2_with fail
              go_ret
              exact ⟨m1, HB3.out, hmm, hg3, .inr ⟨HG.out, rfl⟩⟩
  · have HG : Hid (fillG ns c d L m = none) := fillG_none (by rw [← HNL.out, ← HN.out, ← HQ.out]; exact hlen)
    have hq0 : ((nl : Int) == (q : Int)) = false := by simp; omega
    have hq1 : (nl == q) = false := by simp; omega
    go_enter Try.func30, Try.ntmps30
    go_wp2_with (first
      | ((with_reducible refine wl_gl16 45 _ rfl ?_); refine wl_loadA FvOk rfl _ rfl w.heap.size 0 rfl _ _ _ (fvA h g n c d) rfl g00 (own_cells _ _) ?_))
    rw [← hw1]
    clear hw1 g00
    refine (CS.out _).mono ?_
    rintro e w2 ⟨rfl, hb2⟩
    have HI2 : Hid (FIn w2 h g ns m) := HI.out.below hb2
    have HB2 : Hid (w.grownBy w2 (some g)) := grown_below16 HB.out hb2
    clear hb2
    go_wp2_with fail
    go_ret
    exact ⟨m, HB2.out, HI2.out.hm, HI2.out.hg, .inr ⟨HG.out, rfl⟩⟩
end Go.Proofs.Ytjmbdoiibchokaa
namespace Go.Proofs.Ytjmbdoiibchokaa
open Go Go.Lib Go.RowKit
set_option maxRecDepth 20000

/-! What a kind's fields are to its list; when nothing is left of a message. -/
theorem fld_split (k : Int) : fldK k = nfK k ++ tlF (hcK k) (hhK k) :=
  fld_cases (P := fun l => l = l.filter (fun f => decide (f < 13)) ++ tlF (l.contains 13) (l.contains 14)) (by decide) (by decide) (by decide) (by decide) (by decide) (by decide) (by decide) (by decide) k
theorem nfK_lt (k : Int) : ∀ j ∈ nfK k, j < 13 := fun j hj => by
  unfold nfK at hj
  rw [List.mem_filter] at hj
  exact of_decide_eq_true hj.2
theorem nfK_len (k : Int) : (nfK k).length ≤ 7 :=
  fld_cases (P := fun l => (l.filter (fun f => decide (f < 13))).length ≤ 7) (by decide) (by decide) (by decide) (by decide) (by decide) (by decide) (by decide) (by decide) k
theorem hchh (k : Int) : ¬ (hcK k = true ∧ hhK k = true) :=
  fld_cases (P := fun l => ¬ (l.contains 13 = true ∧ l.contains 14 = true)) (by decide) (by decide) (by decide) (by decide) (by decide) (by decide) (by decide) (by decide) k
theorem size_split (k : Int) : sizeK k = lenF (nfK k).length (hcK k) (hhK k) :=
  fld_cases (P := fun l => (l.map sizeF).sum = lenF (l.filter (fun f => decide (f < 13))).length (l.contains 13) (l.contains 14)) (by decide) (by decide) (by decide) (by decide) (by decide) (by decide) (by decide) (by decide) k
theorem mem_nf (k : Int) {j : Nat} (hj : j < 13) : j ∈ nfK k ↔ j ∈ fldK k := by
  unfold nfK
  rw [List.mem_filter]
  simp [hj]
theorem hcK_iff (k : Int) : hcK k = true ↔ 13 ∈ fldK k := by unfold hcK; rw [List.contains_iff_mem]
theorem hhK_iff (k : Int) : hhK k = true ↔ 14 ∈ fldK k := by unfold hhK; rw [List.contains_iff_mem]
theorem body_split (m : MsgM) : bytesF m (nfK m.kind) (hcK m.kind) (hhK m.kind) = bodyM m := by
  unfold bytesF bodyM
  rw [fld_split m.kind, List.flatMap_append]
  congr 1
  unfold tlF
  rw [List.flatMap_append]
  cases hcK m.kind <;> cases hhK m.kind <;> simp [fieldB]
theorem setN_num {m : MsgM} (h : okM m) (j : Nat) (x : Int) {i : Nat} (hi : i < 13) : numM (setN m j x) i = if i = j then x else numM m i := by
  unfold numM setN
  dsimp only
  by_cases e : i = j
  · subst e
    rw [if_pos rfl, List.getD_eq_getElem?_getD, List.getElem?_set_self (by rw [h.1]; exact hi)]
    rfl
  · rw [if_neg e, List.getD_eq_getElem?_getD, List.getElem?_set_ne (fun e' => e e'.symm), ← List.getD_eq_getElem?_getD]
theorem clrN_num : ∀ (ns : List Nat) {m : MsgM}, okM m → ∀ i, i < 13 → numM (clrN m ns) i = if i ∈ ns then 0 else numM m i
  | [], m, _, i, _ => by simp [clrN]
  | j :: ns, m, h, i, hi => by
    rw [clrN, clrN_num ns (setN_ok h j 0) i hi, setN_num h j 0 hi]
    by_cases e1 : i ∈ ns
    · rw [if_pos e1, if_pos (List.mem_cons_of_mem _ e1)]
    · rw [if_neg e1]
      by_cases e2 : i = j
      · rw [if_pos e2, if_pos (by rw [e2]; exact List.mem_cons_self)]
      · rw [if_neg e2, if_neg (by simp [e1, e2])]
theorem clrN_same : ∀ (ns : List Nat) (m : MsgM), (clrN m ns).kind = m.kind ∧ (clrN m ns).cube = m.cube ∧ (clrN m ns).head = m.head
  | [], _ => ⟨rfl, rfl, rfl⟩
  | j :: ns, m => clrN_same ns (setN m j 0)
theorem clrF_same (m : MsgM) (ns : List Nat) (c d : Bool) : (clrF m ns c d).kind = m.kind ∧ (clrF m ns c d).num = (clrN m ns).num ∧ (clrF m ns c d).cube = (if c then (Z, Z) else m.cube) ∧ (clrF m ns c d).head = (if d then Z else m.head) := by
  have h := clrN_same ns m
  unfold clrF
  cases c <;> cases d <;> simp [setC, setH, h]
theorem clrF_ok {m : MsgM} (h : okM m) (ns : List Nat) (c d : Bool) : okM (clrF m ns c d) := by
  have h1 := clrN_ok ns h
  unfold clrF
  cases c <;> cases d
  · exact h1
  · exact setH_ok h1 Z_byt
  · exact setC_ok h1 Z_byt Z_byt
  · exact setH_ok (setC_ok h1 Z_byt Z_byt) Z_byt
theorem zero_num (k : Int) (j : Nat) : numM (zeroM k) j = 0 := by
  unfold numM zeroM
  rw [List.getD_eq_getElem?_getD, List.getElem?_replicate]
  split <;> rfl
theorem zero_ok (k : Int) : okM (zeroM k) := (zero_in k).1
theorem clr_zero {m : MsgM} (h : okM m) (ns : List Nat) (c d : Bool) : clrF m ns c d = zeroM m.kind ↔ (∀ j, j < 13 → j ∉ ns → numM m j = 0) ∧ (c = false → m.cube = (Z, Z)) ∧ (d = false → m.head = Z) := by
  obtain ⟨e1, e2, e3, e4⟩ := clrF_same m ns c d
  constructor
  · intro e
    refine ⟨fun j hj hn => ?_, fun hc => ?_, fun hd => ?_⟩
    · have h1 : numM (clrF m ns c d) j = 0 := by rw [e, zero_num]
      have h2 : numM (clrF m ns c d) j = numM (clrN m ns) j := by unfold numM; rw [e2]
      rw [h2, clrN_num ns h j hj, if_neg hn] at h1
      exact h1
    · rw [e, hc] at e3
      exact e3.symm
    · rw [e, hd] at e4
      exact e4.symm
  · rintro ⟨h1, h2, h3⟩
    have hn : (clrF m ns c d).num = (zeroM m.kind).num := num_ext (clrF_ok h ns c d) (zero_ok _) fun j hj => by
      rw [zero_num]
      have h4 : numM (clrF m ns c d) j = numM (clrN m ns) j := by unfold numM; rw [e2]
      rw [h4, clrN_num ns h j hj]
      by_cases e : j ∈ ns
      · rw [if_pos e]
      · rw [if_neg e, h1 j hj e]
    have hc : (clrF m ns c d).cube = (Z, Z) := by
      rw [e3]
      cases c with
      | true => rfl
      | false => exact h2 rfl
    have hd : (clrF m ns c d).head = Z := by
      rw [e4]
      cases d with
      | true => rfl
      | false => exact h3 rfl
    cases hx : clrF m ns c d with
    | mk k n cu hd' =>
      rw [hx] at e1 hn hc hd
      dsimp only at e1 hn hc hd
      rw [e1, hn, hc, hd]
      rfl
theorem right_F {m : MsgM} (hr : rightM m = true) : rightF m (nfK m.kind) (hcK m.kind) = true := by
  obtain ⟨_, h2, h3, _, _⟩ := (right_iff m).1 hr
  unfold rightF allN
  rw [Bool.and_eq_true, List.all_eq_true, h3, Bool.or_true]
  refine ⟨fun j hj => ?_, rfl⟩
  have := h2 j (nfK_lt _ j hj)
  rw [inN_iff]
  omega
theorem right_clr {m : MsgM} (h : okM m) (hk : fldK m.kind ≠ []) (hF : rightF m (nfK m.kind) (hcK m.kind) = true) : eqB16 (clrF m (nfK m.kind) (hcK m.kind) (hhK m.kind)) (zeroM m.kind) = rightM m := by
  rw [Bool.eq_iff_iff, eqB16_iff (clrF_ok h _ _ _) (zero_ok _), clr_zero h, right_iff]
  unfold rightF allN at hF
  rw [Bool.and_eq_true, List.all_eq_true] at hF
  have hne : (fldK m.kind).isEmpty = false := by
    cases e : fldK m.kind with
    | nil => exact absurd e hk
    | cons a l => rfl
  constructor
  · rintro ⟨h1, h2, h3⟩
    have hcz : hcK m.kind = false → m.cube.1 = Z ∧ m.cube.2 = Z := fun hc => by rw [h2 hc]; exact ⟨rfl, rfl⟩
    refine ⟨hne, fun j hj => ?_, ?_, fun hn => ?_, fun hn => ?_⟩
    · by_cases e : j ∈ nfK m.kind
      · have := (inN_iff _).1 (hF.1 j e)
        exact ⟨this.1, by omega, fun hn => absurd ((mem_nf _ hj).1 e) hn⟩
      · have := h1 j hj e
        rw [this]
        exact ⟨by omega, by omega, fun _ => rfl⟩
    · cases hc : hcK m.kind with
      | true =>
        have := hF.2
        rw [hc] at this
        simpa using this
      | false =>
        have := hcz hc
        unfold cubR
        rw [this.1, this.2, show can Z Z = Z by kernel_rfl]
        simp
    · exact hcz (by cases hc : hcK m.kind with | false => rfl | true => exact absurd ((hcK_iff _).1 hc) hn)
    · exact h3 (by cases hc : hhK m.kind with | false => rfl | true => exact absurd ((hhK_iff _).1 hc) hn)
  · rintro ⟨_, h2, _, h4, h5⟩
    refine ⟨fun j hj hn => (h2 j hj).2.2 (fun e => hn ((mem_nf _ hj).2 e)), fun hc => ?_, fun hc => ?_⟩
    · have := h4 (fun e => by rw [(hcK_iff _).2 e] at hc; cases hc)
      exact Prod.ext this.1 this.2
    · exact h5 (fun e => by rw [(hhK_iff _).2 e] at hc; cases hc)
theorem right_none {m : MsgM} (hk : fldK m.kind = []) : rightM m = false := by
  cases e : rightM m with
  | false => rfl
  | true =>
    have := ((right_iff m).1 e).1
    rw [hk] at this
    cases this
theorem right_not {m : MsgM} (hF : rightF m (nfK m.kind) (hcK m.kind) = false) : rightM m = false := by
  cases e : rightM m with
  | false => rfl
  | true => rw [right_F e] at hF; cases hF
theorem seal_M {m : MsgM} (h : okM m) (hr : rightM m = true) : sealT m.kind (bodyM m) = (bytesM m, 0) := by
  have hk := fld_kind ((right_iff m).1 hr).1
  have hbl : (bodyM m).length = sizeK m.kind := body_len h _
  have hsz := size_le m.kind
  unfold sealT
  rw [if_pos (by omega), if_pos (by omega)]
  rfl
theorem dec_fill {L : List UInt8} {k : Nat} {body : List UInt8} (ho : openB L = some (k, body)) (hk : fldK (k : Int) ≠ []) : decO L = fillG (nfK (k : Int)) (hcK (k : Int)) (hhK (k : Int)) body (zeroM (k : Int)) := by
  have hne : (fldK (k : Int)).isEmpty = false := by
    cases e : fldK (k : Int) with
    | nil => exact absurd e hk
    | cons a l => rfl
  unfold decO fillG
  rw [ho, ← size_split, ← fld_split]
  dsimp only
  rw [hne, Bool.false_or]
  by_cases e : body.length = sizeK (k : Int)
  · rw [if_pos e, if_neg (by simp [e])]
  · rw [if_neg e, if_pos (by simpa using e)]
theorem dec_none {L : List UInt8} {k : Nat} {body : List UInt8} (ho : openB L = some (k, body)) (hk : fldK (k : Int) = []) : decO L = none := by
  unfold decO
  rw [ho]
  dsimp only
  rw [hk]
  rfl
end Go.Proofs.Ytjmbdoiibchokaa
namespace Go.Proofs.Ytjmbdoiibchokaa
open Go Go.Lib Go.RowKit
set_option maxRecDepth 20000

/-! msg.Right, Encode, Decode. -/
abbrev fvZ : Array Value := #[.slice none 0 0, .pointer none, .pointer none]
theorem wl_buildM {ops : Array Oper} {rest : List Oper} {o : Oper} {a : Act} {w : World} {Q : Exit → Act → World → Prop} (hgd : o.guard = none) (x : Operand) (ho : o.op = .build 27 #[(0, x)]) (k : Int)
    (hx : a.eval x = .int .i64 k) (h : wpList Try.prog ops Q rest (a.put o.dst (.agg (msA (zeroM k)))) w) : wpList Try.prog ops Q (o :: rest) a w := by
  refine wpList_plain hgd fun _ hK => ?_
  unfold Oper.wp execOp
  simp only [ho, Sem.run_bind, List.map_toArray, List.map_cons, List.map_nil, hx, build_ms k, Result.andThen_ok, Sem.run_pure]
  exact hK _ _ h
theorem wl_buildM0 {ops : Array Oper} {rest : List Oper} {o : Oper} {a : Act} {w : World} {Q : Exit → Act → World → Prop} (hgd : o.guard = none) (ho : o.op = .build 27 #[])
    (h : wpList Try.prog ops Q rest (a.put o.dst (.agg (msA (zeroM 0)))) w) : wpList Try.prog ops Q (o :: rest) a w := by
  refine wpList_plain hgd fun _ hK => ?_
  unfold Oper.wp execOp
  simp only [ho, Sem.run_bind, List.map_toArray, List.map_nil, build_ms0, Result.andThen_ok, Sem.run_pure]
  exact hK _ _ h
theorem egM (op : BinOp) (x y : Operand) (xs ys : Array Value) (w : World) : (eqGuard op 27 x y (.agg xs) (.agg ys)).run Try.prog w = .ok () w :=
  run_eqGuard_agg w op 27 x y xs ys (by kernel_rfl)
set_option maxHeartbeats 8000000 in
theorem mright_any (m : MsgM) (hm : okM m) (w : World) : Calls Try.prog 9 #[.agg (msA m)] w fun e w' => e = .returned (.bool (rightM m)) ∧ Below w.heap.size w w' := by
  obtain ⟨w1, hw1⟩ : ∃ w1, w1 = w.alloc (.cells (msA m) 27) := ⟨_, rfl⟩
  have g1 : w1.heap[w.heap.size]? = some (.cells (msA m) 27 (0, 0)) := by rw [hw1]; exact heap_new _ _ _ rfl
  have B1 : Below w.heap.size w w1 := by rw [hw1]; exact (Below.refl _ _).alloc (Nat.le_refl _) _
  have hs1 := (Array.getElem?_eq_some_iff.1 g1).1
  by_cases hk : fldK m.kind = []
  · have HR : Hid (rightM m = false) := right_none hk
    have CF : Hid (∀ W, W = w1 → Calls Try.prog 17 #[.pointer (some ⟨w.heap.size, 0, none⟩)] W fun e w' => e = .returned (.tuple #[.agg fvZ, .bool false]) ∧ Below W.heap.size W w') := fun W hW => by
      subst hW
      exact fields0 w.heap.size m hk W g1
    go_enter Try.func9, Try.ntmps9
    go_wp2_with fail
    rw [← hw1]
    clear hw1
    refine (CF.out _ rfl).mono ?_
    rintro e w2 ⟨rfl, hb2⟩
    have HB2 : Hid (Below w.heap.size w w2) := B1.trans (hb2.mono B1.size)
    have hs2 := HB2.out.size
    clear hb2
    have n0 := heap_new w2 (.cells fvZ 45) _ rfl
    go_wp2_with (first
      | go_skip
      | ((with_reducible refine wl_gs16 45 _ _ rfl ?_); refine wl_storeA FvOk rfl _ _ rfl w2.heap.size fvZ ⟨rfl, rfl⟩ rfl rfl _ n0 rfl _ rfl ?_))
    go_ret
    rw [HR.out]
    exact ⟨rfl, HB2.out.alloc hs2 _⟩
  · obtain ⟨ns, hns⟩ : ∃ ns, ns = nfK m.kind := ⟨_, rfl⟩
    obtain ⟨c, hc⟩ : ∃ c, c = hcK m.kind := ⟨_, rfl⟩
    obtain ⟨d, hd⟩ : ∃ d, d = hhK m.kind := ⟨_, rfl⟩
    have hlt : ∀ j ∈ ns, j < 13 := by rw [hns]; exact nfK_lt _
    have hl7 : ns.length ≤ 7 := by rw [hns]; exact nfK_len _
    have CF : Hid (∀ W, W = w1 → Calls Try.prog 17 #[.pointer (some ⟨w.heap.size, 0, none⟩)] W fun e w' => FldR w.heap.size ns c d W e w') := fun W hW => by
      subst hW
      rw [hns, hc, hd]
      exact fields_any w.heap.size m hk W g1
    have HNOT : Hid (rightF m ns c = false → rightM m = false) := by rw [hns, hc]; exact right_not
    have HCLR : Hid (rightF m ns c = true → eqB16 (clrF m ns c d) (zeroM m.kind) = rightM m) := by rw [hns, hc, hd]; exact right_clr hm hk
    clear hns hc hd hk
    obtain ⟨n, hn⟩ : ∃ n, n = ns.length := ⟨_, rfl⟩
    have HN : Hid (n = ns.length) := hn
    clear hn
    go_enter Try.func9, Try.ntmps9
    go_wp2_with fail
    rw [← hw1]
    clear hw1
    refine (CF.out _ rfl).mono ?_
    rintro e w2 ⟨h, rfl, hh1, hh2, hb2⟩
    rw [← HN.out]
    have B2 : Below w.heap.size w w2 := B1.trans (hb2.mono B1.size)
    have HI2 : Hid (FIn w2 h w.heap.size ns m) := ⟨(hb2.block _ hs1).trans g1, hh2, hm, hlt⟩
    have hs2 := B2.size
    have n0 := heap_new w2 (.cells fvZ 45) _ rfl
    have n1 := setRow_heap _ _ _ (fvA h w.heap.size n c d) _ _ n0
    have B3 : Below w2.heap.size w2 ((w2.alloc (.cells fvZ 45)).setRow w2.heap.size (fvA h w.heap.size n c d)) := below_setRow ((Below.refl _ _).alloc (Nat.le_refl _) _) (Nat.le_refl _) _
    have HI3 : Hid (FIn ((w2.alloc (.cells fvZ 45)).setRow w2.heap.size (fvA h w.heap.size n c d)) h w.heap.size ns m) := HI2.out.below B3
    have HB3 : Hid (Below w.heap.size w ((w2.alloc (.cells fvZ 45)).setRow w2.heap.size (fvA h w.heap.size n c d))) := B2.trans (B3.mono hs2)
    have hne : h ≠ w.heap.size := by omega
    clear hb2 hh2
    go_wp2_with (first
      | go_skip
      | ((with_reducible refine wl_gs16 45 _ _ rfl ?_); refine wl_storeA FvOk rfl _ _ rfl w2.heap.size (fvA h w.heap.size n c d) (fvA_fits _ _ _ _ _) rfl rfl _ n0 rfl _ rfl ?_)
      | ((with_reducible refine wl_gl16 45 _ rfl ?_); refine wl_loadA FvOk rfl _ rfl w2.heap.size 0 rfl _ _ _ (fvA h w.heap.size n c d) rfl n1 (own_cells _ _) ?_))
    obtain ⟨w3, hw3⟩ : ∃ w3, w3 = (w2.alloc (.cells fvZ 45)).setRow w2.heap.size (fvA h w.heap.size n c d) := ⟨_, rfl⟩
    rw [← hw3] at HI3 HB3 n1 ⊢
    clear hw3 n0 B3
    have CR := fright_any h w.heap.size ns c d m w3 HI3.out hl7
    rw [← HN.out] at CR
    refine CR.mono ?_
    rintro e w4 ⟨rfl, hb4⟩
    have hs3 := (Array.getElem?_eq_some_iff.1 n1).1
    have n4 : w4.heap[w2.heap.size]? = some (.cells (fvA h w.heap.size n c d) 45 (0, 0)) := (hb4.block _ hs3).trans n1
    have HI4 : Hid (FIn w4 h w.heap.size ns m) := HI3.out.below hb4
    have HB4 : Hid (Below w.heap.size w w4) := HB3.out.trans (hb4.mono HB3.out.size)
    clear CR hb4 n1 HI3 HB3
    by_cases hF : rightF m ns c = true
    · rw [hF]
      have HE : Hid (eqB16 (clrF m ns c d) (zeroM m.kind) = rightM m) := HCLR.out hF
      have CC := fclear_any h w.heap.size ns c d m w4 HI4.out hl7 hne
      rw [← HN.out] at CC
      have HCC : Hid (∀ W, W = w4 → Calls Try.prog 19 #[.agg (fvA h w.heap.size n c d)] W fun e w' => e = .returned (.tuple #[]) ∧ w'.heap[w.heap.size]? = some (.cells (msA (clrF m ns c d)) 27 (0, 0)) ∧ W.grownBy w' (some w.heap.size)) := fun W hW => by rw [hW]; exact CC
      clear CC hF
      go_wp2_with (first
        | go_skip
        | ((with_reducible refine wl_gl16 45 _ rfl ?_); refine wl_loadA FvOk rfl _ rfl w2.heap.size 0 rfl _ _ _ (fvA h w.heap.size n c d) rfl n4 (own_cells _ _) ?_))
      refine (HCC.out _ rfl).mono ?_
      rintro e w5 ⟨rfl, g5, hgr5⟩
      have HB5 : Hid (Below w.heap.size w w5) := below_grown16 HB4.out hgr5 (Nat.le_refl _) HB4.out.size
      clear hgr5
      obtain ⟨m5, hm5⟩ : ∃ m5, m5 = clrF m ns c d := ⟨_, rfl⟩
      have ok5 : okM m5 := by rw [hm5]; exact clrF_ok hm _ _ _
      have k5 : m5.kind = m.kind := by rw [hm5]; exact (clrF_same m ns c d).1
      rw [← hm5] at HE g5
      clear hm5
      have c5 : w5.cell? ⟨w.heap.size, 0, none⟩ = some (.int .i64 m.kind) := by rw [cell_of_row _ _ _ _ _ _ g5, ms_kind, k5]
      have eM : ∀ W, (Op.equalIn 10000 27 (.agg (msA m5)) (.agg (msA (zeroM m.kind)))).run Try.prog W = .ok (eqB16 m5 (zeroM m.kind)) W := fun W => eqM16 ok5 (zero_ok _) W
      have eg : ∀ op x y (xs ys : Array Value) w, (eqGuard op 27 x y (.agg xs) (.agg ys)).run Try.prog w = .ok () w := egM
      go_wp2_with (first
        | ((with_reducible refine wl_gl16 27 _ rfl ?_); refine wl_loadA MsOk rfl _ rfl w.heap.size 0 rfl _ _ _ (msA m5) (msA_size ok5) g5 (own_cells _ _) ?_)
        | ((with_reducible refine wl_gb16 27 _ rfl ?_); refine wl_buildM rfl _ rfl m.kind rfl ?_))
      go_ret
      rw [HE.out]
      exact ⟨rfl, HB5.out⟩
    · have hF' : rightF m ns c = false := by simpa using hF
      rw [hF']
      have HR : Hid (rightM m = false) := HNOT.out hF'
      go_wp2_with fail
      go_ret
      rw [HR.out]
      exact ⟨rfl, HB4.out⟩
end Go.Proofs.Ytjmbdoiibchokaa
