import Derived.Test.YtagogbodkbbikaaJ10
import Derived.Test.YtagogbodkbbikaaJ6
namespace Go.Proofs.Ytagogbodkbbikaa
open Go Go.RowKit
set_option maxRecDepth 20000

theorem slice_someW {e : TypeId} {s : Nat} {B : Nat} {w : World} {o : Option Addr} {n c m : Nat} {xs : List Value} (h : w.ownsRow B e s (.slice o n c) m xs) (hn : 0 < n) : ∃ g, o = some ⟨g, 0, none⟩ := by
  obtain ⟨_, ⟨q, _⟩ | ⟨g', cap', cur, q, _⟩⟩ := h
  · simp only [Value.slice.injEq] at q; omega
  · simp only [Value.slice.injEq] at q; exact ⟨g', q.1⟩
theorem ask_int {B B' : Nat} {w : World} {v y : Value} {C : List AskM} {L : List Value} (h : AsksAt B w v C) (hy : VOwn 3 B' w y L) : ∀ k, v.ownBlock = some k → y.ownBlock ≠ some k := fun k e e' => by
  obtain ⟨_, ⟨rfl, _⟩ | ⟨g', cap, cur, rfl, _, h1, _⟩⟩ := h
  · cases e
  · have hk : g' = k := by simpa [Value.ownBlock] using e
    exact own_tyK hy h1 (by decide) (by rw [hk]; exact e')
theorem wl_allocE {E : El} (H : E.Ok) {ops : Array Oper} {rest : List Oper} {o : Oper} {a : Act} {w : World} {Q : Exit → Act → World → Prop} (hg : o.guard = none) (ho : o.op = .alloc E.elem)
    (h : wpList Try.prog ops Q rest (a.put o.dst (.pointer (some ⟨w.heap.size, 0, none⟩))) (w.alloc (.cells E.zero E.elem))) : wpList Try.prog ops Q (o :: rest) a w := by
  obtain ⟨ie, h1, h2, _, _⟩ := H.info
  refine Great.wpList_allocTo hg o.dst rfl _ _ ?_ h
  unfold execOp
  simp only [ho]
  simp [go_sem, Instr.alloc, zeroValue, typeInfo, h1, h2, Value.cells]
theorem wl_gaT {P : Program} {ops : Array Oper} {Q : Exit → Act → World → Prop} {o : Oper} {rest : List Oper} {a : Act} {w : World} (_ : o.op = .alloc 34) (h : wpList P ops Q (o :: rest) a w) : wpList P ops Q (o :: rest) a w := h
theorem wl_glT {P : Program} {ops : Array Oper} {Q : Exit → Act → World → Prop} {o : Oper} {rest : List Oper} {a : Act} {w : World} (x : Operand) (_ : o.op = .load 34 x) (h : wpList P ops Q (o :: rest) a w) : wpList P ops Q (o :: rest) a w := h
theorem wl_gsT {P : Program} {ops : Array Oper} {Q : Exit → Act → World → Prop} {o : Oper} {rest : List Oper} {a : Act} {w : World} (x y : Operand) (_ : o.op = .store 34 x y) (h : wpList P ops Q (o :: rest) a w) : wpList P ops Q (o :: rest) a w := h
theorem actW_fits (x : ActW) : Fits ActWE (actW x) := ⟨rfl, by simp [actW, askV, Value.oneCell']⟩
theorem tick64 {m : WaitM} (h : WaitIn m) (now : Int) : (goneW m now).length ≤ 64 ∧ (againW m now).length ≤ 64 := by
  have h1 := h.len
  unfold goneW againW
  rw [List.length_map]
  exact ⟨Nat.le_trans (List.length_filter_le _ _) h1, Nat.le_trans (List.length_filter_le _ _) h1⟩
set_option maxHeartbeats 64000000 in
theorem lawWOnce_any (w : World) (room tries time : Int) (va : Value) (l : List ActW) (hl : GSl ActWE actW w va l) (ho : ∀ x ∈ l, OkActW x) : Calls Try.prog 4 #[.int .i64 room, .int .i64 tries, .int .i64 time, va] w fun e w' => e = .returned (.bool true) ∧ Below w.heap.size w w' := by
  have HW := awake19_any w
  obtain ⟨oA, cA, hva, hcA, hcA2⟩ := hl.slice
  obtain ⟨q, hq⟩ : ∃ q, q = l.length := ⟨_, rfl⟩
  rw [← hq] at hva hcA
  have HL : Hid (∀ W, Below w.heap.size w W → GSl ActWE actW W va l) := fun W hb => hl.below hb
  have HOK : Hid (∀ x ∈ l, OkActW x) := ho
  unfold maxLen at hcA2
  clear hl ho hq
  subst hva
  by_cases hnew : OkNew room tries time
  case neg =>
    have HN : Hid (∀ W, Calls Try.prog 8 #[.int .i64 room, .int .i64 tries, .int .i64 time] W fun e w' => e = .returned (.tuple #[.pointer none, .int .i64 1]) ∧ w' = W) := fun W => newWt_no room tries time hnew W
    go_enter Try.func4, Try.ntmps4
    go_wp2_with (first
      | (go_at_call 7; refine HW.mono ?_; rintro e w1 ⟨rfl, hb1⟩)
      | (go_at_call 8; refine (HN.out _).mono ?_; rintro e w2 ⟨rfl, h2⟩; have h2 := h2.symm; subst h2))
    go_ret
    exact ⟨rfl, hb1⟩
  have HN : Hid (∀ W, Calls Try.prog 8 #[.int .i64 room, .int .i64 tries, .int .i64 time] W fun e w' => e = .returned (.tuple #[.pointer (some ⟨W.heap.size, 0, none⟩), .int .i64 0]) ∧ OwnS W w' W.heap.size ⟨room, tries, time, [], 0⟩) := fun W => newS_any room tries time hnew W
  have HI0 : Hid (WaitIn ⟨room, tries, time, [], 0⟩) := new_inW (room := room) (tries := tries) (time := time) (by unfold newW; exact if_pos hnew)
  have t8 : tries ≤ 8 := hnew.2.2.2.1
  have t0 : 0 ≤ tries := hnew.2.2.1
  clear hnew
  go_enter Try.func4, Try.ntmps4
  go_wp2_with (first
    | (go_at_call 7; refine HW.mono ?_; rintro e w1 ⟨rfl, hb1⟩)
    | (go_at_call 8; refine of_stopT ?_))
  unfold StopT
  have HNw := HN.out w1
  obtain ⟨g, hg⟩ : ∃ g, g = w1.heap.size := ⟨_, rfl⟩
  rw [← hg] at HNw
  have HBW : Hid (Below w.heap.size w w1) := hb1
  clear HN hb1 hg HW
  refine HNw.mono ?_
  rintro e w2 ⟨rfl, hO⟩
  have H0 : Hid (OnS w1 w2 g ⟨room, tries, time, [], 0⟩ (.slice none 0 0) (.slice none 0 0) []) := ⟨hO, VOwn.nil _ _ _, VOwn.nil _ _ _, .inl rfl⟩
  clear HNw hO
  go_wp2_with fail
  go_loopw [11, 12, 13] (fun s11 s12 s13 wr => ∃ (i : Nat) (m : WaitM), i ≤ q ∧ i ≤ 100 ∧ s13 = .int .i64 (i : Int) ∧ Hid (OnS w1 wr g m s11 s12 (seqA m)) ∧ Hid (WaitIn m ∧ m.last ≤ i ∧ m.tries = tries)) (fun _ _ s13 _ => q - (intOf s13).toNat)
  case atStart => exact ⟨0, _, Nat.zero_le _, by omega, rfl, H0, HI0.out, Nat.le_refl _, rfl⟩
  case round =>
    obtain ⟨i, m, hi, hi100, rfl, HO, HI⟩ := hrel
    have HBr : Hid (Below w.heap.size w wr) := HBW.out.trans (HO.out.own.below.mono HBW.out.size)
    by_cases hlt : i < q
    case neg =>
      have hlt' : ¬ (i : Int) < (q : Int) := by omega
      go_wp2_with fail
      go_ret
      exact ⟨rfl, HBr.out⟩
    have hlt' : (i : Int) < (q : Int) := by omega
    by_cases hlt2 : i < 100
    case neg =>
      have hlt2' : ¬ (i : Int) < 100 := by omega
      go_wp2_with fail
      go_ret
      exact ⟨rfl, HBr.out⟩
    have hlt2' : (i : Int) < 100 := by omega
    obtain ⟨ga, offa, cura, tya, fra, x, rfl, hga, hcca, hxa⟩ := (HL.out wr HBr.out).at i hlt
    have HX : Hid (OkActW x) := HOK.out x (List.mem_of_getElem? hxa)
    obtain ⟨wx, hwx⟩ : ∃ wx, wx = wr.alloc (.cells (actW x) 34) := ⟨_, rfl⟩
    have bx : Below wr.heap.size wr wx := by rw [hwx]; exact (Below.refl _ _).alloc (Nat.le_refl _) _
    have HOx : Hid (OnS w1 wx g m u11 u12 (seqA m)) := HO.out.grow bx
    have Ax : wx.heap[wr.heap.size]? = some (.cells (actW x) 34 (0, 0)) := by rw [hwx]; exact heap_new _ _ _ rfl
    have SRx : (wr.alloc (.cells (actW zeroActW) 34)).setRow wr.heap.size (actW x) = wx := by rw [hwx]; exact setRow_new _ _ _ _ _ rfl
    have F := actwf_of Ax fun j _ => by rw [Nat.zero_add]
    have k0 := F.c0
    have k1 := F.c1
    have k3 := F.c3
    have k4 := F.c4
    simp only [Nat.zero_add] at k0 k1 k3 k4
    have HHD : Hid (∀ j, j < 13 → (actW x)[2 + j]? = (hv x.head)[j]?) := actw_head HX.out
    have HHS : Hid ((hv x.head).size = 13) := by show _ = _; rw [hv_size]; exact HX.out
    have KGa : Hid (wr.heap[ga]? = some (.cells cura tya fra)) := hga
    have KCa : Hid (∀ j, j < 17 → cura[offa + i * 17 + j]? = (actW x)[j]?) := hcca
    clear hxa hwx bx F hga hcca HO
    obtain ⟨A0, hA0⟩ : ∃ A0, A0 = seqA m := ⟨_, rfl⟩
    have HA0 : Hid (A0 = seqA m) := hA0
    rw [← hA0] at HOx
    clear hA0
    obtain ⟨kd, hkd⟩ : ∃ kd, kd = x.kind := ⟨_, rfl⟩
    rw [← hkd] at k0
    clear hkd
    go_wp2_with (first
      | ((with_reducible refine wl_gaT rfl ?_); refine wl_allocE (E := ActWE) ActWOk rfl rfl ?_; try rw [sz_allocK])
      | ((with_reducible refine wl_glT _ rfl ?_); refine wl_loadE (E := ActWE) ActWOk rfl _ rfl ga (offa + i * 17) rfl cura tya fra (actW x) rfl KGa.out KCa.out ?_)
      | ((with_reducible refine wl_gsT _ _ rfl ?_); refine wl_storeE (E := ActWE) ActWOk rfl _ _ rfl wr.heap.size (actW x) (actW_fits x) rfl rfl _ (heap_new _ _ _ rfl) rfl _ SRx ?_; refine of_stopT ?_))
    unfold StopT
    clear SRx KGa KCa
    by_cases q1 : kd = 1
    · subst q1
      by_cases hfull : (m.l.length : Int) = m.room
      · have e1 : addW m x.index x.head x.now = (m, 0, 13) := by unfold addW; rw [if_pos hfull]
        have CA := addN_any HOx.out HI.out.1 x.index x.head HX.out x.now (by have := HI.out.2.1; omega)
        rw [e1] at CA
        clear e1 hfull
        go_wp2_with (first
          | ((with_reducible refine wl_glH _ rfl ?_); refine wl_loadA HeKOk rfl _ rfl wr.heap.size 2 rfl (actW x) _ _ (hv x.head) HHS.out Ax HHD.out ?_)
          | (go_at_call 10; refine CA.mono ?_; rintro e w3 ⟨rfl, hO3, hs3, ht3⟩; refine of_stopT ?_))
        unfold StopT
        have ON : Hid (OnS w1 w3 g m u11 u12 A0) := ⟨hO3, hs3, ht3, HOx.out.ap⟩
        have HDA : Hid (AsksAt w1.heap.size w3 (.slice none 0 0) []) := AsksAt.nil _ _
        have HD64 : Hid (([] : List AskM).length ≤ 64) := by show _ ≤ _; simp
        have HDS : Hid (DoneS m.last A0 []) := done_nil _ _
        have HFN : Hid (∀ s, (s ∈ A0 ∧ s ∉ ([] : List AskM).map (·.seq)) ↔ s ∈ seqA m) := by rw [HA0.out]; exact nobody _
        have HIN : Hid (WaitIn m ∧ m.last ≤ i + 1 ∧ m.tries = tries) := ⟨HI.out.1, by have := HI.out.2.1; omega, HI.out.2.2⟩
        clear hO3 hs3 ht3 CA HOx k0 k1 k3 k4 Ax
        have OE0 : Hid (OnS w1 w3 g m u11 u12 (seqA m)) := by have h1 := ON.out; rw [show A0 = seqA m from HA0.out] at h1; exact h1
        clear ON HDA HDS HFN HD64
        go_wp2_with fail
        go_loopw [24] (fun s24 wr => s24 = .int .i64 0 ∧ Hid (OnS w1 wr g m u11 u12 (seqA m))) (fun _ _ => 0)
        case atStart => exact ⟨rfl, OE0⟩
        case round =>
          obtain ⟨rfl, OE⟩ := hrel
          clear OE0
          go_wp2_with fail
          go_roundw
          case rel => exact ⟨i + 1, m, by omega, by omega, by go_num, OE, HIN⟩
          case measure => simp [intOf]; omega
      · have e1 : addW m x.index x.head x.now = (putW m x.index x.head x.now, (m.last : Int) + 1, 0) := by unfold addW; rw [if_neg hfull]
        have CA := addN_any HOx.out HI.out.1 x.index x.head HX.out x.now (by have := HI.out.2.1; omega)
        rw [e1] at CA
        obtain ⟨m', hm'⟩ : ∃ m', m' = putW m x.index x.head x.now := ⟨_, rfl⟩
        dsimp only at CA
        rw [← hm'] at CA
        have HIN : Hid (WaitIn m' ∧ m'.last ≤ i + 1 ∧ m'.tries = tries) := by
          have h1 := add_inW HI.out.1 x.index x.head x.now
          rw [e1] at h1
          rw [hm']
          exact ⟨h1, by have := HI.out.2.1; show m.last + 1 ≤ _; omega, HI.out.2.2⟩
        have HML : Hid (m'.last = m.last + 1 ∧ seqA m' = A0 ++ [(m.last : Int) + 1]) := by
          rw [hm', HA0.out]
          refine ⟨rfl, ?_⟩
          unfold seqA putW
          rw [List.map_append]
          rfl
        clear e1 hfull hm'
        go_wp2_with (first
          | ((with_reducible refine wl_glH _ rfl ?_); refine wl_loadA HeKOk rfl _ rfl wr.heap.size 2 rfl (actW x) _ _ (hv x.head) HHS.out Ax HHD.out ?_)
          | (go_at_call 10; refine CA.mono ?_; rintro e w3 ⟨rfl, hO3, hs3, ht3⟩; refine of_stopT ?_))
        unfold StopT
        obtain ⟨la, hla⟩ : ∃ la, la = m.last := ⟨_, rfl⟩
        have CP := place_any w3 u11 m.last (VOwn.sl hs3) ((m.last : Int) + 1)
        have hpl : placeN m.last ((m.last : Int) + 1) = -1 := by unfold placeN; rw [if_neg (by omega)]
        rw [hpl] at CP
        rw [← hla] at CP hs3 ht3 ⊢
        have la100 : la ≤ 100 := by have := HI.out.2.1; omega
        have HO3 : Hid (OwnS w1 w3 g m') := hO3
        have HS3 : Hid (VOwn 3 w1.heap.size w3 u11 (iL (seqL la))) := hs3
        have HT3 : Hid (VOwn 3 w1.heap.size w3 u12 (iL (stL la A0))) := ht3
        have HAP : Hid (ApartR u11.ownBlock u12.ownBlock) := HOx.out.ap
        rw [← hla] at HML
        clear hO3 hs3 ht3 CA HOx k0 k1 k3 k4 Ax hpl hla
        obtain ⟨w4, hw4⟩ : ∃ w4, w4 = w3.alloc (.cells #[.int .i64 ((la : Int) + 1)] 3) := ⟨_, rfl⟩
        have b4 : Below w3.heap.size w3 w4 := by rw [hw4]; exact (Below.refl _ _).alloc (Nat.le_refl _) _
        have N4 : w4.heap[w3.heap.size]? = some (.cells #[.int .i64 ((la : Int) + 1)] 3 (0, 0)) := by rw [hw4]; exact heap_new _ _ _ rfl
        have HW4 : Hid (w4 = w3.alloc (.cells #[.int .i64 ((la : Int) + 1)] 3)) := hw4
        have O4 : Hid (OwnS w1 w4 g m') := OwnS.grow HO3.out b4
        have S4 : Hid (VOwn 3 w1.heap.size w4 u11 (iL (seqL la))) := VOwn.below HS3.out b4
        have T4 : Hid (VOwn 3 w1.heap.size w4 u12 (iL (stL la A0))) := VOwn.below HT3.out b4
        clear hw4 b4
        go_wp2_with (first
          | (go_at_call 21; refine CP.mono ?_; rintro e w9 ⟨rfl, h9⟩; have h9 := h9.symm; subst h9)
          | (refine wl_build1V scI rfl _ rfl (.int .i64 ((la : Int) + 1)) rfl rfl ?_)
          | (at_builtin; refine of_stopT ?_))
        unfold StopT
        rw [← HW4.out]
        refine wl_app1V scI rfl _ _ rfl w1.heap.size u11 (iL (seqL la)) (.int .i64 ((la : Int) + 1)) rfl rfl S4.out w3.heap.size 1 rfl N4 (by unfold iL; rw [List.length_map, seqL_len]; omega) (OwnS.below O4.out).size ?_
        intro vs5 w5 hown hgr hq5
        have k5 : Kept (rowX u11) w4 w5 := Kept.of_grown hgr fun _ e => e
        have S5 : Hid (VOwn 3 w1.heap.size w5 vs5 (iL (seqL (la + 1)))) := by rw [seqL_succ]; unfold iL; rw [List.map_append]; exact hown
        have T5 : Hid (VOwn 3 w1.heap.size w5 u12 (iL (stL la A0))) := VOwn.kept T4.out k5 fun k e e' => HAP.out.ne k e' e
        have O5 : Hid (OwnS w1 w5 g m') := OwnS.keepX O4.out k5 (fun v hv k e e' => foot_int hv S4.out k e' e) fun k e => (VOwn.lt S4.out k e).1
        have AP5 : Hid (ApartR vs5.ownBlock u12.ownBlock) := by
          rcases hq5 with e | e
          · show ApartR _ _; rw [e]; exact HAP.out
          · cases ht : u12.ownBlock with
            | none => exact .inr (.inl rfl)
            | some k =>
              refine .inr (.inr fun e' => ?_)
              have := (VOwn.lt T4.out k ht).2
              rw [e] at e'
              have := Option.some.inj e'
              omega
        clear hown hgr hq5 k5 N4 O4 S4 T4 HO3 HS3 HT3 CP
        obtain ⟨w6, hw6⟩ : ∃ w6, w6 = w5.alloc (.cells #[.int .i64 1] 3) := ⟨_, rfl⟩
        have b6 : Below w5.heap.size w5 w6 := by rw [hw6]; exact (Below.refl _ _).alloc (Nat.le_refl _) _
        have N6 : w6.heap[w5.heap.size]? = some (.cells #[.int .i64 1] 3 (0, 0)) := by rw [hw6]; exact heap_new _ _ _ rfl
        have HW6 : Hid (w6 = w5.alloc (.cells #[.int .i64 1] 3)) := hw6
        have O6 : Hid (OwnS w1 w6 g m') := OwnS.grow O5.out b6
        have S6 : Hid (VOwn 3 w1.heap.size w6 vs5 (iL (seqL (la + 1)))) := VOwn.below S5.out b6
        have T6 : Hid (VOwn 3 w1.heap.size w6 u12 (iL (stL la A0))) := VOwn.below T5.out b6
        clear hw6 b6 O5 S5 T5
        simp only [Act.put, List.setIfInBounds_toArray, List.set_cons_succ, List.set_cons_zero]
        go_wp2_with (first
          | (refine wl_build1V scI rfl _ rfl (.int .i64 1) rfl rfl ?_)
          | (at_builtin; refine of_stopT ?_))
        unfold StopT
        rw [← HW6.out]
        refine wl_app1V scI rfl _ _ rfl w1.heap.size u12 (iL (stL la A0)) (.int .i64 1) rfl rfl T6.out w5.heap.size 1 rfl N6 (by unfold iL; rw [List.length_map, stL_len]; omega) (OwnS.below O6.out).size ?_
        intro vt7 w7 hown hgr hq7
        have k7 : Kept (rowX u12) w6 w7 := Kept.of_grown hgr fun _ e => e
        have ON : Hid (OnS w1 w7 g m' vs5 vt7 (seqA m')) := by
          refine ⟨OwnS.keepX O6.out k7 (fun v hv k e e' => foot_int hv T6.out k e' e) fun k e => (VOwn.lt T6.out k e).1, ?_, ?_, ?_⟩
          · rw [HML.out.1]; exact VOwn.kept S6.out k7 fun k e e' => AP5.out.ne k e e'
          · rw [HML.out.1, HML.out.2, stL_succ]; unfold iL; rw [List.map_append]; exact hown
          · rcases hq7 with e | e
            · rw [e]; exact AP5.out
            · cases ht : vs5.ownBlock with
              | none => exact .inl rfl
              | some k =>
                refine .inr (.inr fun e' => ?_)
                have := (VOwn.lt S6.out k ht).2
                rw [e] at e'
                have := Option.some.inj e'
                omega
        clear hown hgr hq7 k7 N6 O6 S6 T6
        simp only [Act.put, List.setIfInBounds_toArray, List.set_cons_succ, List.set_cons_zero]
        clear HA0
        obtain ⟨A0, hA0⟩ : ∃ A0, A0 = seqA m' := ⟨_, rfl⟩
        have HA0 : Hid (A0 = seqA m') := hA0
        rw [← hA0] at ON
        clear hA0
        have HDA : Hid (AsksAt w1.heap.size w7 (.slice none 0 0) []) := AsksAt.nil _ _
        have HD64 : Hid (([] : List AskM).length ≤ 64) := by show _ ≤ _; simp
        have HDS : Hid (DoneS m'.last A0 []) := done_nil _ _
        have HFN : Hid (∀ s, (s ∈ A0 ∧ s ∉ ([] : List AskM).map (·.seq)) ↔ s ∈ seqA m') := by rw [HA0.out]; exact nobody _
        have OE0 : Hid (OnS w1 w7 g m' vs5 vt7 (seqA m')) := by have h1 := ON.out; rw [show A0 = seqA m' from HA0.out] at h1; exact h1
        clear ON HDA HDS HFN HD64
        go_wp2_with fail
        go_loopw [24] (fun s24 wr => s24 = .int .i64 0 ∧ Hid (OnS w1 wr g m' vs5 vt7 (seqA m'))) (fun _ _ => 0)
        case atStart => exact ⟨rfl, OE0⟩
        case round =>
          obtain ⟨rfl, OE⟩ := hrel
          clear OE0
          go_wp2_with fail
          go_roundw
          case rel => exact ⟨i + 1, m', by omega, by omega, by go_num, OE, HIN⟩
          case measure => simp [intOf]; omega
    by_cases q2 : kd = 2
    · subst q2
      cases hans : (answerW m x.seq).2 with
      | none =>
        have e1 : answerW m x.seq = (m, none) := by
          unfold answerW at hans ⊢
          split at hans
          · cases hans
          · rfl
        have CA := answerN_any HOx.out HI.out.1 x.seq (by rw [e1])
        rw [e1] at CA
        obtain ⟨xq, hxq⟩ : ∃ xq, xq = x.seq := ⟨_, rfl⟩
        rw [← hxq] at CA k3
        clear e1 hans hxq
        go_wp2_with (go_at_call 12; refine CA.mono ?_; rintro e w3 ⟨rfl, hO3⟩; refine of_stopT ?_)
        unfold StopT
        obtain ⟨w4, hw4⟩ : ∃ w4, w4 = w3.alloc (.cells (askV zeroA) 38) := ⟨_, rfl⟩
        have b4 : Below w3.heap.size w3 w4 := by rw [hw4]; exact (Below.refl _ _).alloc (Nat.le_refl _) _
        have SR4 : (w3.alloc (.cells (askV zeroA) 38)).setRow w3.heap.size (askV zeroA) = w4 := by rw [hw4]; exact setRow_new _ _ _ _ _ rfl
        have ON : Hid (OnS w1 w4 g m u11 u12 A0) := OnS.grow hO3 b4
        have HDA : Hid (AsksAt w1.heap.size w4 (.slice none 0 0) []) := AsksAt.nil _ _
        have HD64 : Hid (([] : List AskM).length ≤ 64) := by show _ ≤ _; simp
        have HDS : Hid (DoneS m.last A0 []) := done_nil _ _
        have HFN : Hid (∀ s, (s ∈ A0 ∧ s ∉ ([] : List AskM).map (·.seq)) ↔ s ∈ seqA m) := by rw [HA0.out]; exact nobody _
        have HIN : Hid (WaitIn m ∧ m.last ≤ i + 1 ∧ m.tries = tries) := ⟨HI.out.1, by have := HI.out.2.1; omega, HI.out.2.2⟩
        clear hO3 CA HOx k0 k1 k3 k4 Ax hw4 b4
        go_wp2_with (first
          | ((with_reducible refine wl_gaK rfl ?_); refine wl_allocK rfl rfl ?_; try rw [sz_allocK])
          | (((with_reducible refine wl_gsK _ _ rfl ?_); refine wl_storeK rfl _ _ rfl w3.heap.size zeroA zeroA rfl rfl (heap_new _ _ _ rfl) _ SR4 ?_); refine of_stopT ?_))
        unfold StopT
        clear SR4
        have OE0 : Hid (OnS w1 w4 g m u11 u12 (seqA m)) := by have h1 := ON.out; rw [show A0 = seqA m from HA0.out] at h1; exact h1
        clear ON HDA HDS HFN HD64
        go_wp2_with fail
        go_loopw [24] (fun s24 wr => s24 = .int .i64 0 ∧ Hid (OnS w1 wr g m u11 u12 (seqA m))) (fun _ _ => 0)
        case atStart => exact ⟨rfl, OE0⟩
        case round =>
          obtain ⟨rfl, OE⟩ := hrel
          clear OE0
          go_wp2_with fail
          go_roundw
          case rel => exact ⟨i + 1, m, by omega, by omega, by go_num, OE, HIN⟩
          case measure => simp [intOf]; omega
      | some y =>
        obtain ⟨d1, d2, d3⟩ := done_ans HI.out.1.ok hans
        have CA := answerN_any HOx.out HI.out.1 x.seq d3
        rw [hans] at CA
        obtain ⟨m', hm'⟩ : ∃ m', m' = (answerW m x.seq).1 := ⟨_, rfl⟩
        rw [← hm'] at CA d2 d3
        have HIN : Hid (WaitIn m' ∧ m'.last ≤ i + 1 ∧ m'.tries = tries) := by
          refine ⟨by rw [hm']; exact answer_inW HI.out.1 _, by rw [d3]; have := HI.out.2.1; omega, ?_⟩
          rw [hm']
          have : (answerW m x.seq).1.tries = m.tries := by unfold answerW; split <;> rfl
          rw [this]
          exact HI.out.2.2
        have HDS : Hid (DoneS m'.last A0 [y]) := by rw [d3, HA0.out]; exact d1
        have HFN : Hid (∀ s, (s ∈ A0 ∧ s ∉ [y].map (·.seq)) ↔ s ∈ seqA m') := by rw [HA0.out]; exact d2
        have HD64 : Hid ([y].length ≤ 64) := by show _ ≤ _; simp
        obtain ⟨xq, hxq⟩ : ∃ xq, xq = x.seq := ⟨_, rfl⟩
        rw [← hxq] at CA k3
        clear hans hxq hm' d1 d2 d3
        go_wp2_with (go_at_call 12; refine CA.mono ?_; rintro e w3 ⟨rfl, hO3⟩; refine of_stopT ?_)
        unfold StopT
        obtain ⟨w4, hw4⟩ : ∃ w4, w4 = w3.alloc (.cells (askV y) 38) := ⟨_, rfl⟩
        have b4 : Below w3.heap.size w3 w4 := by rw [hw4]; exact (Below.refl _ _).alloc (Nat.le_refl _) _
        have SR4 : (w3.alloc (.cells (askV zeroA) 38)).setRow w3.heap.size (askV y) = w4 := by rw [hw4]; exact setRow_new _ _ _ _ _ rfl
        have LD4 : (loadVar 38 ⟨w3.heap.size, 0, none⟩).run Try.prog w4 = .ok (.agg (askV y)) w4 := ldK_own (by rw [hw4]; exact heap_new _ _ _ rfl)
        obtain ⟨w5, hw5⟩ : ∃ w5, w5 = w4.alloc (.cells (askV y) 38) := ⟨_, rfl⟩
        have b5 : Below w4.heap.size w4 w5 := by rw [hw5]; exact (Below.refl _ _).alloc (Nat.le_refl _) _
        have N5 : w5.heap[w4.heap.size]? = some (.cells (askV y) 38 (0, 0)) := by rw [hw5]; exact heap_new _ _ _ rfl
        have O5 : Hid (OnS w1 w5 g m' u11 u12 A0) := (OnS.grow hO3 b4).grow b5
        have HW5 : Hid (w5 = w4.alloc (.cells (askV y) 38)) := hw5
        clear hO3 CA HOx k0 k1 k3 k4 Ax hw4 b4 hw5 b5
        go_wp2_with (first
          | ((with_reducible refine wl_gaK rfl ?_); refine wl_allocK rfl rfl ?_; try rw [sz_allocK])
          | ((with_reducible refine wl_gsK _ _ rfl ?_); refine wl_storeK rfl _ _ rfl w3.heap.size y zeroA rfl rfl (heap_new _ _ _ rfl) _ SR4 ?_)
          | ((with_reducible refine wl_glK _ rfl ?_); refine wl_loadK rfl _ rfl w3.heap.size 0 rfl y LD4 ?_)
          | ((with_reducible refine wl_gbK _ rfl ?_); refine wl_build1K rfl _ rfl y rfl ?_; try rw [sz_allocK])
          | (at_builtin; refine of_stopT ?_))
        unfold StopT
        rw [← HW5.out]
        refine wl_appK rfl _ _ rfl w1.heap.size (.slice none 0 0) [] y rfl (AsksAt.nil _ _) w4.heap.size 1 rfl N5 (by simp) (OwnS.below O5.out.own).size ?_
        intro vd6 w6 hown hgr _
        have HDA : Hid (AsksAt w1.heap.size w6 vd6 [y]) := hown
        have ON : Hid (OnS w1 w6 g m' u11 u12 A0) := OnS.grow O5.out ⟨hgr.os, hgr.tape, hgr.output, hgr.size, fun k hk => hgr.block k hk (by simp [Value.ownBlock])⟩
        clear hown hgr N5 O5 SR4 LD4
        simp only [Act.put, List.setIfInBounds_toArray, List.set_cons_succ, List.set_cons_zero]
        have HVT : Hid (∀ W A, OnS w1 W g m' u11 u12 A → VSl W u11 (iL (seqL m'.last)) ∧ ∃ o c, u12 = .slice o m'.last c) := fun W A h => ⟨h.sq.sl, by
          obtain ⟨o, c, e, _⟩ := h.st.sl.slice
          rw [show (iL (stL m'.last A)).length = m'.last by unfold iL; rw [List.length_map, stL_len]] at e
          exact ⟨o, c, e⟩⟩
        obtain ⟨od, cd, ed, hd1, hd2⟩ := AsksAt.slice HDA.out
        obtain ⟨qd, hqd⟩ : ∃ qd, qd = [y].length := ⟨_, rfl⟩
        have HQD : Hid (qd = [y].length) := hqd
        have HQD64 : qd ≤ 64 := by rw [hqd]; exact HD64.out
        rw [← hqd] at ed hd1
        obtain ⟨ot, ct, et⟩ := (HVT.out _ _ ON.out).2
        obtain ⟨os, cs, es, _, _⟩ := ON.out.sq.sl.slice
        rw [show (iL (seqL m'.last)).length = m'.last by unfold iL; rw [List.length_map, seqL_len]] at es
        obtain ⟨nl, hnl⟩ : ∃ nl, nl = m'.last := ⟨_, rfl⟩
        have HNL : Hid (nl = m'.last) := hnl
        have hnl100 : nl ≤ 100 := by have := HIN.out.2.1; omega
        rw [← hnl] at et es
        unfold maxLen at hd2
        clear hqd hnl
        subst ed
        subst et
        subst es
        go_wp2_with fail
        go_loopw [24] (fun s24 wr => ∃ k : Nat, k ≤ qd ∧ s24 = .int .i64 (k : Int) ∧ Hid (OnS w1 wr g m' (.slice os nl cs) (.slice ot nl ct) (openA A0 [y] k)) ∧ Hid (AsksAt w1.heap.size wr (.slice od qd cd) [y])) (fun s24 _ => qd - (intOf s24).toNat)
        case atStart => exact ⟨0, Nat.zero_le _, rfl, by rw [openA_zero]; exact ON, HDA⟩
        case round =>
          obtain ⟨k, hk, rfl, ON, HDA⟩ := hrel
          by_cases hlt : k < qd
          · have hlt' : (k : Int) < (qd : Int) := by omega
            obtain ⟨gd, offd, curd, tyd, frd, d, rfl, hgd, hccd, hdk⟩ := (AsksAt.sl HDA.out).at k hlt
            have f0 := (askf_of (off := offd + k * 17) hgd hccd).c0
            obtain ⟨q1, p, q2, q3, q4⟩ := done_at HDS.out hdk
            have Q1 : Hid (d.seq ∈ openA A0 [y] k) := q1
            have hp : p < nl := by rw [HNL.out]; exact q2
            obtain ⟨gt, rfl⟩ := slice_someW ON.out.st (by omega)
            obtain ⟨cv, kt, hct, fzt⟩ := ON.out.st.cell p hp
            unfold iL at hct
            rw [List.getElem?_map, stL_at q2 (by rw [← q3]; exact q1), Option.map_some] at hct
            obtain rfl : Value.int .i64 1 = cv := Option.some.inj hct
            have CP := place_any wr _ m'.last (HVT.out wr _ ON.out).1 d.seq
            have hpl : placeN m'.last d.seq = (p : Int) := by unfold placeN; rw [q3, if_pos (by omega)]; omega
            rw [hpl, q3] at CP
            rw [q3] at f0
            obtain ⟨o1, o2⟩ := ON.out.over q4
            have O1 : Hid _ := o1
            have DA : Hid (AsksAt w1.heap.size (wr.setCell ⟨gt, p, none⟩ (.int .i64 2)) (.slice (some ⟨gd, offd, none⟩) qd cd) [y]) := AsksAt.kept HDA.out (Kept.of_grown (X := isB gt) o2 fun k e => (Option.some.inj e).symm) fun k e e' => by
              unfold isB at e'
              subst e'
              exact ask_int HDA.out ON.out.st _ e rfl
            have hp1 : (p : Int) < (nl : Int) := by omega
            have hp0 : ¬ (p : Int) < 0 := by omega
            clear hgd hccd hdk q1 q2 q3 q4 hct hpl o1 o2 hp
            go_wp2_with (go_at_call 21; refine CP.mono ?_; rintro e w9 ⟨rfl, h9⟩; have h9 := h9.symm; subst h9)
            go_roundw
            case rel => exact ⟨k + 1, by omega, by go_num, O1, DA⟩
            case measure => simp [intOf]; omega
          · have hlt' : ¬ (k : Int) < (qd : Int) := by omega
            have OE : Hid (OnS w1 wr g m' (.slice os nl cs) (.slice ot nl ct) (seqA m')) := ⟨ON.out.own, ON.out.sq, by have h1 := ON.out.st; rw [done_all (by rw [← HQD.out]; omega) HFN.out] at h1; exact h1, ON.out.ap⟩
            clear ON HDA HDS HFN
            go_wp2_with fail
            go_roundw
            case rel => exact ⟨i + 1, m', by omega, by omega, by go_num, OE, HIN⟩
            case measure => simp [intOf]; omega
    by_cases q3 : kd = 3
    · subst q3
      obtain ⟨nw, hnw⟩ : ∃ nw, nw = x.now := ⟨_, rfl⟩
      rw [← hnw] at k4
      have CA := tickN_any HOx.out HI.out.1 nw
      obtain ⟨d1, d2⟩ := done_tick HI.out.1.ok nw
      obtain ⟨t1, t2⟩ := tick64 HI.out.1 nw
      have HAG : Hid (∀ y ∈ againW m nw, y.seq ∈ A0 ∧ 1 ≤ y.seq ∧ y.seq ≤ (m.last : Int) ∧ y.sent ≤ tries + 1) := fun y hy => by have h1 := again_ok HI.out.1.ok hy; rw [HI.out.2.2] at h1; rw [HA0.out]; exact h1
      obtain ⟨m', hm'⟩ : ∃ m', m' = tickW m nw := ⟨_, rfl⟩
      have hml : m'.last = m.last := by rw [hm']; rfl
      rw [← hm'] at CA d2
      have HIN : Hid (WaitIn m' ∧ m'.last ≤ i + 1 ∧ m'.tries = tries) := ⟨by rw [hm']; exact tick_inW HI.out.1 _, by rw [hml]; have := HI.out.2.1; omega, by rw [hm']; exact HI.out.2.2⟩
      obtain ⟨GL, hGL⟩ : ∃ GL, GL = goneW m nw := ⟨_, rfl⟩
      obtain ⟨AL, hAL⟩ : ∃ AL, AL = againW m nw := ⟨_, rfl⟩
      rw [← hGL] at CA d1 d2 t1
      rw [← hAL] at CA HAG t2
      have HDS : Hid (DoneS m'.last A0 GL) := by rw [hml, HA0.out]; exact d1
      have HFN : Hid (∀ s, (s ∈ A0 ∧ s ∉ GL.map (·.seq)) ↔ s ∈ seqA m') := by rw [HA0.out]; exact d2
      have HD64 : Hid (GL.length ≤ 64) := t1
      have HLS : Hid (m'.last = m.last) := hml
      clear hnw hm' hGL hAL d1 d2 t1 hml
      go_wp2_with (go_at_call 14; refine CA.mono ?_; rintro e w3 ⟨a3, b3, rfl, ha3, hb3, hO3⟩; refine of_stopT ?_)
      unfold StopT
      obtain ⟨oa, ca, ea, ha1, ha2⟩ := ha3.slice
      obtain ⟨qa, hqa⟩ : ∃ qa, qa = AL.length := ⟨_, rfl⟩
      have HQA : Hid (qa = AL.length) := hqa
      rw [← hqa] at ea ha1 t2
      obtain ⟨ob, cb, eb, _, _⟩ := hb3.slice
      obtain ⟨qb, hqb⟩ : ∃ qb, qb = GL.length := ⟨_, rfl⟩
      have HQB : Hid (qb = GL.length) := hqb
      rw [← hqb] at eb
      have HA3 : Hid (AsksAt w1.heap.size w3 a3 AL) := ha3
      have HB3 : Hid (AsksAt w1.heap.size w3 b3 GL) := hb3
      have HO3 : Hid (OnS w1 w3 g m' u11 u12 A0) := hO3
      unfold maxLen at ha2
      clear CA HOx k0 k1 k3 k4 Ax ha3 hb3 hO3 hqa hqb
      subst ea
      subst eb
      go_wp2_with fail
      go_loopw [22] (fun s22 wr => ∃ k : Nat, k ≤ qa ∧ s22 = .int .i64 (k : Int) ∧ wr = w3) (fun s22 _ => qa - (intOf s22).toNat)
      case atStart => exact ⟨0, Nat.zero_le _, rfl, rfl⟩
      case round =>
        obtain ⟨k, hk, rfl, rfl⟩ := hrel
        by_cases hlt : k < qa
        · have hlt' : (k : Int) < (qa : Int) := by omega
          obtain ⟨gd, offd, curd, tyd, frd, d, rfl, hgd, hccd, hdk⟩ := (AsksAt.sl HA3.out).at k hlt
          have f0 := (askf_of (off := offd + k * 17) hgd hccd).c0
          have f3 := (askf_of (off := offd + k * 17) hgd hccd).c3
          obtain ⟨g1, g2, g3, g4⟩ := HAG.out d (List.mem_of_getElem? hdk)
          obtain ⟨p, hp⟩ : ∃ p : Nat, d.seq = (p : Int) + 1 := ⟨(d.seq - 1).toNat, by omega⟩
          have hpn : p < m'.last := by rw [HLS.out]; omega
          obtain ⟨os, cs, es, _, _⟩ := HO3.out.sq.sl.slice
          obtain ⟨ot, ct, et, _, _⟩ := HO3.out.st.sl.slice
          rw [show (iL (stL m'.last A0)).length = m'.last by unfold iL; rw [List.length_map, stL_len]] at et
          have CP := place_any wr u11 m'.last HO3.out.sq.sl d.seq
          have hpl : placeN m'.last d.seq = (p : Int) := by unfold placeN; rw [hp, if_pos (by omega)]; omega
          rw [hpl, hp] at CP
          rw [hp] at f0
          have hst := HO3.out.st
          rw [et] at hst
          obtain ⟨gt, rfl⟩ := slice_someW hst (by omega)
          obtain ⟨cv, kt, hct, fzt⟩ := hst.cell p hpn
          unfold iL at hct
          rw [List.getElem?_map, stL_at hpn (by rw [← hp]; exact g1), Option.map_some] at hct
          obtain rfl : Value.int .i64 1 = cv := Option.some.inj hct
          obtain ⟨nl, hnl⟩ : ∃ nl, nl = m'.last := ⟨_, rfl⟩
          have hnl100 : nl ≤ 101 := by have := HIN.out.2.1; omega
          rw [← hnl] at et hpn
          have hp1 : (p : Int) < (nl : Int) := by omega
          have hp0 : ¬ (p : Int) < 0 := by omega
          obtain ⟨dsn, hdsn⟩ : ∃ dsn, dsn = d.sent := ⟨_, rfl⟩
          rw [← hdsn] at f3 g4
          have g4' : ¬ dsn > tries + 1 := by omega
          have hwt : IntKind.i64.wrap (tries + 1) = tries + 1 := by rw [IntKind.wrap_i64]; omega
          generalize (iL (seqL m'.last)).length = ns at es
          clear hgd hccd hdk g1 g2 g3 hct hpl hst hp hnl hdsn g4 hpn HAG HDS HFN HIN HD64 HLS HB3 HQA HQB HI HBr HX HHD HHS
          subst es
          subst et
          go_wp2_with (go_at_call 21; refine CP.mono ?_; rintro e w9 ⟨rfl, h9⟩; have h9 := h9.symm; subst h9)
          go_roundw
          case rel => exact ⟨k + 1, by omega, by go_num, by trivial⟩
          case measure => simp [intOf]; omega
        · have hlt' : ¬ (k : Int) < (qa : Int) := by omega
          go_wp2_with (first | (at_builtin; refine of_stopT ?_))
          unfold StopT
          refine wl_appLK rfl _ _ rfl w1.heap.size w1.heap.size (.slice none 0 0) (.slice ob qb cb) [] GL rfl (AsksAt.nil _ _) rfl HB3.out (by have := HD64.out; simp; omega) (OwnS.below HO3.out.own).size ?_
          intro vd6 w6 hown hgr _
          have HDA : Hid (AsksAt w1.heap.size w6 vd6 GL) := hown
          have ON : Hid (OnS w1 w6 g m' u11 u12 A0) := OnS.grow HO3.out ⟨hgr.os, hgr.tape, hgr.output, hgr.size, fun k hk => hgr.block k hk (by simp [Value.ownBlock])⟩
          clear hown hgr HO3 HB3 HA3 HAG
          simp only [Act.put, List.setIfInBounds_toArray, List.set_cons_succ, List.set_cons_zero]
          have HVT : Hid (∀ W A, OnS w1 W g m' u11 u12 A → VSl W u11 (iL (seqL m'.last)) ∧ ∃ o c, u12 = .slice o m'.last c) := fun W A h => ⟨h.sq.sl, by
            obtain ⟨o, c, e, _⟩ := h.st.sl.slice
            rw [show (iL (stL m'.last A)).length = m'.last by unfold iL; rw [List.length_map, stL_len]] at e
            exact ⟨o, c, e⟩⟩
          obtain ⟨od, cd, ed, hd1, hd2⟩ := AsksAt.slice HDA.out
          obtain ⟨qd, hqd⟩ : ∃ qd, qd = GL.length := ⟨_, rfl⟩
          have HQD : Hid (qd = GL.length) := hqd
          have HQD64 : qd ≤ 64 := by rw [hqd]; exact HD64.out
          rw [← hqd] at ed hd1
          obtain ⟨ot, ct, et⟩ := (HVT.out _ _ ON.out).2
          obtain ⟨os, cs, es, _, _⟩ := ON.out.sq.sl.slice
          rw [show (iL (seqL m'.last)).length = m'.last by unfold iL; rw [List.length_map, seqL_len]] at es
          obtain ⟨nl, hnl⟩ : ∃ nl, nl = m'.last := ⟨_, rfl⟩
          have HNL : Hid (nl = m'.last) := hnl
          have hnl100 : nl ≤ 100 := by have := HIN.out.2.1; omega
          rw [← hnl] at et es
          unfold maxLen at hd2
          clear hqd hnl
          subst ed
          subst et
          subst es
          go_wp2_with fail
          go_loopw [24] (fun s24 wr => ∃ k : Nat, k ≤ qd ∧ s24 = .int .i64 (k : Int) ∧ Hid (OnS w1 wr g m' (.slice os nl cs) (.slice ot nl ct) (openA A0 GL k)) ∧ Hid (AsksAt w1.heap.size wr (.slice od qd cd) GL)) (fun s24 _ => qd - (intOf s24).toNat)
          case atStart => exact ⟨0, Nat.zero_le _, rfl, by rw [openA_zero]; exact ON, HDA⟩
          case round =>
            obtain ⟨k, hk, rfl, ON, HDA⟩ := hrel
            by_cases hlt : k < qd
            · have hlt' : (k : Int) < (qd : Int) := by omega
              obtain ⟨gd, offd, curd, tyd, frd, d, rfl, hgd, hccd, hdk⟩ := (AsksAt.sl HDA.out).at k hlt
              have f0 := (askf_of (off := offd + k * 17) hgd hccd).c0
              obtain ⟨q1, p, q2, q3, q4⟩ := done_at HDS.out hdk
              have Q1 : Hid (d.seq ∈ openA A0 GL k) := q1
              have hp : p < nl := by rw [HNL.out]; exact q2
              obtain ⟨gt, rfl⟩ := slice_someW ON.out.st (by omega)
              obtain ⟨cv, kt, hct, fzt⟩ := ON.out.st.cell p hp
              unfold iL at hct
              rw [List.getElem?_map, stL_at q2 (by rw [← q3]; exact q1), Option.map_some] at hct
              obtain rfl : Value.int .i64 1 = cv := Option.some.inj hct
              have CP := place_any wr _ m'.last (HVT.out wr _ ON.out).1 d.seq
              have hpl : placeN m'.last d.seq = (p : Int) := by unfold placeN; rw [q3, if_pos (by omega)]; omega
              rw [hpl, q3] at CP
              rw [q3] at f0
              obtain ⟨o1, o2⟩ := ON.out.over q4
              have O1 : Hid _ := o1
              have DA : Hid (AsksAt w1.heap.size (wr.setCell ⟨gt, p, none⟩ (.int .i64 2)) (.slice (some ⟨gd, offd, none⟩) qd cd) GL) := AsksAt.kept HDA.out (Kept.of_grown (X := isB gt) o2 fun k e => (Option.some.inj e).symm) fun k e e' => by
                unfold isB at e'
                subst e'
                exact ask_int HDA.out ON.out.st _ e rfl
              have hp1 : (p : Int) < (nl : Int) := by omega
              have hp0 : ¬ (p : Int) < 0 := by omega
              clear hgd hccd hdk q1 q2 q3 q4 hct hpl o1 o2 hp
              go_wp2_with (go_at_call 21; refine CP.mono ?_; rintro e w9 ⟨rfl, h9⟩; have h9 := h9.symm; subst h9)
              go_roundw
              case rel => exact ⟨k + 1, by omega, by go_num, O1, DA⟩
              case measure => simp [intOf]; omega
            · have hlt' : ¬ (k : Int) < (qd : Int) := by omega
              have OE : Hid (OnS w1 wr g m' (.slice os nl cs) (.slice ot nl ct) (seqA m')) := ⟨ON.out.own, ON.out.sq, by have h1 := ON.out.st; rw [done_all (by rw [← HQD.out]; omega) HFN.out] at h1; exact h1, ON.out.ap⟩
              clear ON HDA HDS HFN
              go_wp2_with fail
              go_roundw
              case rel => exact ⟨i + 1, m', by omega, by omega, by go_num, OE, HIN⟩
              case measure => simp [intOf]; omega
    by_cases q4 : kd = 4
    · subst q4
      have CA := clearN_any HOx.out
      obtain ⟨d1, d2⟩ := done_clear HI.out.1.ok
      obtain ⟨m', hm'⟩ : ∃ m', m' = clearW m := ⟨_, rfl⟩
      have hml : m'.last = m.last := by rw [hm']; rfl
      rw [← hm'] at CA d2
      have HIN : Hid (WaitIn m' ∧ m'.last ≤ i + 1 ∧ m'.tries = tries) := ⟨by rw [hm']; exact clear_inW HI.out.1, by rw [hml]; have := HI.out.2.1; omega, by rw [hm']; exact HI.out.2.2⟩
      obtain ⟨GL, hGL⟩ : ∃ GL, GL = m.l := ⟨_, rfl⟩
      rw [← hGL] at CA d1 d2
      have HDS : Hid (DoneS m'.last A0 GL) := by rw [hml, HA0.out]; exact d1
      have HFN : Hid (∀ s, (s ∈ A0 ∧ s ∉ GL.map (·.seq)) ↔ s ∈ seqA m') := by rw [HA0.out]; exact d2
      have HD64 : Hid (GL.length ≤ 64) := by show _ ≤ _; rw [hGL]; exact HI.out.1.len
      clear hm' hGL d1 d2 hml
      go_wp2_with (first
        | (go_at_call 17; refine CA.mono ?_; rintro e w3 ⟨b3, rfl, hb3, hO3⟩; refine of_stopT ?_))
      unfold StopT
      obtain ⟨ob, cb, eb, _, _⟩ := hb3.slice
      generalize GL.length = qb at eb
      have HB3 : Hid (AsksAt w1.heap.size w3 b3 GL) := hb3
      have HO3 : Hid (OnS w1 w3 g m' u11 u12 A0) := hO3
      clear CA HOx k0 k1 k3 k4 Ax hb3 hO3
      subst eb
      go_wp2_with (first | (at_builtin; refine of_stopT ?_))
      unfold StopT
      refine wl_appLK rfl _ _ rfl w1.heap.size w1.heap.size (.slice none 0 0) (.slice ob qb cb) [] GL rfl (AsksAt.nil _ _) rfl HB3.out (by have := HD64.out; simp; omega) (OwnS.below HO3.out.own).size ?_
      intro vd6 w6 hown hgr _
      have HDA : Hid (AsksAt w1.heap.size w6 vd6 GL) := hown
      have ON : Hid (OnS w1 w6 g m' u11 u12 A0) := OnS.grow HO3.out ⟨hgr.os, hgr.tape, hgr.output, hgr.size, fun k hk => hgr.block k hk (by simp [Value.ownBlock])⟩
      clear hown hgr HO3 HB3
      simp only [Act.put, List.setIfInBounds_toArray, List.set_cons_succ, List.set_cons_zero]
      have HVT : Hid (∀ W A, OnS w1 W g m' u11 u12 A → VSl W u11 (iL (seqL m'.last)) ∧ ∃ o c, u12 = .slice o m'.last c) := fun W A h => ⟨h.sq.sl, by
        obtain ⟨o, c, e, _⟩ := h.st.sl.slice
        rw [show (iL (stL m'.last A)).length = m'.last by unfold iL; rw [List.length_map, stL_len]] at e
        exact ⟨o, c, e⟩⟩
      obtain ⟨od, cd, ed, hd1, hd2⟩ := AsksAt.slice HDA.out
      obtain ⟨qd, hqd⟩ : ∃ qd, qd = GL.length := ⟨_, rfl⟩
      have HQD : Hid (qd = GL.length) := hqd
      have HQD64 : qd ≤ 64 := by rw [hqd]; exact HD64.out
      rw [← hqd] at ed hd1
      obtain ⟨ot, ct, et⟩ := (HVT.out _ _ ON.out).2
      obtain ⟨os, cs, es, _, _⟩ := ON.out.sq.sl.slice
      rw [show (iL (seqL m'.last)).length = m'.last by unfold iL; rw [List.length_map, seqL_len]] at es
      obtain ⟨nl, hnl⟩ : ∃ nl, nl = m'.last := ⟨_, rfl⟩
      have HNL : Hid (nl = m'.last) := hnl
      have hnl100 : nl ≤ 100 := by have := HIN.out.2.1; omega
      rw [← hnl] at et es
      unfold maxLen at hd2
      clear hqd hnl
      subst ed
      subst et
      subst es
      go_wp2_with fail
      go_loopw [24] (fun s24 wr => ∃ k : Nat, k ≤ qd ∧ s24 = .int .i64 (k : Int) ∧ Hid (OnS w1 wr g m' (.slice os nl cs) (.slice ot nl ct) (openA A0 GL k)) ∧ Hid (AsksAt w1.heap.size wr (.slice od qd cd) GL)) (fun s24 _ => qd - (intOf s24).toNat)
      case atStart => exact ⟨0, Nat.zero_le _, rfl, by rw [openA_zero]; exact ON, HDA⟩
      case round =>
        obtain ⟨k, hk, rfl, ON, HDA⟩ := hrel
        by_cases hlt : k < qd
        · have hlt' : (k : Int) < (qd : Int) := by omega
          obtain ⟨gd, offd, curd, tyd, frd, d, rfl, hgd, hccd, hdk⟩ := (AsksAt.sl HDA.out).at k hlt
          have f0 := (askf_of (off := offd + k * 17) hgd hccd).c0
          obtain ⟨q1, p, q2, q3, q4⟩ := done_at HDS.out hdk
          have Q1 : Hid (d.seq ∈ openA A0 GL k) := q1
          have hp : p < nl := by rw [HNL.out]; exact q2
          obtain ⟨gt, rfl⟩ := slice_someW ON.out.st (by omega)
          obtain ⟨cv, kt, hct, fzt⟩ := ON.out.st.cell p hp
          unfold iL at hct
          rw [List.getElem?_map, stL_at q2 (by rw [← q3]; exact q1), Option.map_some] at hct
          obtain rfl : Value.int .i64 1 = cv := Option.some.inj hct
          have CP := place_any wr _ m'.last (HVT.out wr _ ON.out).1 d.seq
          have hpl : placeN m'.last d.seq = (p : Int) := by unfold placeN; rw [q3, if_pos (by omega)]; omega
          rw [hpl, q3] at CP
          rw [q3] at f0
          obtain ⟨o1, o2⟩ := ON.out.over q4
          have O1 : Hid _ := o1
          have DA : Hid (AsksAt w1.heap.size (wr.setCell ⟨gt, p, none⟩ (.int .i64 2)) (.slice (some ⟨gd, offd, none⟩) qd cd) GL) := AsksAt.kept HDA.out (Kept.of_grown (X := isB gt) o2 fun k e => (Option.some.inj e).symm) fun k e e' => by
            unfold isB at e'
            subst e'
            exact ask_int HDA.out ON.out.st _ e rfl
          have hp1 : (p : Int) < (nl : Int) := by omega
          have hp0 : ¬ (p : Int) < 0 := by omega
          clear hgd hccd hdk q1 q2 q3 q4 hct hpl o1 o2 hp
          go_wp2_with (go_at_call 21; refine CP.mono ?_; rintro e w9 ⟨rfl, h9⟩; have h9 := h9.symm; subst h9)
          go_roundw
          case rel => exact ⟨k + 1, by omega, by go_num, O1, DA⟩
          case measure => simp [intOf]; omega
        · have hlt' : ¬ (k : Int) < (qd : Int) := by omega
          have OE : Hid (OnS w1 wr g m' (.slice os nl cs) (.slice ot nl ct) (seqA m')) := ⟨ON.out.own, ON.out.sq, by have h1 := ON.out.st; rw [done_all (by rw [← HQD.out]; omega) HFN.out] at h1; exact h1, ON.out.ap⟩
          clear ON HDA HDS HFN
          go_wp2_with fail
          go_roundw
          case rel => exact ⟨i + 1, m', by omega, by omega, by go_num, OE, HIN⟩
          case measure => simp [intOf]; omega
    have z1 : (kd == 1) = false := by simpa using q1
    have z2 : (kd == 2) = false := by simpa using q2
    have z3 : (kd == 3) = false := by simpa using q3
    have z4 : (kd == 4) = false := by simpa using q4
    clear q1 q2 q3 q4
    have ON : Hid (OnS w1 wx g m u11 u12 A0) := HOx
    have HDA : Hid (AsksAt w1.heap.size wx (.slice none 0 0) []) := AsksAt.nil _ _
    have HD64 : Hid (([] : List AskM).length ≤ 64) := by show _ ≤ _; simp
    have HDS : Hid (DoneS m.last A0 []) := done_nil _ _
    have HFN : Hid (∀ s, (s ∈ A0 ∧ s ∉ ([] : List AskM).map (·.seq)) ↔ s ∈ seqA m) := by rw [HA0.out]; exact nobody _
    have HIN : Hid (WaitIn m ∧ m.last ≤ i + 1 ∧ m.tries = tries) := ⟨HI.out.1, by have := HI.out.2.1; omega, HI.out.2.2⟩
    clear HOx k1 k3 k4 Ax
    have OE0 : Hid (OnS w1 wx g m u11 u12 (seqA m)) := by have h1 := ON.out; rw [show A0 = seqA m from HA0.out] at h1; exact h1
    clear ON HDA HDS HFN HD64
    go_wp2_with fail
    go_loopw [24] (fun s24 wr => s24 = .int .i64 0 ∧ Hid (OnS w1 wr g m u11 u12 (seqA m))) (fun _ _ => 0)
    case atStart => exact ⟨rfl, OE0⟩
    case round =>
      obtain ⟨rfl, OE⟩ := hrel
      clear OE0
      go_wp2_with fail
      go_roundw
      case rel => exact ⟨i + 1, m, by omega, by omega, by go_num, OE, HIN⟩
      case measure => simp [intOf]; omega
end Go.Proofs.Ytagogbodkbbikaa
