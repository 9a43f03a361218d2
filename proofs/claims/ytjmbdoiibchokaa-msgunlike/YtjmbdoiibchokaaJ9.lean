import Derived.Test.YtjmbdoiibchokaaJ8
import Derived.Test.YtjmbdoiibchokaaJ7
namespace Go.Proofs.Ytjmbdoiibchokaa
open Go Go.Lib Go.RowKit
set_option maxRecDepth 20000

set_option maxHeartbeats 16000000 in
theorem menc_any (m : MsgM) (hm : okM m) (w : World) : Calls Try.prog 11 #[.agg (msA m)] w fun e w' => ∃ u, e = .returned (.tuple #[u, .int .i64 (encM m).2]) ∧ BOwn w.heap.size w' u (encM m).1 ∧ Below w.heap.size w w' := by
  obtain ⟨w1, hw1⟩ : ∃ w1, w1 = w.alloc (.cells (msA m) 27) := ⟨_, rfl⟩
  have g1 : w1.heap[w.heap.size]? = some (.cells (msA m) 27 (0, 0)) := by rw [hw1]; exact heap_new _ _ _ rfl
  have B1 : Below w.heap.size w w1 := by rw [hw1]; exact (Below.refl _ _).alloc (Nat.le_refl _) _
  have hs1 := (Array.getElem?_eq_some_iff.1 g1).1
  have g10 : (w.alloc (.cells (msA m) 27)).heap[w.heap.size]? = some (.cells (msA m) 27 (0, 0)) := heap_new _ _ _ rfl
  have hms := msA_size hm
  have CR : Hid (∀ W, Calls Try.prog 9 #[.agg (msA m)] W fun e w' => e = .returned (.bool (rightM m)) ∧ Below W.heap.size W w') := mright_any m hm
  by_cases hr : rightM m = true
  · have HE : Hid (encM m = (bytesM m, 0)) := by show _ = _; unfold encM; rw [if_pos hr]
    have HS : Hid (sealT m.kind (bodyM m) = (bytesM m, 0)) := seal_M hm hr
    have hk : fldK m.kind ≠ [] := fun e => by rw [right_none e] at hr; cases hr
    rw [hr] at CR
    obtain ⟨ns, hns⟩ : ∃ ns, ns = nfK m.kind := ⟨_, rfl⟩
    obtain ⟨c, hc⟩ : ∃ c, c = hcK m.kind := ⟨_, rfl⟩
    obtain ⟨d, hd⟩ : ∃ d, d = hhK m.kind := ⟨_, rfl⟩
    have hlt : ∀ j ∈ ns, j < 13 := by rw [hns]; exact nfK_lt _
    have hl7 : ns.length ≤ 7 := by rw [hns]; exact nfK_len _
    have CF : Hid (∀ W, W.heap[w.heap.size]? = some (.cells (msA m) 27 (0, 0)) → Calls Try.prog 17 #[.pointer (some ⟨w.heap.size, 0, none⟩)] W fun e w' => FldR w.heap.size ns c d W e w') := fun W hW => by
      rw [hns, hc, hd]
      exact fields_any w.heap.size m hk W hW
    have HRF : Hid (rightF m ns c = true) := by rw [hns, hc]; exact right_F hr
    have HBY : Hid (bytesF m ns c d = bodyM m) := by rw [hns, hc, hd]; exact body_split m
    clear hns hc hd hk hr
    obtain ⟨n, hn⟩ : ∃ n, n = ns.length := ⟨_, rfl⟩
    have HN : Hid (n = ns.length) := hn
    clear hn
    go_enter Try.func11, Try.ntmps11
    go_wp2_with (first
      | ((with_reducible refine wl_gl16 27 _ rfl ?_); refine wl_loadA MsOk rfl _ rfl w.heap.size 0 rfl _ _ _ (msA m) hms g10 (own_cells _ _) ?_))
    rw [← hw1]
    clear hw1 g10
    refine (CR.out _).mono ?_
    rintro e w2 ⟨rfl, hb2⟩
    have g2 : w2.heap[w.heap.size]? = some (.cells (msA m) 27 (0, 0)) := (hb2.block _ hs1).trans g1
    have B2 : Below w.heap.size w w2 := B1.trans (hb2.mono B1.size)
    have hs2 := (Array.getElem?_eq_some_iff.1 g2).1
    clear hb2 g1 B1 hs1
    go_wp2_with fail
    refine (CF.out _ g2).mono ?_
    rintro e w3 ⟨h, rfl, hh1, hh2, hb3⟩
    rw [← HN.out]
    have B3 : Below w.heap.size w w3 := B2.trans (hb3.mono B2.size)
    have hI3 : FIn w3 h w.heap.size ns m := ⟨(hb3.block _ hs2).trans g2, hh2, hm, hlt⟩
    have n0 := heap_new w3 (.cells fvZ 45) _ rfl
    have n1 := setRow_heap _ _ _ (fvA h w.heap.size n c d) _ _ n0
    have Bx : Below w3.heap.size w3 ((w3.alloc (.cells fvZ 45)).setRow w3.heap.size (fvA h w.heap.size n c d)) := below_setRow ((Below.refl _ _).alloc (Nat.le_refl _) _) (Nat.le_refl _) _
    have HI4 : Hid (FIn ((w3.alloc (.cells fvZ 45)).setRow w3.heap.size (fvA h w.heap.size n c d)) h w.heap.size ns m) := hI3.below Bx
    have HB4 : Hid (Below w.heap.size w ((w3.alloc (.cells fvZ 45)).setRow w3.heap.size (fvA h w.heap.size n c d))) := B3.trans (Bx.mono B3.size)
    clear hb3 hh2 g2 hI3
    go_wp2_with (first
      | ((with_reducible refine wl_gs16 45 _ _ rfl ?_); refine wl_storeA FvOk rfl _ _ rfl w3.heap.size (fvA h w.heap.size n c d) (fvA_fits _ _ _ _ _) rfl rfl _ n0 rfl _ rfl ?_))
    obtain ⟨W, hW⟩ : ∃ W, W = (w3.alloc (.cells fvZ 45)).setRow w3.heap.size (fvA h w.heap.size n c d) := ⟨_, rfl⟩
    rw [← hW] at HI4 HB4 n1 ⊢
    clear hW n0 Bx
    have hgs := (Array.getElem?_eq_some_iff.1 n1).1
    have hgm := (Array.getElem?_eq_some_iff.1 HI4.out.hg).1
    have ne1 := Later.ne W
    have c0 : ∀ u : Later W, u.world.cell? ⟨w.heap.size, 0, none⟩ = some (.int .i64 m.kind) := fun u => by
      rw [cell_of_row _ _ _ _ _ _ ((u.below.block _ hgm).trans HI4.out.hg), ms_kind]
    have HBB : Hid (∀ u : Later W, Calls Try.prog 25 #[.agg (fvA h w.heap.size n c d)] u.world fun e w' => ∃ x, e = .returned x ∧ BOwn u.world.heap.size w' x (bodyM m) ∧ Below u.world.heap.size u.world w') := fun u => by
      have := fbytes_any h w.heap.size ns c d m u.world (HI4.out.below u.below) hl7 HRF.out
      rw [← HN.out, HBY.out] at this
      exact this
    have HSE : Hid (∀ (v : Value) (W' : World), BSl W' v (bodyM m) → Calls Try.prog 24 #[.int .i64 m.kind, v] W' fun e w' => ∃ u, e = .returned (.tuple #[u, .int .i64 0]) ∧ BOwn W'.heap.size w' u (bytesM m) ∧ Below W'.heap.size W' w') := fun v W' hv => by
      have := seal_any m.kind v (bodyM m) W' hv
      rw [HS.out] at this
      exact this
    try simp only [Act.put]
    refine region_cut (fun a a' w' => ∃ u y13 y14 y15 y16 y17 y18 y19, a' = (((((((((a.put (some 13) y13).put (some 14) y14).put (some 15) y15).put (some 16) y16).put (some 17) y17).put (some 18) y18).put (some 19) y19).put (some 2) u).put (some 3) (.int .i64 0)) ∧ BOwn w.heap.size w' u (bytesM m) ∧ Below W.heap.size W w') ?_ ?_
    · refine region_begin 9 rfl (by kernel_rfl) ?_
      refine region_reads 0 3 6 rfl (by kernel_rfl) (by kernel_rfl) (by kernel_rfl) (by intro d v c a w h; exact absurd h.1 (by simp)) ⟨⟨W.drew, (Below.refl _ _).drew⟩, rfl⟩ ?_
      simp only [List.drop_zero, List.take_succ_cons, List.take_zero]
      go_big_quiet_step (fail)
      go_big_quiet_step (fail)
      refine qlA FvOk rfl _ rfl w3.heap.size 0 rfl _ _ _ (fvA h w.heap.size n c d) rfl (fun w' hw' => by obtain ⟨u, rfl⟩ := hw'; exact (u.below.block _ hgs).trans n1) (own_cells _ _) ?_
      simp only [Act.put, List.setIfInBounds_toArray, List.set_cons_succ, List.set_cons_zero]
      refine wpQuiet_nil ?_
      refine wpAnyH_all (rs := [3]) (by kernel_rfl) (by decide) ?_
      intro i hi
      obtain rfl := List.mem_singleton.1 hi
      refine wpOp_call rfl rfl 25 #[.tmp 15] (by intro b w; have hf := Try.func25; simp [go_sem]) #[.agg (fvA h w.heap.size n c d)] rfl (fun v w' => BOwn W.heap.size w' v (bodyM m) ∧ Below W.heap.size W w') ((HBB.out ⟨W.drew, (Below.refl _ _).drew⟩).mono fun e w' ⟨v, h1, h2, h3⟩ => ⟨v, h1, h2, ((Below.refl _ _).drew).trans h3⟩) (some 16) rfl ?_
      rintro z w4 ⟨ho4, hb4⟩
      refine ⟨⟨⟨w4, hb4⟩, rfl⟩, ?_⟩
      simp only [Act.put, List.setIfInBounds_toArray, List.set_cons_succ, List.set_cons_zero]
      refine wpAnyH_all (rs := [4]) (by kernel_rfl) (by decide) ?_
      intro i hi
      obtain rfl := List.mem_singleton.1 hi
      refine wpOp_call rfl rfl 24 #[.tmp 14, .tmp 16] (by intro b w; have hf := Try.func24; simp [go_sem]) #[.int .i64 m.kind, z] rfl (fun v w' => ∃ u, v = .tuple #[u, .int .i64 0] ∧ BOwn w.heap.size w' u (bytesM m) ∧ Below W.heap.size W w') ((HSE.out z w4 ho4.sl).mono fun e w' ⟨v, h1, h2, h3⟩ => ⟨_, h1, v, rfl, h2.base (Nat.le_trans HB4.out.size hb4.size), hb4.trans (h3.mono hb4.size)⟩) (some 17) rfl ?_
      rintro z5 w5 ⟨u5, rfl, ho5, hb5⟩
      refine ⟨⟨⟨w5, hb5⟩, rfl⟩, ?_⟩
      simp only [Act.put, List.setIfInBounds_toArray, List.set_cons_succ, List.set_cons_zero]
      refine region_reads 5 4 0 rfl (by kernel_rfl) (by kernel_rfl) (by kernel_rfl) (by intro d v c a w h; exact absurd h.1 (by simp)) ⟨⟨w5, hb5⟩, rfl⟩ ?_
      simp only [List.drop_succ_cons, List.drop_zero, List.take_succ_cons, List.take_zero]
      go_big_quiet_step (fail)
      go_big_quiet_step (fail)
      go_big_quiet_step (fail)
      go_big_quiet_step (fail)
      refine wpQuiet_nil ?_
      refine wpAnyH_done (by kernel_rfl) ?_ _
      exact ⟨rfl, _, _, _, _, _, _, _, _, rfl, ho5, hb5⟩
    rintro a' w5 ⟨u5, y13, y14, y15, y16, y17, y18, y19, rfl, ho5, hb5⟩
    have HO5 : Hid (BOwn w.heap.size w5 u5 (bytesM m)) := ho5
    have HB5 : Hid (Below w.heap.size w w5) := HB4.out.trans (hb5.mono HB4.out.size)
    clear ho5 hb5
    simp only [Act.put, List.setIfInBounds_toArray, List.set_cons_succ, List.set_cons_zero]
    go_wp2_with fail
    go_ret2
    rw [HE.out]
    exact ⟨_, rfl, HO5.out, HB5.out⟩
  · have hr' : rightM m = false := by simpa using hr
    have HE : Hid (encM m = ([], 12)) := by show _ = _; unfold encM; rw [if_neg hr]
    rw [hr'] at CR
    go_enter Try.func11, Try.ntmps11
    go_wp2_with (first
      | ((with_reducible refine wl_gl16 27 _ rfl ?_); refine wl_loadA MsOk rfl _ rfl w.heap.size 0 rfl _ _ _ (msA m) hms g10 (own_cells _ _) ?_))
    rw [← hw1]
    clear hw1 g10
    refine (CR.out _).mono ?_
    rintro e w2 ⟨rfl, hb2⟩
    have HB2 : Hid (Below w.heap.size w w2) := B1.trans (hb2.mono B1.size)
    clear hb2
    go_wp2_with fail
    go_ret2
    rw [HE.out]
    exact ⟨_, rfl, BOwn.nil _ _, HB2.out⟩
end Go.Proofs.Ytjmbdoiibchokaa
namespace Go.Proofs.Ytjmbdoiibchokaa
open Go Go.Lib Go.RowKit
set_option maxRecDepth 20000

abbrev zeroMs : Array Value := #[.int .i64 0, .int .i64 0, .int .i64 0, .int .i64 0, .int .i64 0, .int .i64 0, .int .i64 0, .int .i64 0, .int .i64 0, .int .i64 0, .int .i64 0, .int .i64 0, .int .i64 0, .int .i64 0, .int .u8 0, .int .u8 0, .int .u8 0, .int .u8 0, .int .u8 0, .int .u8 0, .int .u8 0, .int .u8 0, .int .u8 0, .int .u8 0, .int .u8 0, .int .u8 0, .int .u8 0, .int .u8 0, .int .u8 0, .int .u8 0, .int .u8 0, .int .u8 0, .int .u8 0, .int .u8 0, .int .u8 0, .int .u8 0, .int .u8 0, .int .u8 0, .int .u8 0, .int .u8 0, .int .u8 0, .int .u8 0, .int .u8 0, .int .u8 0, .int .u8 0, .int .u8 0, .int .u8 0, .int .u8 0, .int .u8 0, .int .u8 0, .int .u8 0, .int .u8 0, .int .u8 0]
def DecR (L : List UInt8) (w : World) (e : Ending) (w' : World) : Prop := e = .returned (.tuple #[.agg (msA (decM L).1), .int .i64 (decM L).2]) ∧ Below w.heap.size w w'
theorem decM_none {L : List UInt8} (h : decO L = none) : decM L = (zeroM 0, 12) := by unfold decM; rw [h]
theorem decM_some {L : List UInt8} {m : MsgM} (h : decO L = some m) : decM L = (m, 0) := by unfold decM; rw [h]
theorem openT_some {L : List UInt8} (h : (openT L).2.2 = 0) : ∃ k body, openB L = some (k, body) ∧ openT L = ((k : Int), body, 0) := by
  unfold openT at h ⊢
  cases e : openB L with
  | none => rw [e] at h; cases h
  | some kb => exact ⟨kb.1, kb.2, rfl, rfl⟩
theorem openT_none {L : List UInt8} (h : (openT L).2.2 ≠ 0) : openB L = none ∧ (openT L).2.2 = 12 := by
  unfold openT at h ⊢
  cases e : openB L with
  | none => exact ⟨rfl, rfl⟩
  | some kb => rw [e] at h; exact absurd rfl h
theorem decO_open {L : List UInt8} (h : openB L = none) : decO L = none := by unfold decO; rw [h]
set_option maxHeartbeats 16000000 in
theorem mdec_any (v : Value) (L : List UInt8) (w : World) (hL : BSl w v L) (hl : L.length ≤ 140737488355328) : Calls Try.prog 14 #[v] w fun e w' => DecR L w e w' := by
  have HL : Hid (BSl w v L) := hL
  obtain ⟨ov, nv, cx, rfl⟩ : ∃ o n c, v = .slice o n c := by obtain ⟨o, c, h, _⟩ := hL.slice; exact ⟨o, _, c, h⟩
  clear hL
  obtain ⟨w1, hw1⟩ : ∃ w1, w1 = w.alloc (.cells zeroMs 27) := ⟨_, rfl⟩
  have g1 : w1.heap[w.heap.size]? = some (.cells zeroMs 27 (0, 0)) := by rw [hw1]; exact heap_new _ _ _ rfl
  have B1 : Below w.heap.size w w1 := by rw [hw1]; exact (Below.refl _ _).alloc (Nat.le_refl _) _
  have hs1 := (Array.getElem?_eq_some_iff.1 g1).1
  have CO : Hid (Calls Try.prog 29 #[.slice ov nv cx] w1 fun e w' => ∃ u, e = .returned (.tuple #[.int .i64 (openT L).1, u, .int .i64 (openT L).2.2]) ∧ BOwn w1.heap.size w' u (openT L).2.1 ∧ Below w1.heap.size w1 w') := wopen_any _ L w1 (HL.out.below B1) hl
  clear hl HL
  by_cases he : (openT L).2.2 = 0
  · obtain ⟨k, body, ho, hT⟩ := openT_some he
    rw [hT] at CO
    clear he hT
    have hz := msA_size (zero_ok (k : Int))
    by_cases hk : fldK (k : Int) = []
    · have HD : Hid (decM L = (zeroM 0, 12)) := decM_none (dec_none ho hk)
      have CF : Hid (∀ (g : Nat) (W : World), W.heap[g]? = some (.cells (msA (zeroM (k : Int))) 27 (0, 0)) → Calls Try.prog 17 #[.pointer (some ⟨g, 0, none⟩)] W fun e w' => e = .returned (.tuple #[.agg fvZ, .bool false]) ∧ Below W.heap.size W w') := fun g W hW => fields0 g (zeroM (k : Int)) hk W hW
      clear ho hk
      go_enter Try.func14, Try.ntmps14
      go_wp2_with fail
      rw [← hw1]
      clear hw1
      refine CO.out.mono ?_
      rintro e w2 ⟨u, rfl, hO, hb2⟩
      have g2 : w2.heap[w.heap.size]? = some (.cells zeroMs 27 (0, 0)) := (hb2.block _ hs1).trans g1
      have B2 : Below w.heap.size w w2 := B1.trans (hb2.mono B1.size)
      have hs2 := (Array.getElem?_eq_some_iff.1 g2).1
      clear hO hb2 g1 B1
      have n0 := heap_new w2 (.cells zeroMs 27) _ rfl
      have n1 := setRow_heap _ _ _ (msA (zeroM (k : Int))) _ _ n0
      have g3 : ((w2.alloc (.cells zeroMs 27)).setRow w2.heap.size (msA (zeroM (k : Int)))).heap[w.heap.size]? = some (.cells zeroMs 27 (0, 0)) := (setRow_other _ _ _ _ (by omega)).trans (heap_past _ _ _ _ g2)
      have B3 : Below w.heap.size w ((w2.alloc (.cells zeroMs 27)).setRow w2.heap.size (msA (zeroM (k : Int)))) := below_setRow (B2.alloc B2.size _) B2.size _
      go_wp2_with (first
        | ((with_reducible refine wl_gb16 27 _ rfl ?_); refine wl_buildM rfl _ rfl (k : Int) rfl ?_)
        | ((with_reducible refine wl_gs16 27 _ _ rfl ?_); refine wl_storeA MsOk rfl _ _ rfl w2.heap.size (msA (zeroM (k : Int))) (ms_fits (zero_ok (k : Int))) rfl rfl _ n0 rfl _ rfl ?_))
      refine (CF.out _ _ n1).mono ?_
      rintro e w4 ⟨rfl, hb4⟩
      obtain ⟨w3, hw3⟩ : ∃ w3, w3 = (w2.alloc (.cells zeroMs 27)).setRow w2.heap.size (msA (zeroM (k : Int))) := ⟨_, rfl⟩
      rw [← hw3] at hb4 g3 B3
      clear hw3 n0 n1 g2
      have hs3 := (Array.getElem?_eq_some_iff.1 g3).1
      have g4 : w4.heap[w.heap.size]? = some (.cells zeroMs 27 (0, 0)) := (hb4.block _ hs3).trans g3
      have B4 : Below w.heap.size w w4 := B3.trans (hb4.mono B3.size)
      clear hb4 g3 B3
      have g5 : (w4.alloc (.cells fvZ 45)).heap[w.heap.size]? = some (.cells zeroMs 27 (0, 0)) := heap_past _ _ _ _ g4
      go_wp2_with (first
        | go_skip
        | ((with_reducible refine wl_gb16 27 _ rfl ?_); refine wl_buildM0 rfl rfl ?_)
        | ((with_reducible refine wl_gs16 27 _ _ rfl ?_); refine wl_storeA MsOk rfl _ _ rfl w.heap.size (msA (zeroM 0)) (ms_fits (zero_ok 0)) rfl rfl _ g5 rfl _ rfl ?_))
      refine retAe MsOk (p := 2) (u := 3) rfl rfl w.heap.size rfl (msA (zeroM 0)) (msA_size (zero_ok 0)) (setRow_heap _ _ _ _ _ _ g5) _ rfl ⟨?_, below_setRow (B4.alloc B4.size _) (Nat.le_refl _) _⟩
      rw [HD.out]; rfl
    · obtain ⟨ns, hns⟩ : ∃ ns, ns = nfK (k : Int) := ⟨_, rfl⟩
      obtain ⟨c, hc⟩ : ∃ c, c = hcK (k : Int) := ⟨_, rfl⟩
      obtain ⟨d, hd⟩ : ∃ d, d = hhK (k : Int) := ⟨_, rfl⟩
      have hlt : ∀ j ∈ ns, j < 13 := by rw [hns]; exact nfK_lt _
      have hl7 : ns.length ≤ 7 := by rw [hns]; exact nfK_len _
      have hcd : ¬ (c = true ∧ d = true) := by rw [hc, hd]; exact hchh _
      have HDF : Hid (decO L = fillG ns c d body (zeroM (k : Int))) := by rw [hns, hc, hd]; exact dec_fill ho hk
      have CF : Hid (∀ (g : Nat) (W : World), W.heap[g]? = some (.cells (msA (zeroM (k : Int))) 27 (0, 0)) → Calls Try.prog 17 #[.pointer (some ⟨g, 0, none⟩)] W fun e w' => FldR g ns c d W e w') := fun g W hW => by
        rw [hns, hc, hd]
        exact fields_any g (zeroM (k : Int)) hk W hW
      clear hns hc hd hk ho
      obtain ⟨n, hn⟩ : ∃ n, n = ns.length := ⟨_, rfl⟩
      have HN : Hid (n = ns.length) := hn
      clear hn
      go_enter Try.func14, Try.ntmps14
      go_wp2_with fail
      rw [← hw1]
      clear hw1
      refine CO.out.mono ?_
      rintro e w2 ⟨u, rfl, hO, hb2⟩
      obtain ⟨ou, nu, cu, rfl⟩ := val_slice hO.sl
      have g2 : w2.heap[w.heap.size]? = some (.cells zeroMs 27 (0, 0)) := (hb2.block _ hs1).trans g1
      have B2 : Below w.heap.size w w2 := B1.trans (hb2.mono B1.size)
      have hs2 := (Array.getElem?_eq_some_iff.1 g2).1
      have HO : Hid (BOwn w1.heap.size w2 (.slice ou nu cu) body) := hO
      clear hO hb2 g1 B1
      have n0 := heap_new w2 (.cells zeroMs 27) _ rfl
      have n1 := setRow_heap _ _ _ (msA (zeroM (k : Int))) _ _ n0
      have g3 : ((w2.alloc (.cells zeroMs 27)).setRow w2.heap.size (msA (zeroM (k : Int)))).heap[w.heap.size]? = some (.cells zeroMs 27 (0, 0)) := (setRow_other _ _ _ _ (by omega)).trans (heap_past _ _ _ _ g2)
      have Bx : Below w2.heap.size w2 ((w2.alloc (.cells zeroMs 27)).setRow w2.heap.size (msA (zeroM (k : Int)))) := below_setRow ((Below.refl _ _).alloc (Nat.le_refl _) _) (Nat.le_refl _) _
      have B3 : Below w.heap.size w ((w2.alloc (.cells zeroMs 27)).setRow w2.heap.size (msA (zeroM (k : Int)))) := B2.trans (Bx.mono B2.size)
      have HS3 : Hid (BSl ((w2.alloc (.cells zeroMs 27)).setRow w2.heap.size (msA (zeroM (k : Int)))) (.slice ou nu cu) body) := HO.out.sl.below Bx
      have HOB : Hid (Value.ownBlock (.slice ou nu cu) ≠ some w2.heap.size) := fun e => by have := (HO.out.ge _ e).2; omega
      go_wp2_with (first
        | ((with_reducible refine wl_gb16 27 _ rfl ?_); refine wl_buildM rfl _ rfl (k : Int) rfl ?_)
        | ((with_reducible refine wl_gs16 27 _ _ rfl ?_); refine wl_storeA MsOk rfl _ _ rfl w2.heap.size (msA (zeroM (k : Int))) (ms_fits (zero_ok (k : Int))) rfl rfl _ n0 rfl _ rfl ?_))
      refine (CF.out _ _ n1).mono ?_
      rintro e w4 ⟨h, rfl, hh1, hh2, hb4⟩
      rw [← HN.out]
      obtain ⟨w3, hw3⟩ : ∃ w3, w3 = (w2.alloc (.cells zeroMs 27)).setRow w2.heap.size (msA (zeroM (k : Int))) := ⟨_, rfl⟩
      rw [← hw3] at hb4 g3 B3 n1 hh1 HS3
      clear hw3 n0 g2 Bx
      have hs3 := (Array.getElem?_eq_some_iff.1 g3).1
      have hs3' := (Array.getElem?_eq_some_iff.1 n1).1
      have g4 : w4.heap[w.heap.size]? = some (.cells zeroMs 27 (0, 0)) := (hb4.block _ hs3).trans g3
      have B4 : Below w.heap.size w w4 := B3.trans (hb4.mono B3.size)
      have hI4 : FIn w4 h w2.heap.size ns (zeroM (k : Int)) := ⟨(hb4.block _ hs3').trans n1, hh2, zero_ok _, hlt⟩
      have HS4 : Hid (BSl w4 (.slice ou nu cu) body) := HS3.out.below hb4
      have hs4 := (Array.getElem?_eq_some_iff.1 g4).1
      have hne : h ≠ w2.heap.size := by omega
      clear hb4 g3 B3 HS3 n1
      have p0 := heap_new w4 (.cells fvZ 45) _ rfl
      have p1 := setRow_heap _ _ _ (fvA h w2.heap.size n c d) _ _ p0
      have By : Below w4.heap.size w4 ((w4.alloc (.cells fvZ 45)).setRow w4.heap.size (fvA h w2.heap.size n c d)) := below_setRow ((Below.refl _ _).alloc (Nat.le_refl _) _) (Nat.le_refl _) _
      go_wp2_with (first
        | go_skip
        | ((with_reducible refine wl_gs16 45 _ _ rfl ?_); refine wl_storeA FvOk rfl _ _ rfl w4.heap.size (fvA h w2.heap.size n c d) (fvA_fits _ _ _ _ _) rfl rfl _ p0 rfl _ rfl ?_)
        | ((with_reducible refine wl_gl16 45 _ rfl ?_); refine wl_loadA FvOk rfl _ rfl w4.heap.size 0 rfl _ _ _ (fvA h w2.heap.size n c d) rfl p1 (own_cells _ _) ?_))
      obtain ⟨w5, hw5⟩ : ∃ w5, w5 = (w4.alloc (.cells fvZ 45)).setRow w4.heap.size (fvA h w2.heap.size n c d) := ⟨_, rfl⟩
      rw [← hw5] at By ⊢
      clear hw5 p0 p1
      have B5 : Below w.heap.size w w5 := B4.trans (By.mono B4.size)
      have g5 : w5.heap[w.heap.size]? = some (.cells zeroMs 27 (0, 0)) := (By.block _ hs4).trans g4
      have CFI := ffill_any h w2.heap.size ns c d (zeroM (k : Int)) w5 (hI4.below By) hl7 hne hcd (.slice ou nu cu) body (HS4.out.below By) HOB.out
      rw [← HN.out] at CFI
      clear By g4 B4 hI4 HS4
      have hs5 := (Array.getElem?_eq_some_iff.1 g5).1
      refine CFI.mono ?_
      rintro e w6 ⟨m', hgr, hm', gm, hcase⟩
      have g6 : w6.heap[w.heap.size]? = some (.cells zeroMs 27 (0, 0)) := (hgr.block _ hs5 (by simp; omega)).trans g5
      have B6 : Below w.heap.size w w6 := below_grown16 B5 hgr B2.size B5.size
      clear hgr CFI g5 B5
      rcases hcase with ⟨hf, rfl⟩ | ⟨hf, rfl⟩
      · have HD : Hid (decM L = (m', 0)) := decM_some (HDF.out.trans hf)
        have hms := msA_size hm'
        clear hf
        go_wp2_with (first
          | ((with_reducible refine wl_gl16 27 _ rfl ?_); refine wl_loadA MsOk rfl _ rfl w2.heap.size 0 rfl _ _ _ (msA m') hms gm (own_cells _ _) ?_)
          | ((with_reducible refine wl_gs16 27 _ _ rfl ?_); refine wl_storeA MsOk rfl _ _ rfl w.heap.size (msA m') (ms_fits hm') rfl rfl _ g6 rfl _ rfl ?_))
        refine retAe MsOk (p := 2) (u := 3) rfl rfl w.heap.size rfl (msA m') hms (setRow_heap _ _ _ _ _ _ g6) _ rfl ⟨?_, below_setRow B6 (Nat.le_refl _) _⟩
        rw [HD.out]; rfl
      · have HD : Hid (decM L = (zeroM 0, 12)) := decM_none (HDF.out.trans hf)
        clear hf
        go_wp2_with (first
          | ((with_reducible refine wl_gb16 27 _ rfl ?_); refine wl_buildM0 rfl rfl ?_)
          | ((with_reducible refine wl_gs16 27 _ _ rfl ?_); refine wl_storeA MsOk rfl _ _ rfl w.heap.size (msA (zeroM 0)) (ms_fits (zero_ok 0)) rfl rfl _ g6 rfl _ rfl ?_))
        refine retAe MsOk (p := 2) (u := 3) rfl rfl w.heap.size rfl (msA (zeroM 0)) (msA_size (zero_ok 0)) (setRow_heap _ _ _ _ _ _ g6) _ rfl ⟨?_, below_setRow B6 (Nat.le_refl _) _⟩
        rw [HD.out]; rfl
  · obtain ⟨ho, h12⟩ := openT_none he
    have HD : Hid (decM L = (zeroM 0, 12)) := decM_none (decO_open ho)
    rw [h12] at CO
    clear ho h12 he
    go_enter Try.func14, Try.ntmps14
    go_wp2_with fail
    rw [← hw1]
    clear hw1
    refine CO.out.mono ?_
    rintro e w2 ⟨u, rfl, hO, hb2⟩
    have g2 : w2.heap[w.heap.size]? = some (.cells zeroMs 27 (0, 0)) := (hb2.block _ hs1).trans g1
    have B2 : Below w.heap.size w w2 := B1.trans (hb2.mono B1.size)
    clear hO hb2 g1 B1
    go_wp2_with (first
      | ((with_reducible refine wl_gb16 27 _ rfl ?_); refine wl_buildM0 rfl rfl ?_)
      | ((with_reducible refine wl_gs16 27 _ _ rfl ?_); refine wl_storeA MsOk rfl _ _ rfl w.heap.size (msA (zeroM 0)) (ms_fits (zero_ok 0)) rfl rfl _ g2 rfl _ rfl ?_))
    refine retAe MsOk (p := 2) (u := 3) rfl rfl w.heap.size rfl (msA (zeroM 0)) (msA_size (zero_ok 0)) (setRow_heap _ _ _ _ _ _ g2) _ rfl ⟨?_, below_setRow B2 (Nat.le_refl _) _⟩
    rw [HD.out]; rfl
end Go.Proofs.Ytjmbdoiibchokaa
namespace Go.Proofs.Ytjmbdoiibchokaa
open Go Go.Lib Go.RowKit
set_option maxRecDepth 20000

def ackM : MsgM := ⟨4, [1, 2, 0, 3, 0, 0, 0, 0, 0, 0, 0, 0, 0], (Z, Z), Z⟩
def ackL : MsgM := ⟨4, [1, 2, 0, 3, 0, 0, 0, 0, 0, 0, 0, 0, 1], (Z, Z), Z⟩
theorem ackM_ok : okM ackM := ⟨rfl, Z_byt, Z_byt, Z_byt⟩
theorem ackL_ok : okM ackL := ⟨rfl, Z_byt, Z_byt, Z_byt⟩
set_option maxRecDepth 100000 in
theorem ackM_enc : encM ackM = ([0, 18, 4, 0, 0, 0, 0, 0, 1, 0, 0, 0, 0, 0, 2, 0, 0, 0, 0, 0, 3], 0) := by kernel_rfl
set_option maxRecDepth 100000 in
theorem ackL_enc : encM ackL = ([], 12) := by kernel_rfl
set_option maxRecDepth 100000 in
theorem build_ack (W : World) : (Instr.build 27 #[(0, .int .i64 4), (1, .int .i64 1), (2, .int .i64 2), (4, .int .i64 3)]).run Try.prog W = .ok (.agg (msA ackM)) W := by
  unfold ackM
  rw [Z_eq]
  kernel_rfl
set_option maxRecDepth 100000 in
theorem build_ackL (W : World) : (Instr.build 27 #[(0, .int .i64 4), (1, .int .i64 1), (2, .int .i64 2), (4, .int .i64 3), (13, .int .i64 1)]).run Try.prog W = .ok (.agg (msA ackL)) W := by
  unfold ackL
  rw [Z_eq]
  kernel_rfl
theorem wl_buildAny16 {ops : Array Oper} {rest : List Oper} {o : Oper} {a : Act} {w : World} {Q : Exit → Act → World → Prop} (hgd : o.guard = none) (t : TypeId) (ps : Array (Nat × Operand)) (ho : o.op = .build t ps) (vs : Array (Nat × Value)) (hvs : ps.map (fun (i, x) => (i, a.eval x)) = vs) (u : Value)
    (hb : ∀ W, (Instr.build t vs).run Try.prog W = .ok u W) (h : wpList Try.prog ops Q rest (a.put o.dst u) w) : wpList Try.prog ops Q (o :: rest) a w := by
  refine wpList_plain hgd fun _ hK => ?_
  unfold Oper.wp execOp
  simp only [ho, Sem.run_bind]
  rw [hvs, hb w]
  simp only [Result.andThen_ok, Sem.run_pure]
  exact hK _ _ h
set_option maxHeartbeats 8000000 in
theorem awake16_any (w : World) : Calls Try.prog 8 #[] w fun e w' => e = .returned (.bool true) ∧ Below w.heap.size w w' := by
  have E1 : Hid (∀ W, Calls Try.prog 11 #[.agg (msA ackM)] W fun e w' => ∃ u, e = .returned (.tuple #[u, .int .i64 0]) ∧ BOwn W.heap.size w' u [0, 18, 4, 0, 0, 0, 0, 0, 1, 0, 0, 0, 0, 0, 2, 0, 0, 0, 0, 0, 3] ∧ Below W.heap.size W w') := fun W => by
    have := menc_any ackM ackM_ok W
    rw [ackM_enc] at this
    exact this
  have E2 : Hid (∀ W, Calls Try.prog 11 #[.agg (msA ackL)] W fun e w' => ∃ u, e = .returned (.tuple #[u, .int .i64 12]) ∧ BOwn W.heap.size w' u [] ∧ Below W.heap.size W w') := fun W => by
    have := menc_any ackL ackL_ok W
    rw [ackL_enc] at this
    exact this
  go_enter Try.func8, Try.ntmps8
  go_wp2_with (first
    | ((with_reducible refine wl_gb16 27 _ rfl ?_); refine wl_buildAny16 rfl _ _ rfl _ (by simp only [List.map_toArray, List.map_cons, List.map_nil]; rfl) _ build_ack ?_))
  refine (E1.out _).mono ?_
  rintro e w1 ⟨u, rfl, hO1, hb1⟩
  have HU : Hid (BSl w1 u [0, 18, 4, 0, 0, 0, 0, 0, 1, 0, 0, 0, 0, 0, 2, 0, 0, 0, 0, 0, 3]) := hO1.sl
  have HB1 : Hid (Below w.heap.size w w1) := hb1
  clear hO1 hb1
  go_wp2_with (first
    | ((with_reducible refine wl_gb16 27 _ rfl ?_); refine wl_buildAny16 rfl _ _ rfl _ (by simp only [List.map_toArray, List.map_cons, List.map_nil]; rfl) _ build_ackL ?_))
  refine (E2.out _).mono ?_
  rintro e w2 ⟨x, rfl, _, hb2⟩
  have hU2 := HU.out.below hb2
  have HB2 : Hid (Below w.heap.size w w2) := HB1.out.trans (hb2.mono HB1.out.size)
  clear hb2
  obtain ⟨o, cap, hx, hc1, hc2⟩ := hU2.slice
  subst hx
  obtain ⟨g, off, a1, rfl, k1, l1⟩ := hU2.at 1 (by decide)
  obtain ⟨g', off', a2, e2, k2, l2⟩ := hU2.at 2 (by decide)
  obtain ⟨g'', off'', a3, e3, k3, l3⟩ := hU2.at 20 (by decide)
  simp only [Option.some.injEq, Addr.mk.injEq, and_true] at e2 e3
  obtain ⟨rfl, rfl⟩ := e2
  obtain ⟨rfl, rfl⟩ := e3
  obtain rfl : 18 = a1 := Option.some.inj l1
  obtain rfl : 4 = a2 := Option.some.inj l2
  obtain rfl : 3 = a3 := Option.some.inj l3
  have k1' : w2.cell? ⟨g, off + 1, none⟩ = some (.int .u8 18) := k1
  have k2' : w2.cell? ⟨g, off + 2, none⟩ = some (.int .u8 4) := k2
  have k3' : w2.cell? ⟨g, off + 20, none⟩ = some (.int .u8 3) := k3
  clear k1 k2 k3 l1 l2 l3 hU2
  go_wp2_with fail
  go_ret
  exact ⟨rfl, HB2.out⟩
end Go.Proofs.Ytjmbdoiibchokaa
