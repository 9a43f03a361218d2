import Derived.Test.YtagogbodkbbikaaJ7
import Derived.Test.YtagogbodkbbikaaJ8
namespace Go.Proofs.Ytagogbodkbbikaa
open Go Go.RowKit
set_option maxRecDepth 20000

theorem wl_buildKg {ops : Array Oper} {rest : List Oper} {o : Oper} {a : Act} {w : World} {Q : Exit → Act → World → Prop} (hw : Region.wanted o (yielded ops a.tmps) = true) (ho : o.op = .build 38 #[])
    (h : wpList Try.prog ops Q rest (a.put o.dst (.agg (askV zeroA))) w) : wpList Try.prog ops Q (o :: rest) a w := by
  refine wpList_step fun K hK => ?_
  rw [if_pos hw]
  unfold Oper.wp execOp
  simp only [ho, Sem.run_bind, List.map_toArray, List.map_nil, build_ask0, Result.andThen_ok, Sem.run_pure]
  exact hK _ _ h
theorem nadd_any (w : World) (i now : Int) (L : List Int) : Calls Try.prog 10 #[.pointer none, .int .i64 i, .agg (hv L), .int .i64 now] w fun e w' => e = .returned (.tuple #[.int .i64 0, .int .i64 2]) ∧ Below w.heap.size w w' := by
  have B0 : Hid (Below w.heap.size w (w.alloc (.cells (hv L) 32))) := (Below.refl _ _).alloc (Nat.le_refl _) _
  go_enter Try.func10, Try.ntmps10
  go_wp2_with fail
  go_ret2
  exact ⟨rfl, B0.out⟩
theorem nanswer_any (w : World) (s : Int) : Calls Try.prog 12 #[.pointer none, .int .i64 s] w fun e w' => e = .returned (.tuple #[.agg (askV zeroA), .bool false]) ∧ Below w.heap.size w w' := by
  have Z0 : (w.alloc (.cells (askV zeroA) 38)).heap[w.heap.size]? = some (.cells (askV zeroA) 38 (0, 0)) := heap_new _ _ _ rfl
  have B0 : Hid (Below w.heap.size w ((w.alloc (.cells (askV zeroA) 38)).setRow w.heap.size (askV zeroA))) := below_setRow ((Below.refl _ _).alloc (Nat.le_refl _) _) (Nat.le_refl _) _
  have Z1 : Hid (((w.alloc (.cells (askV zeroA) 38)).setRow w.heap.size (askV zeroA)).heap[w.heap.size]? = some (.cells (askV zeroA) 38 (0, 0))) := setRow_heap _ _ _ _ _ _ Z0
  go_enter Try.func12, Try.ntmps12
  go_wp2_with (first
    | ((with_reducible refine wl_gaK rfl ?_); refine wl_allocK rfl rfl ?_; try rw [sz_allocK])
    | ((with_reducible refine wl_gzK rfl ?_); refine wl_buildK rfl rfl ?_)
    | (((with_reducible refine wl_gsK _ _ rfl ?_); refine wl_storeK rfl _ _ rfl w.heap.size zeroA zeroA rfl rfl Z0 _ rfl ?_)))
  refine retAe (E := AskG) AskGOk rfl rfl w.heap.size rfl (askV zeroA) rfl Z1.out (.bool false) rfl ?_
  exact ⟨rfl, B0.out⟩
theorem ntick_any (w : World) (now : Int) : Calls Try.prog 14 #[.pointer none, .int .i64 now] w fun e w' => e = .returned (.tuple #[.slice none 0 0, .slice none 0 0]) ∧ w' = w := by
  go_enter Try.func14, Try.ntmps14
  go_wp2_with fail
  go_ret2
  exact ⟨rfl, rfl⟩
theorem nclear_any (w : World) : Calls Try.prog 17 #[.pointer none] w fun e w' => e = .returned (.slice none 0 0) ∧ w' = w := by
  go_enter Try.func17, Try.ntmps17
  go_wp2_with fail
  go_ret
  exact ⟨rfl, rfl⟩
theorem nlist_any (w : World) : Calls Try.prog 19 #[.pointer none] w fun e w' => e = .returned (.slice none 0 0) ∧ w' = w := by
  go_enter Try.func19, Try.ntmps19
  go_wp2_with fail
  go_ret
  exact ⟨rfl, rfl⟩
set_option maxHeartbeats 8000000 in
theorem lawWNil_any (w : World) (x : ActW) (hx : OkActW x) : Calls Try.prog 6 #[.agg (actW x)] w fun e w' => e = .returned (.bool true) ∧ Below w.heap.size w w' := by
  obtain ⟨w0, hw0⟩ : ∃ w0, w0 = w.alloc (.cells (actW x) 34) := ⟨_, rfl⟩
  have B0 : Hid (Below w.heap.size w w0) := by show Below _ _ _; rw [hw0]; exact (Below.refl _ _).alloc (Nat.le_refl _) _
  have A0 : w0.heap[w.heap.size]? = some (.cells (actW x) 34 (0, 0)) := by rw [hw0]; exact heap_new _ _ _ rfl
  have HF : Hid (∀ W, Below w0.heap.size w0 W → ActWF W w.heap.size 0 x ∧ W.heap[w.heap.size]? = some (.cells (actW x) 34 (0, 0)) ∧ Below w.heap.size w W) := fun W hb => by
    have := (hb.block _ (Array.getElem?_eq_some_iff.1 A0).1).trans A0
    exact ⟨actwf_of this fun j _ => by rw [Nat.zero_add], this, B0.out.trans (hb.mono B0.out.size)⟩
  have HW := awake19_any w0
  have HH : Hid (∀ j, j < 13 → (actW x)[2 + j]? = (hv x.head)[j]?) := actw_head hx
  have HHS : Hid ((hv x.head).size = 13) := by show _ = _; rw [hv_size]; exact hx
  have eM : ∀ W, (Op.equalIn 10000 38 (.agg (askV zeroA)) (.agg (askV zeroA))).run Try.prog W = .ok true W := eqK_same zeroA
  have eG : ∀ op p q W, (eqGuard op 38 p q (.agg (askV zeroA)) (.agg (askV zeroA))).run Try.prog W = .ok () W := fun op p q W => egK op p q _ _ W
  rw [hw0] at HW
  have HW0 : Hid (w0 = w.alloc (.cells (actW x) 34)) := hw0
  clear A0 hw0
  go_enter Try.func6, Try.ntmps6
  go_wp2_with (go_at_call 7; refine HW.mono ?_; rintro e w1 ⟨rfl, hb1⟩; refine of_stopT ?_)
  unfold StopT
  rw [← HW0.out] at hb1
  obtain ⟨F1, H1, _⟩ := HF.out w1 hb1
  have k1 := F1.c1
  have k4 := F1.c4
  have B1 : Hid (Below w0.heap.size w0 w1) := hb1
  have CA := nadd_any w1 x.index x.now x.head
  simp only [Nat.zero_add] at k1 k4
  clear F1 hb1 HW
  go_wp2_with (first
    | ((with_reducible refine wl_glH _ rfl ?_); refine wl_loadA HeKOk rfl _ rfl w.heap.size 2 rfl (actW x) _ _ (hv x.head) HHS.out H1 HH.out ?_)
    | (go_at_call 10; refine CA.mono ?_; rintro e w2 ⟨rfl, hb2⟩; refine of_stopT ?_))
  unfold StopT
  have B2 : Hid (Below w0.heap.size w0 w2) := B1.out.trans (hb2.mono B1.out.size)
  obtain ⟨F2, H2, _⟩ := HF.out w2 B2.out
  have k3 := F2.c3
  have CB := nanswer_any w2 x.seq
  simp only [Nat.zero_add] at k3
  clear F2 hb2 CA H1 k1 k4 H2
  go_wp2_with (first
    | (go_at_call 12; refine CB.mono ?_; rintro e w3 ⟨rfl, hb3⟩; refine of_stopT ?_))
  unfold StopT
  obtain ⟨w4, hw4⟩ : ∃ w4, w4 = w3.alloc (.cells (askV zeroA) 38) := ⟨_, rfl⟩
  have B4 : Hid (Below w0.heap.size w0 w4) := by show Below _ _ _; rw [hw4]; exact (B2.out.trans (hb3.mono B2.out.size)).alloc (Nat.le_trans B2.out.size hb3.size) _
  obtain ⟨F4, _, B4w⟩ := HF.out w4 B4.out
  have HB4 : Hid (Below w.heap.size w w4) := B4w
  have k4 := F4.c4
  simp only [Nat.zero_add] at k4
  have LD : (loadVar 38 ⟨w3.heap.size, 0, none⟩).run Try.prog w4 = .ok (.agg (askV zeroA)) w4 := ldK_own (by rw [hw4]; exact heap_new _ _ _ rfl)
  have SR : (w3.alloc (.cells (askV zeroA) 38)).setRow w3.heap.size (askV zeroA) = w4 := by rw [hw4]; exact setRow_new _ _ _ _ _ rfl
  have CT := ntick_any w4 x.now
  have CC := nclear_any w4
  have CL := nlist_any w4
  clear hw4 F4 B4w hb3 CB k3
  go_wp2_with (first
    | ((with_reducible refine wl_gaK rfl ?_); refine wl_allocK rfl rfl ?_; try rw [sz_allocK])
    | (((with_reducible refine wl_gsK _ _ rfl ?_); refine wl_storeK rfl _ _ rfl w3.heap.size zeroA zeroA rfl rfl (heap_new _ _ _ rfl) _ SR ?_))
    | (go_at_call 14; refine CT.mono ?_; rintro e w5 ⟨rfl, h5⟩; have h5 := h5.symm; subst h5)
    | (go_at_call 17; refine CC.mono ?_; rintro e w5 ⟨rfl, h5⟩; have h5 := h5.symm; subst h5)
    | (go_at_call 19; refine CL.mono ?_; rintro e w5 ⟨rfl, h5⟩; have h5 := h5.symm; subst h5)
    | ((with_reducible refine wl_glK _ rfl ?_); refine wl_loadK rfl _ rfl w3.heap.size 0 rfl zeroA LD ?_)
    | ((with_reducible refine wl_gzK rfl ?_); refine wl_buildKg rfl rfl ?_))
  go_ret
  exact ⟨rfl, HB4.out⟩
end Go.Proofs.Ytagogbodkbbikaa
