import Derived.Test.YtplnlmkmaapbaaaDoorSpIn
namespace Go.Proofs.YtplnlmkmaapbaaaDoor
open Go Go.RowKit

theorem part_p0 (n b : Int) (w : World) : (part 3 (pv n b) 0).run Tryd.prog w = .ok (.int .i64 n) w := by
  have ha : ∀ w, (isAgg 3).run Tryd.prog w = .ok false w := fun w => by kernel_rfl
  simp [part, ha, Sem.run_bind]
theorem part_p1 (n b : Int) (w : World) : (part 3 (pv n b) 1).run Tryd.prog w = .ok (.int .i64 b) w := by
  have ha : ∀ w, (isAgg 3).run Tryd.prog w = .ok false w := fun w => by kernel_rfl
  simp [part, ha, Sem.run_bind]
theorem eqP (n b : Int) (w : World) : (Op.equalIn 10000 50 (.agg (pv n b)) (.agg (pv n b))).run Tryd.prog w = .ok true w := by
  have e : ∀ a : Int, ∀ w, (Op.equalIn 9999 3 (.int .i64 a) (.int .i64 a)).run Tryd.prog w = .ok true w := fun a w => by
    have := run_equalIn_int (P := Tryd.prog) w 9998 3 .i64 .i64 a a Tryd.underlying3
    simpa using this
  rw [show (10000 : Nat) = 9999 + 1 from rfl, run_equalIn_struct w 9999 50 _ _ (by kernel_rfl) (by kernel_rfl)]
  rw [show (Tryd.prog.fieldsOf 50).toList = [{ name := "Value", type := 3, offset := 0, embedded := false, tag := "", pkgPath := "", byteOffset := 0 }, { name := "Bits", type := 3, offset := 1, embedded := false, tag := "", pkgPath := "", byteOffset := 8 }] from by kernel_rfl]
  simp only [Op.eqFields, ne_eq, String.reduceEq, not_false_eq_true, if_true, Sem.run_bind, part_p0, Result.andThen_ok, e]
  simp [part_p1, e]
theorem egP (op : BinOp) (x y : Operand) (xs ys : Array Value) (w : World) : (eqGuard op 50 x y (.agg xs) (.agg ys)).run Tryd.prog w = .ok () w :=
  run_eqGuard_agg w op 50 x y xs ys (by kernel_rfl)

theorem ran_16 : ran 1 6 = [(1, 16), (2, 15), (4, 15), (6, 16)] := by
  rw [ran, show isR 1 6 = true by decide, if_pos rfl]
  exact rng_16
theorem ranE_16 : ranE 1 6 = 0 := by decide

set_option maxHeartbeats 400000 in
theorem awake_any (w : World) : Calls Tryd.prog 6 #[] w fun e w' => e = .returned (.bool true) ∧ Below w.heap.size w w' := by
  have R : Hid (∀ W, Calls Tryd.prog 19 #[.int .i64 1, .int .i64 6] W fun e w' => ∃ u, e = .returned (.tuple #[u, .int .i64 0]) ∧ w'.ownsRow W.heap.size 50 2 u 4 (pcells [(1, 16), (2, 15), (4, 15), (6, 16)]) ∧ Below W.heap.size W w') := fun W => by
    have := range_any 1 6 W
    rwa [ran_16, ranE_16] at this
  go_enter Tryd.func6, Tryd.ntmps6
  go_wp2_with fail
  refine (R.out _).mono ?_
  rintro e w1 ⟨u, rfl, hown, hb1⟩
  have hs := sp_of (P := [(1, 16), (2, 15), (4, 15), (6, 16)]) hown
  obtain ⟨o, cap, rfl, _, hcap⟩ := hs.slice
  obtain ⟨g, off, cur, t, fr, p1, rfl, hg, h1, hp1⟩ := hs.at 1 (by decide)
  obtain rfl : p1 = (2, 15) := by simpa using hp1.symm
  obtain ⟨g', off', cur', t', fr', p3, ho, hg', h3, hp3⟩ := hs.at 3 (by decide)
  obtain rfl : p3 = (6, 16) := by simpa using hp3.symm
  obtain ⟨rfl, rfl⟩ : g = g' ∧ off = off' := by simpa using ho
  rw [hg] at hg'
  obtain ⟨rfl, rfl, rfl⟩ : cur = cur' ∧ t = t' ∧ fr = fr' := by simpa using hg'
  have H1 : Hid (∀ j, j < 2 → cur[off + 2 + j]? = (pv 2 15)[j]?) := h1
  have H3 : Hid (∀ j, j < 2 → cur[off + 6 + j]? = (pv 6 16)[j]?) := h3
  have e1 := eqP 2 15
  have e3 := eqP 6 16
  have eg := egP
  clear hg' ho hp1 hp3 h1 h3 hs hown
  go_wp2_with (first
    | (refine wl_loadP rfl _ rfl g (off + 2) rfl cur t fr 2 15 hg H1.out ?_)
    | (refine wl_loadP rfl _ rfl g (off + 6) rfl cur t fr 6 16 hg H3.out ?_))
  go_ret
  exact ⟨rfl, hb1⟩
end Go.Proofs.YtplnlmkmaapbaaaDoor
