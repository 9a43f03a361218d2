import Derived.Test.YtbgkbegdaepkfaaJ5
import Derived.Test.YtbgkbegdaepkfaaJ6
namespace Go.Proofs.Ytbgkbegdaepkfaa
open Go Go.RowKit
set_option maxRecDepth 20000

set_option maxHeartbeats 4000000 in
theorem npeek_any (w : World) (f t i : Int) : Calls Try.prog 19 #[.pointer none, .int .i64 f, .int .i64 t, .int .i64 i] w fun e w' => e = .returned (.tuple #[.string ⟨#[]⟩, .int .i64 2]) ∧ w' = w := by
  go_enter Try.func19, Try.ntmps19
  go_wp2_with fail
  go_ret2
  exact ⟨rfl, rfl⟩
set_option maxHeartbeats 4000000 in
theorem ntake_any (w : World) (f t i : Int) : Calls Try.prog 17 #[.pointer none, .int .i64 f, .int .i64 t, .int .i64 i] w fun e w' => e = .returned (.tuple #[.string ⟨#[]⟩, .int .i64 2]) ∧ w' = w := by
  have HP := npeek_any w f t i
  go_enter Try.func17, Try.ntmps17
  go_wp2_with (go_at_call 19; refine HP.mono ?_; rintro e w1 ⟨rfl, h1⟩; subst h1)
  go_ret2
  exact ⟨rfl, rfl⟩
set_option maxHeartbeats 4000000 in
theorem ntwice_any (w : World) (f t i : Int) : Calls Try.prog 18 #[.pointer none, .int .i64 f, .int .i64 t, .int .i64 i] w fun e w' => e = .returned (.int .i64 2) ∧ w' = w := by
  have HP := npeek_any w f t i
  go_enter Try.func18, Try.ntmps18
  go_wp2_with (go_at_call 19; refine HP.mono ?_; rintro e w1 ⟨rfl, h1⟩; subst h1)
  go_ret
  exact ⟨rfl, rfl⟩
set_option maxHeartbeats 4000000 in
theorem nsend_any (w : World) (f t : Int) (s : ByteArray) : Calls Try.prog 16 #[.pointer none, .int .i64 f, .int .i64 t, .string s] w fun e w' => e = .returned (.int .i64 2) ∧ w' = w := by
  go_enter Try.func16, Try.ntmps16
  go_wp2_with fail
  go_ret
  exact ⟨rfl, rfl⟩
set_option maxHeartbeats 4000000 in
theorem ncountN_any (w : World) (f t : Int) : Calls Try.prog 14 #[.pointer none, .int .i64 f, .int .i64 t] w fun e w' => e = .returned (.int .i64 0) ∧ w' = w := by
  go_enter Try.func14, Try.ntmps14
  go_wp2_with fail
  go_ret
  exact ⟨rfl, rfl⟩
set_option maxHeartbeats 4000000 in
theorem ntotal_any (w : World) : Calls Try.prog 13 #[.pointer none] w fun e w' => e = .returned (.int .i64 0) ∧ w' = w := by
  go_enter Try.func13, Try.ntmps13
  go_wp2_with fail
  go_ret
  exact ⟨rfl, rfl⟩
set_option maxHeartbeats 4000000 in
theorem noldest_any (w : World) : Calls Try.prog 11 #[.pointer none] w fun e w' => e = .returned (.tuple #[.int .i64 0, .int .i64 0, .bool false]) ∧ w' = w := by
  go_enter Try.func11, Try.ntmps11
  go_wp2_with fail
  go_ret3
  exact ⟨rfl, rfl⟩
set_option maxHeartbeats 16000000 in
theorem lawNNil_any (w : World) (x : ActN) :
    Calls Try.prog 6 #[.agg (actN x)] w fun e w' => e = .returned (.bool true) ∧ Below w.heap.size w w' := by
  obtain ⟨w0, hw0⟩ : ∃ w0, w0 = w.alloc (.cells (actN x) 33) := ⟨_, rfl⟩
  have B0 : Hid (Below w.heap.size w w0) := by show Below _ _ _; rw [hw0]; exact (Below.refl _ _).alloc (Nat.le_refl _) _
  have A0 : Hid (w0.heap[w.heap.size]? = some (.cells (actN x) 33 (0, 0))) := by show _ = _; rw [hw0]; exact heap_new _ _ _ rfl
  have HW := awake17_any w0
  have P1 : Hid (∀ W, Calls Try.prog 19 #[.pointer none, .int .i64 x.src, .int .i64 x.dst, .int .i64 x.pl] W fun e w' => e = .returned (.tuple #[.string ⟨#[]⟩, .int .i64 2]) ∧ w' = W) := fun W => npeek_any W _ _ _
  have P2 : Hid (∀ W, Calls Try.prog 17 #[.pointer none, .int .i64 x.src, .int .i64 x.dst, .int .i64 x.pl] W fun e w' => e = .returned (.tuple #[.string ⟨#[]⟩, .int .i64 2]) ∧ w' = W) := fun W => ntake_any W _ _ _
  have P3 : Hid (∀ W, Calls Try.prog 18 #[.pointer none, .int .i64 x.src, .int .i64 x.dst, .int .i64 x.pl] W fun e w' => e = .returned (.int .i64 2) ∧ w' = W) := fun W => ntwice_any W _ _ _
  have P4 : Hid (∀ W, Calls Try.prog 16 #[.pointer none, .int .i64 x.src, .int .i64 x.dst, .string x.data] W fun e w' => e = .returned (.int .i64 2) ∧ w' = W) := fun W => nsend_any W _ _ _
  have P5 : Hid (∀ W, Calls Try.prog 14 #[.pointer none, .int .i64 x.src, .int .i64 x.dst] W fun e w' => e = .returned (.int .i64 0) ∧ w' = W) := fun W => ncountN_any W _ _
  have P6 : Hid (∀ W, Calls Try.prog 13 #[.pointer none] W fun e w' => e = .returned (.int .i64 0) ∧ w' = W) := fun W => ntotal_any W
  have P7 : Hid (∀ W, Calls Try.prog 11 #[.pointer none] W fun e w' => e = .returned (.tuple #[.int .i64 0, .int .i64 0, .bool false]) ∧ w' = W) := fun W => noldest_any W
  rw [hw0] at HW
  go_enter Try.func6, Try.ntmps6
  go_wp2_with (go_at_call 7; refine HW.mono ?_; rintro e w1 ⟨rfl, hb1⟩; refine of_stopT ?_)
  unfold StopT
  rw [← hw0] at hb1
  have HB1 : Hid (Below w.heap.size w w1) := below_step B0.out B0.out.size hb1
  have A1 := (hb1.block w.heap.size (Array.getElem?_eq_some_iff.1 A0.out).1).trans A0.out
  have F1 := actfn_of (off := 0) A1 (fun j _ => by rw [Nat.zero_add])
  have k1 := F1.c1
  have k2 := F1.c2
  have k3 := F1.c3
  have k4 := F1.c4
  clear F1 A1 hb1 hw0 HW
  go_wp2_with (first
    | (go_at_call 19; refine (P1.out _).mono ?_; rintro e w2 ⟨rfl, h2⟩; obtain rfl := h2.symm)
    | (go_at_call 17; refine (P2.out _).mono ?_; rintro e w2 ⟨rfl, h2⟩; obtain rfl := h2.symm)
    | (go_at_call 18; refine (P3.out _).mono ?_; rintro e w2 ⟨rfl, h2⟩; obtain rfl := h2.symm)
    | (go_at_call 16; refine (P4.out _).mono ?_; rintro e w2 ⟨rfl, h2⟩; obtain rfl := h2.symm)
    | (go_at_call 14; refine (P5.out _).mono ?_; rintro e w2 ⟨rfl, h2⟩; obtain rfl := h2.symm)
    | (go_at_call 13; refine (P6.out _).mono ?_; rintro e w2 ⟨rfl, h2⟩; obtain rfl := h2.symm)
    | (go_at_call 11; refine (P7.out _).mono ?_; rintro e w2 ⟨rfl, h2⟩; obtain rfl := h2.symm))
  go_ret
  exact ⟨rfl, HB1.out⟩
end Go.Proofs.Ytbgkbegdaepkfaa
