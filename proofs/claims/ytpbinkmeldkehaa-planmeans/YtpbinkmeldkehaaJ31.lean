import Derived.Test.YtpbinkmeldkehaaJ2
import Derived.Test.YtpbinkmeldkehaaJ4
import Derived.Test.YtpbinkmeldkehaaJ30
import Derived.Test.YtpbinkmeldkehaaJ22
import Derived.BigQuiet
import Derived.Test.YtpbinkmeldkehaaJ23
import Derived.Test.YtpbinkmeldkehaaJ20
namespace Go.Proofs.Ytpbinkmeldkehaa
open Go Go.RowKit
set_option maxRecDepth 20000

def zeroS : Slt := ⟨0, 0, 0, 0, (List.replicate 13 0, List.replicate 13 0), 0, 0, 0, 0, 0, 0⟩
def pad (L : List Int) : List Int := (List.range 13).map fun i => L.getD i 0
theorem pad_len (L : List Int) : (pad L).length = 13 := by simp [pad]
theorem pad_id {L : List Int} (h : L.length = 13) : pad L = L := by
  apply List.ext_getElem?
  intro k
  unfold pad
  rcases Nat.lt_or_ge k 13 with hk | hk
  · rw [List.getElem?_map, List.getElem?_range hk, Option.map_some, List.getElem?_eq_getElem (by omega), List.getD, List.getElem?_eq_getElem (by omega)]; rfl
  · rw [List.getElem?_eq_none (by simpa using hk), List.getElem?_eq_none (by omega)]
/-- A slot as it lies in memory. -/
def slotV (x : Slt) : Array Value :=
  #[.int .i64 x.bank, .int .i64 x.epoch, .int .i64 x.place, .int .i64 x.order] ++ cv (pad x.cube.1) (pad x.cube.2) ++ #[.int .i64 x.action, .int .i64 x.one, .int .i64 x.two, .int .i64 x.born, .int .i64 x.used, .int .i64 x.count]
theorem slotV_size (x : Slt) : (slotV x).size = 36 := by
  unfold slotV
  simp only [Array.size_append, cv_size _ _ (pad_len _) (pad_len _)]
  rfl
theorem slotV_one (x : Slt) : (slotV x).all (·.oneCell') = true := by
  unfold slotV
  rw [Array.all_append, Array.all_append, cv_one]
  simp [Value.oneCell']
theorem slotV_lo (x : Slt) (j : Nat) (hj : j < 4) : (slotV x)[j]? = #[Value.int .i64 x.bank, .int .i64 x.epoch, .int .i64 x.place, .int .i64 x.order][j]? := by
  unfold slotV
  rw [Array.getElem?_append_left (by simp only [Array.size_append, cv_size _ _ (pad_len _) (pad_len _)]; simp; omega), Array.getElem?_append_left (by simpa using hj)]
theorem slotV_cube (x : Slt) (j : Nat) (hj : j < 26) : (slotV x)[4 + j]? = (cv (pad x.cube.1) (pad x.cube.2))[j]? := by
  unfold slotV
  rw [Array.getElem?_append_left (by simp only [Array.size_append, cv_size _ _ (pad_len _) (pad_len _)]; simp; omega), Array.getElem?_append_right (by simp)]
  simp
theorem slotV_hi (x : Slt) (j : Nat) : (slotV x)[30 + j]? = #[Value.int .i64 x.action, .int .i64 x.one, .int .i64 x.two, .int .i64 x.born, .int .i64 x.used, .int .i64 x.count][j]? := by
  unfold slotV
  rw [Array.getElem?_append_right (by simp only [Array.size_append, cv_size _ _ (pad_len _) (pad_len _)]; simp)]
  simp only [Array.size_append, cv_size _ _ (pad_len _) (pad_len _)]
  congr 1
  simp
def SlotE : El := ⟨52, 49, 36, 112, slotV zeroS⟩
theorem zero_slot : slotV zeroS = #[.int .i64 0, .int .i64 0, .int .i64 0, .int .i64 0] ++ zeroC ++ #[.int .i64 0, .int .i64 0, .int .i64 0, .int .i64 0, .int .i64 0, .int .i64 0] := by
  unfold slotV zeroS
  simp only [pad_id (L := List.replicate 13 0) (by simp), zeroC_eq, Z_eq]
  rfl
theorem SlotOk : SlotE.Ok := ⟨Try.underlying49, ⟨_, Try.underlying52, rfl⟩, by
    show _ = some (some (Value.agg (slotV zeroS)), _, _)
    rw [zero_slot]; kernel_rfl, slotV_size _, by decide, by decide, by decide⟩
theorem slot_fits (x : Slt) : Fits SlotE (slotV x) := ⟨slotV_size x, slotV_one x⟩
/-- A slot's fields, from a place on. -/
structure SlF (w : World) (g off : Nat) (x : Slt) : Prop where
  c0 : w.cell? ⟨g, off, none⟩ = some (.int .i64 x.bank)
  c1 : w.cell? ⟨g, off + 1, none⟩ = some (.int .i64 x.epoch)
  c2 : w.cell? ⟨g, off + 2, none⟩ = some (.int .i64 x.place)
  c3 : w.cell? ⟨g, off + 3, none⟩ = some (.int .i64 x.order)
  c30 : w.cell? ⟨g, off + 30, none⟩ = some (.int .i64 x.action)
  c31 : w.cell? ⟨g, off + 31, none⟩ = some (.int .i64 x.one)
  c32 : w.cell? ⟨g, off + 32, none⟩ = some (.int .i64 x.two)
  c33 : w.cell? ⟨g, off + 33, none⟩ = some (.int .i64 x.born)
  c34 : w.cell? ⟨g, off + 34, none⟩ = some (.int .i64 x.used)
  c35 : w.cell? ⟨g, off + 35, none⟩ = some (.int .i64 x.count)
theorem SlF.below {w w' : World} {g off : Nat} {x : Slt} (h : SlF w g off x) (hb : w'.heap[g]? = w.heap[g]?) : SlF w' g off x := by
  have e : ∀ k, w'.cell? ⟨g, k, none⟩ = w.cell? ⟨g, k, none⟩ := fun k => World.cell?_of_block hb
  exact ⟨(e _).trans h.c0, (e _).trans h.c1, (e _).trans h.c2, (e _).trans h.c3, (e _).trans h.c30, (e _).trans h.c31, (e _).trans h.c32, (e _).trans h.c33, (e _).trans h.c34, (e _).trans h.c35⟩
def eqS (x y : Slt) : Bool := x.bank == y.bank && (x.epoch == y.epoch && (x.place == y.place && (x.order == y.order && ((pad x.cube.1 == pad y.cube.1 && pad x.cube.2 == pad y.cube.2) && (x.action == y.action && (x.one == y.one && (x.two == y.two && (x.born == y.born && (x.used == y.used && x.count == y.count)))))))))
theorem eqS_self (x : Slt) : eqS x x = true := by unfold eqS; simp

/-! Held against each other. -/
theorem eqCd (d : Nat) (V M V' M' : List Int) (hV : V.length = 13) (hM : M.length = 13) (hV' : V'.length = 13) (hM' : M'.length = 13) (w : World) :
    (Op.equalIn (d + 3) 42 (.agg (cv V M)) (.agg (cv V' M'))).run Try.prog w = .ok (V == V' && M == M') w := by
  have eH : ∀ A B : List Int, A.length = 13 → B.length = 13 → ∀ w, (Op.equalIn (d + 2) 38 (.agg (hv A)) (.agg (hv B))).run Try.prog w = .ok (A == B) w := fun A B hA hB w => by
    have z5 : (sizeOf 5).run Try.prog w = .ok 1 w := by kernel_rfl
    rw [show d + 2 = (d + 1) + 1 from rfl, Op.equalIn]
    simp only [Sem.run_bind, run_underlying Try.underlying38, Result.andThen_ok, z5]
    simp only [Std.Legacy.Range.forIn_eq_forIn_range', Std.Legacy.Range.size, Nat.sub_zero, Nat.add_sub_cancel, Nat.div_one]
    rw [← all_eq A B hA hB]
    exact loopN d A B hA hB w _ rfl rfl (List.range' 0 13) (fun i hi => by simp at hi; omega)
  rw [show d + 3 = (d + 2) + 1 from rfl, run_equalIn_struct w (d + 2) 42 _ _ (by kernel_rfl) (by kernel_rfl)]
  rw [show (Try.prog.fieldsOf 42).toList = [{ name := "Value", type := 38, offset := 0, embedded := false, tag := "", pkgPath := "", byteOffset := 0 }, { name := "Mask", type := 38, offset := 13, embedded := false, tag := "", pkgPath := "", byteOffset := 13 }] from by kernel_rfl]
  simp only [Op.eqFields, ne_eq, String.reduceEq, not_false_eq_true, if_true, Sem.run_bind]
  simp only [part_val V M hV, part_val V' M' hV', Result.andThen_ok, eH V V' hV hV']
  cases hA : (V == V')
  · simp
  · simp only [Bool.not_true, Bool.false_eq_true, if_false, Sem.run_bind, part_mask V M hV hM, part_mask V' M' hV' hM', Result.andThen_ok, eH M M' hM hM']
    cases hB : (M == M') <;> simp
theorem eqC9 (V M V' M' : List Int) (hV : V.length = 13) (hM : M.length = 13) (hV' : V'.length = 13) (hM' : M'.length = 13) (w : World) : (Op.equalIn 9999 42 (.agg (cv V M)) (.agg (cv V' M'))).run Try.prog w = .ok (V == V' && M == M') w := by
  rw [show (9999 : Nat) = 9996 + 3 from rfl]; exact eqCd 9996 V M V' M' hV hM hV' hM' w
theorem part_int {x : Slt} {j : Nat} {z : Int} (h : (slotV x)[j]? = some (.int .i64 z)) (w : World) : (part 3 (slotV x) j).run Try.prog w = .ok (.int .i64 z) w := by
  have hz : ∀ w, (sizeOf 3).run Try.prog w = .ok 1 w := fun w => by kernel_rfl
  have ha : ∀ w, (isAgg 3).run Try.prog w = .ok false w := fun w => by kernel_rfl
  simp [part, ha, h, Sem.run_bind]
theorem part_cube (x : Slt) (w : World) : (part 42 (slotV x) 4).run Try.prog w = .ok (.agg (cv (pad x.cube.1) (pad x.cube.2))) w := by
  have hz : ∀ w, (sizeOf 42).run Try.prog w = .ok 26 w := fun w => by kernel_rfl
  have ha : ∀ w, (isAgg 42).run Try.prog w = .ok true w := fun w => by kernel_rfl
  have e : (slotV x).extract 4 30 = cv (pad x.cube.1) (pad x.cube.2) := by
    apply Array.ext_getElem?
    intro k
    by_cases hk : k < 26
    · rw [Array.getElem?_extract, if_pos (by rw [slotV_size]; omega), slotV_cube x k hk]
    · rw [Array.getElem?_eq_none (by rw [Array.size_extract, slotV_size]; omega), Array.getElem?_eq_none (by rw [cv_size _ _ (pad_len _) (pad_len _)]; omega)]
  simp [part, ha, hz, Sem.run_bind, e]
theorem eqF_step {xs ys : Array Value} {f : Field} {fs : List Field} {u v : Value} {b : Bool} {w : World} (hn : (f.name ≠ "_") = True) (hx : (part f.type xs f.offset).run Try.prog w = .ok u w) (hy : (part f.type ys f.offset).run Try.prog w = .ok v w) (he : (Op.equalIn 9999 f.type u v).run Try.prog w = .ok b w) {r : Bool} (hr : (Op.eqFields 9999 xs ys fs).run Try.prog w = .ok r w) :
    (Op.eqFields 9999 xs ys (f :: fs)).run Try.prog w = .ok (b && r) w := by
  cases b
  · simp only [Op.eqFields, hn, if_true, Sem.run_bind, hx, hy, he, Result.andThen_ok, Bool.not_false, Sem.run_pure, Bool.false_and]
  · simp only [Op.eqFields, hn, if_true, Sem.run_bind, hx, hy, he, Result.andThen_ok, Bool.not_true, Bool.false_eq_true, if_false, hr, Bool.true_and]
theorem eqF_int (x y : Slt) (w : World) (n : String) (o q : Nat) (fs : List Field) (a b : Int) (hn : (n ≠ "_") = True) (hx : (slotV x)[o]? = some (.int .i64 a)) (hy : (slotV y)[o]? = some (.int .i64 b)) (r : Bool) (hr : (Op.eqFields 9999 (slotV x) (slotV y) fs).run Try.prog w = .ok r w) :
    (Op.eqFields 9999 (slotV x) (slotV y) ({ name := n, type := 3, offset := o, embedded := false, tag := "", pkgPath := "", byteOffset := q } :: fs)).run Try.prog w = .ok ((a == b) && r) w :=
  eqF_step (u := .int .i64 a) (v := .int .i64 b) (b := a == b) (f := { name := n, type := 3, offset := o, embedded := false, tag := "", pkgPath := "", byteOffset := q }) hn (part_int hx w) (part_int hy w) (run_equalIn_int w 9998 3 .i64 .i64 _ _ Try.underlying3) hr
theorem eqF_cube (x y : Slt) (w : World) (n : String) (q : Nat) (fs : List Field) (hn : (n ≠ "_") = True) (r : Bool) (hr : (Op.eqFields 9999 (slotV x) (slotV y) fs).run Try.prog w = .ok r w) :
    (Op.eqFields 9999 (slotV x) (slotV y) ({ name := n, type := 42, offset := 4, embedded := false, tag := "", pkgPath := "", byteOffset := q } :: fs)).run Try.prog w = .ok ((pad x.cube.1 == pad y.cube.1 && pad x.cube.2 == pad y.cube.2) && r) w :=
  eqF_step (u := .agg (cv (pad x.cube.1) (pad x.cube.2))) (v := .agg (cv (pad y.cube.1) (pad y.cube.2))) (f := { name := n, type := 42, offset := 4, embedded := false, tag := "", pkgPath := "", byteOffset := q }) hn (part_cube x w) (part_cube y w) (eqC9 _ _ _ _ (pad_len _) (pad_len _) (pad_len _) (pad_len _) w) hr
theorem eqSlot (x y : Slt) (w : World) : (Op.equalIn 10000 52 (.agg (slotV x)) (.agg (slotV y))).run Try.prog w = .ok (eqS x y) w := by
  have p0 : ∀ x : Slt, (slotV x)[0]? = some (.int .i64 x.bank) := fun x => (slotV_lo x 0 (by decide)).trans rfl
  have p1 : ∀ x : Slt, (slotV x)[1]? = some (.int .i64 x.epoch) := fun x => (slotV_lo x 1 (by decide)).trans rfl
  have p2 : ∀ x : Slt, (slotV x)[2]? = some (.int .i64 x.place) := fun x => (slotV_lo x 2 (by decide)).trans rfl
  have p3 : ∀ x : Slt, (slotV x)[3]? = some (.int .i64 x.order) := fun x => (slotV_lo x 3 (by decide)).trans rfl
  have p30 : ∀ x : Slt, (slotV x)[30]? = some (.int .i64 x.action) := fun x => (slotV_hi x 0).trans rfl
  have p31 : ∀ x : Slt, (slotV x)[31]? = some (.int .i64 x.one) := fun x => (slotV_hi x 1).trans rfl
  have p32 : ∀ x : Slt, (slotV x)[32]? = some (.int .i64 x.two) := fun x => (slotV_hi x 2).trans rfl
  have p33 : ∀ x : Slt, (slotV x)[33]? = some (.int .i64 x.born) := fun x => (slotV_hi x 3).trans rfl
  have p34 : ∀ x : Slt, (slotV x)[34]? = some (.int .i64 x.used) := fun x => (slotV_hi x 4).trans rfl
  have p35 : ∀ x : Slt, (slotV x)[35]? = some (.int .i64 x.count) := fun x => (slotV_hi x 5).trans rfl
  rw [show (10000 : Nat) = 9999 + 1 from rfl, run_equalIn_struct w 9999 52 _ _ (by kernel_rfl) (by kernel_rfl)]
  have ef : (Try.prog.fieldsOf 52).toList = [{ name := "Bank", type := 3, offset := 0, embedded := false, tag := "", pkgPath := "", byteOffset := 0 }, { name := "Epoch", type := 3, offset := 1, embedded := false, tag := "", pkgPath := "", byteOffset := 8 }, { name := "At", type := 3, offset := 2, embedded := false, tag := "", pkgPath := "", byteOffset := 16 }, { name := "Order", type := 3, offset := 3, embedded := false, tag := "", pkgPath := "", byteOffset := 24 }, { name := "Cube", type := 42, offset := 4, embedded := false, tag := "", pkgPath := "", byteOffset := 32 }, { name := "Action", type := 3, offset := 30, embedded := false, tag := "", pkgPath := "", byteOffset := 64 }, { name := "One", type := 3, offset := 31, embedded := false, tag := "", pkgPath := "", byteOffset := 72 }, { name := "Two", type := 3, offset := 32, embedded := false, tag := "", pkgPath := "", byteOffset := 80 }, { name := "Born", type := 3, offset := 33, embedded := false, tag := "", pkgPath := "", byteOffset := 88 }, { name := "Used", type := 3, offset := 34, embedded := false, tag := "", pkgPath := "", byteOffset := 96 }, { name := "Count", type := 3, offset := 35, embedded := false, tag := "", pkgPath := "", byteOffset := 104 }] := by kernel_rfl
  rw [ef]
  clear ef
  have h35 := eqF_int x y w "Count" 35 104 [] x.count y.count (by simp) (p35 x) (p35 y) true (by simp [Op.eqFields])
  have h34 := eqF_int x y w "Used" 34 96 _ x.used y.used (by simp) (p34 x) (p34 y) _ h35
  have h33 := eqF_int x y w "Born" 33 88 _ x.born y.born (by simp) (p33 x) (p33 y) _ h34
  have h32 := eqF_int x y w "Two" 32 80 _ x.two y.two (by simp) (p32 x) (p32 y) _ h33
  have h31 := eqF_int x y w "One" 31 72 _ x.one y.one (by simp) (p31 x) (p31 y) _ h32
  have h30 := eqF_int x y w "Action" 30 64 _ x.action y.action (by simp) (p30 x) (p30 y) _ h31
  have h4 := eqF_cube x y w "Cube" 32 _ (by simp) _ h30
  have h3 := eqF_int x y w "Order" 3 24 _ x.order y.order (by simp) (p3 x) (p3 y) _ h4
  have h2 := eqF_int x y w "At" 2 16 _ x.place y.place (by simp) (p2 x) (p2 y) _ h3
  have h1 := eqF_int x y w "Epoch" 1 8 _ x.epoch y.epoch (by simp) (p1 x) (p1 y) _ h2
  have h0 := eqF_int x y w "Bank" 0 0 _ x.bank y.bank (by simp) (p0 x) (p0 y) _ h1
  rw [Bool.and_true] at h0
  exact h0
theorem egS (op : BinOp) (x y : Operand) (xs ys : Array Value) (w : World) : (eqGuard op 52 x y (.agg xs) (.agg ys)).run Try.prog w = .ok () w :=
  run_eqGuard_agg w op 52 x y xs ys (by kernel_rfl)
end Go.Proofs.Ytpbinkmeldkehaa
namespace Go.Proofs.Ytpbinkmeldkehaa
open Go Go.RowKit
set_option maxRecDepth 20000

set_option maxHeartbeats 8000000 in
/-- Two lists alike. -/
theorem rsameT_any (C : List Slt) (va vb : Value) (w : World) (ha : GSl SlotE slotV w va C) (hb : GSl SlotE slotV w vb C) (hn : C.length ≤ 1000000) :
    Calls Try.prog 20 #[va, vb] w fun e w' => e = .returned (.bool true) ∧ Below w.heap.size w w' := by
  obtain ⟨o, cap, rfl, hc1, hc2⟩ := GSl.slice ha
  obtain ⟨o', cap', rfl, hc1', hc2'⟩ := GSl.slice hb
  obtain ⟨n, hn0⟩ : ∃ n, n = C.length := ⟨_, rfl⟩
  rw [← hn0] at ha hb hc1 hc1' hn ⊢
  have HA : Hid (GSl SlotE slotV w (.slice o n cap) C) := ha
  have HB' : Hid (GSl SlotE slotV w (.slice o' n cap') C) := hb
  unfold maxLen at hc2 hc2'
  clear ha hb hn0
  go_enter Try.func20, Try.ntmps20
  go_wp2_with fail
  go_loopw [5] (fun i wr => ∃ k : Nat, k ≤ n ∧ i = .int .i64 (k : Int) ∧ Hid (Below w.heap.size w wr)) (fun i _ => n - (intOf i).toNat)
  case atStart => exact ⟨0, Nat.zero_le _, rfl, Below.refl _ _⟩
  case round =>
    obtain ⟨k, hk, rfl, HB⟩ := hrel
    by_cases hlt : k < n
    · have hlt' : (k : Int) < (n : Int) := by omega
      obtain ⟨g, off, cur, ty, fr, x, rfl, hg, hcc, hxk⟩ := (GSl.below HA.out HB.out).at k hlt
      obtain ⟨g', off', cur', ty', fr', y, rfl, hg', hcc', hyk⟩ := (GSl.below HB'.out HB.out).at k hlt
      obtain rfl : x = y := by rw [hxk] at hyk; exact Option.some.inj hyk
      have K1 : Hid (wr.heap[g]? = some (.cells cur ty fr)) := hg
      have H1 : Hid (∀ j, j < 36 → cur[off + k * 36 + j]? = (slotV x)[j]?) := hcc
      have K2 : Hid (wr.heap[g']? = some (.cells cur' ty' fr')) := hg'
      have H2 : Hid (∀ j, j < 36 → cur'[off' + k * 36 + j]? = (slotV x)[j]?) := hcc'
      have E : ∀ W, (Op.equalIn 10000 52 (.agg (slotV x)) (.agg (slotV x))).run Try.prog W = .ok true W := fun W => by rw [eqSlot, eqS_self]
      have G := egS
      have ne1 := Later.ne wr
      clear hg hcc hg' hcc' hxk hyk
      go_wp2_with fail
      refine wp_region_later (by kernel_rfl) (by kernel_rfl) ?_
      go_big_quiet_step (rfl)
      go_big_quiet_step (rfl)
      go_big_quiet_step (rfl)
      refine qlE (E := SlotE) SlotOk rfl _ rfl g (off + k * 36) rfl cur ty fr (slotV x) (slotV_size x) (later_block K1.out) H1.out ?_
      simp only [Act.put, List.setIfInBounds_toArray, List.set_cons_succ, List.set_cons_zero]
      go_big_quiet_step (rfl)
      go_big_quiet_step (rfl)
      go_big_quiet_step (rfl)
      refine qlE (E := SlotE) SlotOk rfl _ rfl g' (off' + k * 36) rfl cur' ty' fr' (slotV x) (slotV_size x) (later_block K2.out) H2.out ?_
      simp only [Act.put, List.setIfInBounds_toArray, List.set_cons_succ, List.set_cons_zero]
      go_big_quiet_step (rfl)
      refine wpQuiet_nil ?_
      rintro w' ⟨u, rfl⟩
      go_wp2_with fail
      go_roundw
      case rel => exact ⟨k + 1, by omega, by go_num, HB.out.trans (u.below.mono HB.out.size)⟩
      case measure => simp [intOf]; omega
    · have hlt' : ¬ (k : Int) < (n : Int) := by omega
      go_wp2_with fail
      go_ret
      exact ⟨rfl, HB.out⟩
end Go.Proofs.Ytpbinkmeldkehaa
namespace Go.Proofs.Ytpbinkmeldkehaa
open Go Go.Lib Go.RowKit
set_option maxRecDepth 20000

/-! Leaves wherever they and their rules lie; items. -/
def LvR (w : World) (x : LeafM) (u : Value) : Prop := okL x ∧ RulesAt w u x.rules
theorem LvR.below : ∀ w w' x u, Below w.heap.size w w' → LvR w x u → LvR w' x u := fun _ _ _ _ hb h => ⟨h.1, GSl.below h.2 hb⟩
theorem LvR.slice {w : World} {x : LeafM} {u : Value} (h : LvR w x u) : ∃ o m, u = .slice o x.rules.length m := by
  obtain ⟨o, cap, e, _, _⟩ := GSl.slice h.2
  exact ⟨o, cap, e⟩
abbrev LeavesIn (w : World) (v : Value) (C : List LeafM) : Prop := NSl LeafE leafV LvR w v C
theorem leaves_in {B : Nat} {w : World} {v : Value} {C : List LeafM} (h : LeavesAt B w v C) : LeavesIn w v C := by
  obtain ⟨P, h1, h2, h3⟩ := h
  exact ⟨P, h1, h2, fun p hp => ⟨(h3 p hp).1, (h3 p hp).rules⟩⟩
def hasN (x : LeafM) (n : Int) : Bool := x.one == n || x.two == n
def rulesN (C : List LeafM) (n : Int) : List RuleM := C.flatMap fun x => if hasN x n then x.rules else []
theorem rulesN_take {C : List LeafM} {k : Nat} {x : LeafM} (n : Int) (h : C[k]? = some x) : rulesN (C.take (k + 1)) n = rulesN (C.take k) n ++ if hasN x n then x.rules else [] := by
  unfold rulesN
  rw [List.take_add_one, h, List.flatMap_append]
  simp
def partS (i : Nat) (x : LeafM) : Slt := ⟨3, 0, (i : Int), 0, x.cube, 0, x.one, x.two, 0, 0, 0⟩
def ruleS (i : Nat) (r : RuleM) : Slt := ⟨2, 0, (i : Int), r.order, r.cube, r.action, 0, 0, 0, 0, 0⟩
def seqS (C : List LeafM) (R : List RuleM) : List Slt := C.mapIdx partS ++ R.mapIdx fun i r => ruleS (C.length + i) r
def itemsT (C : List LeafM) (n : Int) : List Slt := seqS C (rulesN C n)
theorem seqS_len (C : List LeafM) (R : List RuleM) : (seqS C R).length = C.length + R.length := by simp [seqS]
theorem seqS_snoc (C : List LeafM) (R : List RuleM) (r : RuleM) : seqS C (R ++ [r]) = seqS C R ++ [ruleS (seqS C R).length r] := by
  rw [seqS_len]
  unfold seqS
  rw [List.mapIdx_append, List.append_assoc]
  simp
theorem seqS_part {C : List LeafM} {k : Nat} {x : LeafM} (h : C[k]? = some x) : seqS (C.take (k + 1)) [] = seqS (C.take k) [] ++ [partS (seqS (C.take k) []).length x] := by
  have hk : k < C.length := (List.getElem?_eq_some_iff.1 h).1
  rw [seqS_len]
  unfold seqS
  rw [List.take_add_one, h]
  simp only [Option.toList_some, List.mapIdx_append, List.mapIdx_cons, List.mapIdx_nil, List.append_nil]
  simp
set_option maxRecDepth 100000 in
theorem build_part (V M : List Int) (hV : V.length = 13) (hM : M.length = 13) (i a b : Int) (W : World) : (Instr.build 52 #[(0, .int .i64 3), (2, .int .i64 i), (4, .agg (cv V M)), (6, .int .i64 a), (7, .int .i64 b)]).run Try.prog W = .ok (.agg (slotV ⟨3, 0, i, 0, (V, M), 0, a, b, 0, 0, 0⟩)) W := by
  obtain ⟨a0, a1, a2, a3, a4, a5, a6, a7, a8, a9, a10, a11, a12, rfl⟩ := list13 hV
  obtain ⟨b0, b1, b2, b3, b4, b5, b6, b7, b8, b9, b10, b11, b12, rfl⟩ := list13 hM
  kernel_rfl
set_option maxRecDepth 100000 in
theorem build_rule14 (V M : List Int) (hV : V.length = 13) (hM : M.length = 13) (i o a : Int) (W : World) : (Instr.build 52 #[(0, .int .i64 2), (2, .int .i64 i), (3, .int .i64 o), (4, .agg (cv V M)), (5, .int .i64 a)]).run Try.prog W = .ok (.agg (slotV ⟨2, 0, i, o, (V, M), a, 0, 0, 0, 0, 0⟩)) W := by
  obtain ⟨a0, a1, a2, a3, a4, a5, a6, a7, a8, a9, a10, a11, a12, rfl⟩ := list13 hV
  obtain ⟨b0, b1, b2, b3, b4, b5, b6, b7, b8, b9, b10, b11, b12, rfl⟩ := list13 hM
  kernel_rfl
theorem wl_gB14 {P : Program} {ops : Array Oper} {Q : Exit → Act → World → Prop} {o : Oper} {rest : List Oper} {a : Act} {w : World} (ps : Array (Nat × Operand)) (_ : o.op = .build 52 ps) (h : wpList P ops Q (o :: rest) a w) : wpList P ops Q (o :: rest) a w := h
theorem wl_gBS14 {P : Program} {ops : Array Oper} {Q : Exit → Act → World → Prop} {o : Oper} {rest : List Oper} {a : Act} {w : World} (x : Operand) (_ : o.op = .buildSlice 49 1 #[(0, x)]) (h : wpList P ops Q (o :: rest) a w) : wpList P ops Q (o :: rest) a w := h
theorem wl_gL14 {P : Program} {ops : Array Oper} {Q : Exit → Act → World → Prop} {o : Oper} {rest : List Oper} {a : Act} {w : World} (x : Operand) (_ : o.op = .load 48 x) (h : wpList P ops Q (o :: rest) a w) : wpList P ops Q (o :: rest) a w := h
theorem wl_gSL14 {P : Program} {ops : Array Oper} {Q : Exit → Act → World → Prop} {o : Oper} {rest : List Oper} {a : Act} {w : World} (x y : Operand) (_ : o.op = .store 48 x y) (h : wpList P ops Q (o :: rest) a w) : wpList P ops Q (o :: rest) a w := h
def SlotsOwn (B : Nat) (w : World) (v : Value) (L : List Slt) : Prop := w.ownsRow B 52 36 v L.length (gcells slotV L)
theorem SlotsOwn.at_ {B : Nat} {w : World} {v : Value} {L : List Slt} (h : SlotsOwn B w v L) : GSl SlotE slotV w v L := gsl_of (E := SlotE) h fun c _ => slotV_size c
theorem SlotsOwn.below {B : Nat} {w w' : World} {v : Value} {L : List Slt} (h : SlotsOwn B w v L) (hb : Below w.heap.size w w') : SlotsOwn B w' v L := gown_below h hb
theorem SlotsOwn.slice {B : Nat} {w : World} {v : Value} {L : List Slt} (h : SlotsOwn B w v L) : ∃ o cap, v = .slice o L.length cap := gown_slice h
set_option maxHeartbeats 2000000 in
theorem has14_any (x : LeafM) (hx : okL x) (u : Value) (n : Int) (w : World) : Calls Try.prog 34 #[.agg (leafV x u), .int .i64 n] w fun e w' => e = .returned (.bool (hasN x n)) ∧ Below w.heap.size w w' := by
  have hg : (w.alloc (.cells (leafV x u) 48)).heap[w.heap.size]? = some (.cells (leafV x u) 48 (0, 0)) := heap_new _ _ _ rfl
  have c26 := (cell_of_row _ _ 26 _ _ _ hg).trans (leaf_at hx u).2.1
  have c27 := (cell_of_row _ _ 27 _ _ _ hg).trans (leaf_at hx u).2.2.1
  have BA : Hid (Below w.heap.size w (w.alloc (.cells (leafV x u) 48))) := (Below.refl _ _).alloc (Nat.le_refl _) _
  obtain ⟨r, hr⟩ : ∃ r, r = hasN x n := ⟨_, rfl⟩
  rw [← hr]
  have HR : Hid (r = (x.one == n || x.two == n)) := hr
  clear hg hr
  generalize x.one = p at c26 HR
  generalize x.two = q at c27 HR
  by_cases h1 : p = n
  · have h1' : (p == n) = true := by simpa using h1
    have HR2 : Hid (r = true) := by show _ = _; rw [HR.out, h1']; rfl
    go_enter Try.func34, Try.ntmps34
    go_wp2_with fail
    go_ret
    exact ⟨by rw [HR2.out]; rfl, BA.out⟩
  · have h1' : (p == n) = false := by simpa using h1
    have HR2 : Hid (r = (q == n)) := by show _ = _; rw [HR.out, h1']; rfl
    go_enter Try.func34, Try.ntmps34
    go_wp2_with fail
    go_ret
    exact ⟨by rw [HR2.out]; rfl, BA.out⟩
end Go.Proofs.Ytpbinkmeldkehaa
namespace Go.Proofs.Ytpbinkmeldkehaa
open Go Go.Lib Go.RowKit
set_option maxRecDepth 20000

theorem rulesN_len (C : List LeafM) (n : Int) (N : Nat) (h : ∀ x ∈ C, x.rules.length ≤ N) : (rulesN C n).length ≤ C.length * N := by
  induction C with
  | nil => exact Nat.zero_le _
  | cons x C ih =>
    have h1 := h x (by simp)
    have h2 := ih fun y hy => h y (by simp [hy])
    unfold rulesN at h2 ⊢
    rw [List.flatMap_cons, List.length_append, List.length_cons, Nat.add_mul, Nat.one_mul]
    have : (if hasN x n then x.rules else []).length ≤ N := by split <;> simp_all
    omega
set_option maxHeartbeats 16000000 in
set_option maxRecDepth 100000 in
theorem items_any (C : List LeafM) (hn1 : C.length ≤ 1000) (hr1 : ∀ x ∈ C, x.rules.length ≤ 500) (n0 : Int) (vc : Value) (w : World) (hc : LeavesIn w vc C) :
    Calls Try.prog 19 #[vc, .int .i64 n0] w fun e w' => (∃ v, e = .returned v ∧ SlotsOwn w.heap.size w' v (itemsT C n0)) ∧ Below w.heap.size w w' := by
  have HS : Hid (∀ (x : LeafM) (u : Value) W, okL x → Calls Try.prog 34 #[.agg (leafV x u), .int .i64 n0] W fun e w' => e = .returned (.bool (hasN x n0)) ∧ Below W.heap.size W w') := fun x u W h => has14_any x h u n0 W
  obtain ⟨oc, capc, rfl, hc1, hc2⟩ := NSl.slice hc
  obtain ⟨n, hn0⟩ : ∃ n, n = C.length := ⟨_, rfl⟩
  have HN : Hid (n = C.length) := hn0
  rw [← hn0] at hc hc1 hn1 ⊢
  have HC : Hid (LeavesIn w (.slice oc n capc) C) := hc
  have HR1 : Hid (∀ x ∈ C, x.rules.length ≤ 500) := hr1
  have HRN : Hid (∀ k, (rulesN (C.take k) n0).length ≤ 500000) := fun k => by
    have h1 := rulesN_len (C.take k) n0 500 (fun x hx => hr1 x (List.mem_of_mem_take hx))
    have h2 : (C.take k).length ≤ 1000 := by rw [List.length_take]; omega
    have h3 := Nat.mul_le_mul_right 500 h2
    omega
  unfold maxLen at hc2
  clear hc hr1 hn0
  go_enter Try.func19, Try.ntmps19
  go_wp2_with fail
  go_loopw [5, 14] (fun v i wr => ∃ k : Nat, k ≤ n ∧ i = .int .i64 (k : Int) ∧ Hid (SlotsOwn w.heap.size wr v (seqS (C.take k) [])) ∧ Hid (Below w.heap.size w wr)) (fun _ i _ => n - (intOf i).toNat)
  case atStart => exact ⟨0, Nat.zero_le _, rfl, World.ownsRow_nil _ _ _ _, Below.refl _ _⟩
  case round =>
    obtain ⟨k, hk, rfl, HO, HB⟩ := hrel
    by_cases hlt : k < n
    · have hlt' : (k : Int) < (n : Int) := by omega
      obtain ⟨g, off, cur, ty, fr, x, u, rfl, hg, hc, hxk, hxu⟩ := (NSl.below LvR.below HC.out HB.out).at k hlt
      obtain ⟨o2, cap2, rfl⟩ := hxu.slice
      have hfit := leaf_fits hxu.1 (u := .slice o2 x.rules.length cap2) ⟨_, _, _, rfl⟩
      have hsz := leafV_size hxu.1 (.slice o2 x.rules.length cap2)
      have HT : Hid (seqS (C.take (k + 1)) [] = seqS (C.take k) [] ++ [partS (seqS (C.take k) []).length x]) := seqS_part hxk
      have K1 : Hid (wr.heap[g]? = some (.cells cur ty fr)) := hg
      have H1 : Hid (∀ j, j < 29 → cur[off + k * 29 + j]? = (leafV x (.slice o2 x.rules.length cap2))[j]?) := hc
      obtain ⟨w1, hw1⟩ : ∃ w1, w1 = wr.alloc (.cells (leafV x (.slice o2 x.rules.length cap2)) 48) := ⟨_, rfl⟩
      obtain ⟨q, hq⟩ : ∃ q, q = wr.heap.size := ⟨_, rfl⟩
      have g1 : Hid (w1.heap[q]? = some (.cells (leafV x (.slice o2 x.rules.length cap2)) 48 (0, 0))) := by show _ = _; rw [hw1, hq]; exact heap_new _ _ _ rfl
      have b1 : Below wr.heap.size wr w1 := by rw [hw1]; exact (Below.refl _ _).alloc (Nat.le_refl _) _
      have B1 : Hid (Below w.heap.size w w1) := HB.out.trans (b1.mono HB.out.size)
      have O1 : Hid (SlotsOwn w.heap.size w1 u5 (seqS (C.take k) [])) := HO.out.below b1
      obtain ⟨o5, cap5, rfl⟩ := HO.out.slice
      have c26 := (cell_of_row _ _ 26 _ _ _ g1.out).trans (leaf_at hxu.1 (.slice o2 x.rules.length cap2)).2.1
      have c27 := (cell_of_row _ _ 27 _ _ _ g1.out).trans (leaf_at hxu.1 (.slice o2 x.rules.length cap2)).2.2.1
      have H2 : Hid (∀ j, j < 26 → (leafV x (.slice o2 x.rules.length cap2))[0 + j]? = (cv x.cube.1 x.cube.2)[j]?) := fun j hj => by rw [Nat.zero_add]; exact (leaf_at hxu.1 _).1 j hj
      have hV := hxu.1.1.1
      have hM := hxu.1.2.1.1
      have hlen : (seqS (C.take k) []).length ≤ 1000000 := by rw [seqS_len, List.length_take]; simp; omega
      have BP := fun W => build_part x.cube.1 x.cube.2 hV hM ((seqS (C.take k) []).length : Int) x.one x.two W
      have EP : Hid ((⟨3, 0, ((seqS (C.take k) []).length : Int), 0, (x.cube.1, x.cube.2), 0, x.one, x.two, 0, 0, 0⟩ : Slt) = partS (seqS (C.take k) []).length x) := rfl
      clear hg hc hxk hxu b1 HO HB
      go_wp2_with (first | ((with_reducible refine wl_gL14 _ rfl ?_); refine wl_loadE (E := LeafE) LeafOk rfl _ rfl g (off + k * 29) rfl cur ty fr (leafV x (.slice o2 x.rules.length cap2)) hsz K1.out H1.out ?_) | ((with_reducible refine wl_gSL14 _ _ rfl ?_); refine wl_storeE (E := LeafE) LeafOk rfl _ _ rfl wr.heap.size (leafV x (.slice o2 x.rules.length cap2)) hfit rfl rfl _ (heap_new _ _ _ rfl) rfl _ (setRow_new _ _ _ _ _ rfl) ?_; refine of_stopT ?_))
      unfold StopT
      rw [← hw1, ← hq]
      clear hw1 hq K1 H1 hfit hsz
      obtain ⟨w2, hw2⟩ : ∃ w2, w2 = w1.alloc (.cells (slotV (partS (seqS (C.take k) []).length x)) SlotE.elem) := ⟨_, rfl⟩
      obtain ⟨q2, hq2⟩ : ∃ q, q = w1.heap.size := ⟨_, rfl⟩
      have b2 : Below w1.heap.size w1 w2 := by rw [hw2]; exact (Below.refl _ _).alloc (Nat.le_refl _) _
      have B2 : Hid (Below w.heap.size w w2) := B1.out.trans (b2.mono B1.out.size)
      have O2 : Hid (SlotsOwn w.heap.size w2 (.slice o5 (seqS (C.take k) []).length cap5) (seqS (C.take k) [])) := O1.out.below b2
      have G2 : Hid (w2.heap[q2]? = some (.cells (slotV (partS (seqS (C.take k) []).length x)) SlotE.elem (0, 0))) := by show _ = _; rw [hw2, hq2]; exact heap_new _ _ _ rfl
      clear b2 B1 O1
      go_wp2_with (first | ((with_reducible refine wl_gC12 _ rfl ?_); refine wl_loadCw rfl _ rfl q 0 rfl _ _ _ x.cube.1 x.cube.2 hV hM g1.out H2.out ?_) | ((with_reducible refine wl_gB14 _ rfl ?_); refine wl_buildAny rfl _ _ rfl #[(0, .int .i64 3), (2, .int .i64 ((seqS (C.take k) []).length : Int)), (4, .agg (cv x.cube.1 x.cube.2)), (6, .int .i64 x.one), (7, .int .i64 x.two)] (by simp only [List.map_toArray, List.map_cons, List.map_nil]; rfl) (.agg (slotV (partS (seqS (C.take k) []).length x))) (BP _) ?_) | ((with_reducible refine wl_gBS14 _ rfl ?_); refine wl_buildE (E := SlotE) SlotOk rfl _ rfl (slotV (partS (seqS (C.take k) []).length x)) (slotV_size _) rfl ?_) | (at_builtin; refine of_stopT ?_))
      unfold StopT
      rw [← hw2, ← hq2]
      clear hw2 hq2 c26 c27 H2 BP EP g1
      refine wl_appendE (E := SlotE) SlotOk slotV rfl _ _ rfl w.heap.size (.slice o5 (seqS (C.take k) []).length cap5) (seqS (C.take k) []) (partS (seqS (C.take k) []).length x) (slot_fits _) rfl O2.out q2 1 rfl G2.out hlen B2.out.size ?_
      intro v3 w3 ho3 hg3 hb3
      have O3 : Hid (SlotsOwn w.heap.size w3 v3 (seqS (C.take (k + 1)) [])) := by show SlotsOwn _ _ _ _; rw [HT.out]; exact ho3
      have B3 : Hid (Below w.heap.size w w3) := B2.out.grown hg3 B2.out.size fun j hj => (World.ownsRow.lt O2.out j hj).1
      clear ho3 hg3 hb3 O2 B2 G2 HT hlen
      simp only [Act.put, List.setIfInBounds_toArray, List.set_cons_succ, List.set_cons_zero]
      go_wp2_with fail
      go_roundw
      case rel => exact ⟨k + 1, by omega, by go_num, O3, B3⟩
      case measure => simp [intOf]; omega
    · have hlt' : ¬ (k : Int) < (n : Int) := by omega
      obtain rfl : n = k := by omega
      obtain ⟨wm, hwm⟩ : ∃ wm : World, wm = wr := ⟨_, rfl⟩
      rw [← hwm] at HO HB ⊢
      clear hwm
      have HO : Hid (SlotsOwn w.heap.size wm u5 (seqS C [])) := by
        have h := HO.out
        rw [HN.out, List.take_length] at h
        exact h
      go_wp2_with fail
      go_loopw [5, 33] (fun v i wr => ∃ k : Nat, k ≤ n ∧ i = .int .i64 (k : Int) ∧ Hid (SlotsOwn w.heap.size wr v (seqS C (rulesN (C.take k) n0))) ∧ Hid (Below w.heap.size w wr)) (fun _ i _ => n - (intOf i).toNat)
      case atStart => exact ⟨0, Nat.zero_le _, rfl, HO, HB⟩
      case round =>
        clear HO HB
        obtain ⟨k, hk, rfl, HO, HB⟩ := hrel
        by_cases hlt : k < n
        · have hlt' : (k : Int) < (n : Int) := by omega
          obtain ⟨g, off, cur, ty, fr, x, u, rfl, hg0, hc, hxk, hxu⟩ := NSl.at HC.out k hlt
          have hg := (HB.out.block g (Array.getElem?_eq_some_iff.1 hg0).1).trans hg0
          obtain ⟨o2, cap2, rfl⟩ := hxu.slice
          have hfit := leaf_fits hxu.1 (u := .slice o2 x.rules.length cap2) ⟨_, _, _, rfl⟩
          have hsz := leafV_size hxu.1 (.slice o2 x.rules.length cap2)
          have HT : Hid (rulesN (C.take (k + 1)) n0 = rulesN (C.take k) n0 ++ if hasN x n0 then x.rules else []) := rulesN_take n0 hxk
          have K1 : Hid (wr.heap[g]? = some (.cells cur ty fr)) := hg
          have H1 : Hid (∀ j, j < 29 → cur[off + k * 29 + j]? = (leafV x (.slice o2 x.rules.length cap2))[j]?) := hc
          obtain ⟨w1, hw1⟩ : ∃ w1, w1 = wr.alloc (.cells (leafV x (.slice o2 x.rules.length cap2)) 48) := ⟨_, rfl⟩
          obtain ⟨q, hq⟩ : ∃ q, q = wr.heap.size := ⟨_, rfl⟩
          have g1 : Hid (w1.heap[q]? = some (.cells (leafV x (.slice o2 x.rules.length cap2)) 48 (0, 0))) := by show _ = _; rw [hw1, hq]; exact heap_new _ _ _ rfl
          have b1 : Below wr.heap.size wr w1 := by rw [hw1]; exact (Below.refl _ _).alloc (Nat.le_refl _) _
          have B1 : Hid (Below w.heap.size w w1) := HB.out.trans (b1.mono HB.out.size)
          have O1 : Hid (SlotsOwn w.heap.size w1 u5 (seqS C (rulesN (C.take k) n0))) := HO.out.below b1
          have R2 : Hid (RulesAt w (.slice o2 x.rules.length cap2) x.rules) := hxu.2
          have HX : Hid (okL x) := hxu.1
          have hrl : x.rules.length ≤ 500 := HR1.out x (List.mem_of_getElem? hxk)
          have hrn := HRN.out k
          clear hg hg0 hc hxk hxu b1 HO HB
          go_wp2_with (first | ((with_reducible refine wl_gL14 _ rfl ?_); refine wl_loadE (E := LeafE) LeafOk rfl _ rfl g (off + k * 29) rfl cur ty fr (leafV x (.slice o2 x.rules.length cap2)) hsz K1.out H1.out ?_) | ((with_reducible refine wl_gSL14 _ _ rfl ?_); refine wl_storeE (E := LeafE) LeafOk rfl _ _ rfl wr.heap.size (leafV x (.slice o2 x.rules.length cap2)) hfit rfl rfl _ (heap_new _ _ _ rfl) rfl _ (setRow_new _ _ _ _ _ rfl) ?_; refine of_stopT ?_))
          unfold StopT
          rw [← hw1, ← hq]
          clear hw1 hq K1 H1 hfit
          go_wp2_with ((with_reducible refine wl_gL14 _ rfl ?_); refine wl_loadE (E := LeafE) LeafOk rfl _ rfl q 0 rfl _ _ _ (leafV x (.slice o2 x.rules.length cap2)) hsz g1.out (own_cells _ _) ?_)
          refine (HS.out x _ _ HX.out).mono ?_
          rintro e w2 ⟨rfl, hb2⟩
          have B2 : Hid (Below w.heap.size w w2) := B1.out.trans (hb2.mono B1.out.size)
          have O2 : Hid (SlotsOwn w.heap.size w2 u5 (seqS C (rulesN (C.take k) n0))) := O1.out.below hb2
          have c28 := (cell_of_row _ _ 28 _ _ _ ((hb2.block _ (Array.getElem?_eq_some_iff.1 g1.out).1).trans g1.out)).trans (leaf_at HX.out (.slice o2 x.rules.length cap2)).2.2.2
          clear hb2 B1 O1 g1 hsz
          cases hh : hasN x n0 with
          | false =>
            have O3 : Hid (SlotsOwn w.heap.size w2 u5 (seqS C (rulesN (C.take (k + 1)) n0))) := by
              show SlotsOwn _ _ _ _
              rw [HT.out, hh, if_neg (by simp), List.append_nil]
              exact O2.out
            clear hh HT
            go_wp2_with fail
            go_roundw
            case rel => exact ⟨k + 1, by omega, by go_num, O3, B2⟩
            case measure => simp [intOf]; omega
          | true =>
            have HT : Hid (rulesN (C.take (k + 1)) n0 = rulesN (C.take k) n0 ++ x.rules) := by show _ = _; rw [HT.out, hh, if_pos rfl]
            clear hh
            have HOK : Hid (∀ r ∈ x.rules, okR8 r) := HX.out.2.2
            obtain ⟨rl, hrlE⟩ : ∃ rl, rl = x.rules := ⟨_, rfl⟩
            rw [← hrlE] at HT HOK R2 hrl c28 ⊢
            obtain ⟨m, hm⟩ : ∃ m, m = rl.length := ⟨_, rfl⟩
            have HM : Hid (m = rl.length) := hm
            rw [← hm] at R2 hrl c28 ⊢
            obtain ⟨base, hbase⟩ : ∃ base, base = rulesN (C.take k) n0 := ⟨_, rfl⟩
            rw [← hbase] at HT O2 hrn
            clear hrlE hm hbase
            obtain ⟨wi, hwi⟩ : ∃ wi : World, wi = w2 := ⟨_, rfl⟩
            obtain ⟨_, _, e2, hcm1, hcm2⟩ := GSl.slice R2.out
            simp only [Value.slice.injEq] at e2
            obtain ⟨rfl, -, rfl⟩ := e2
            unfold maxLen at hcm2
            rw [← HM.out] at hcm1
            go_wp2_with fail
            go_loopw [5, 44] (fun v i wr => ∃ j : Nat, j ≤ m ∧ i = .int .i64 (j : Int) ∧ Hid (SlotsOwn w.heap.size wr v (seqS C (base ++ rl.take j))) ∧ Hid (Below w.heap.size w wr)) (fun _ i _ => m - (intOf i).toNat)
            case atStart => exact ⟨0, Nat.zero_le _, rfl, by show SlotsOwn _ _ _ _; rw [List.take_zero, List.append_nil]; exact O2.out, B2⟩
            case round =>
              clear O2 B2 c28
              obtain ⟨j, hj, rfl, OX, BX⟩ := hrel
              by_cases hlt2 : j < m
              · have hlt2' : (j : Int) < (m : Int) := by omega
                obtain ⟨g3, off3, cur3, ty3, fr3, r, rfl, hg3, hc3, hrj⟩ := GSl.at (GSl.below R2.out BX.out) j hlt2
                have hok := HOK.out r (List.mem_of_getElem? hrj)
                have hV := hok.1.1
                have hM := hok.2.1
                have hfit := rule_fits hok
                have hsz := ruleV_size hok
                have RT : Hid (rl.take (j + 1) = rl.take j ++ [r]) := by show _ = _; rw [List.take_add_one, hrj]; rfl
                have K3 : Hid (wr.heap[g3]? = some (.cells cur3 ty3 fr3)) := hg3
                have H3 : Hid (∀ i, i < 28 → cur3[off3 + j * 28 + i]? = (ruleV r)[i]?) := hc3
                obtain ⟨w3, hw3⟩ : ∃ w3, w3 = wr.alloc (.cells (ruleV r) 44) := ⟨_, rfl⟩
                obtain ⟨q3, hq3⟩ : ∃ q, q = wr.heap.size := ⟨_, rfl⟩
                have g4 : Hid (w3.heap[q3]? = some (.cells (ruleV r) 44 (0, 0))) := by show _ = _; rw [hw3, hq3]; exact heap_new _ _ _ rfl
                have b3 : Below wr.heap.size wr w3 := by rw [hw3]; exact (Below.refl _ _).alloc (Nat.le_refl _) _
                have B3 : Hid (Below w.heap.size w w3) := BX.out.trans (b3.mono BX.out.size)
                have O3 : Hid (SlotsOwn w.heap.size w3 u5 (seqS C (base ++ rl.take j))) := OX.out.below b3
                obtain ⟨o5, cap5, rfl⟩ := OX.out.slice
                have d0 := (cell_of_row _ _ 0 _ _ _ g4.out).trans (rule_at hok).1
                have d27 := (cell_of_row _ _ 27 _ _ _ g4.out).trans (rule_at hok).2.2
                have H4 : Hid (∀ i, i < 26 → (ruleV r)[1 + i]? = (cv r.cube.1 r.cube.2)[i]?) := fun i hi => (rule_at hok).2.1 i hi
                obtain ⟨L, hL⟩ : ∃ L, L = seqS C (base ++ rl.take j) := ⟨_, rfl⟩
                have HSN : Hid (seqS C (base ++ rl.take (j + 1)) = L ++ [ruleS L.length r]) := by show _ = _; rw [hL, RT.out, ← List.append_assoc, seqS_snoc]
                have hlen : L.length ≤ 1000000 := by
                  rw [hL, seqS_len, List.length_append, List.length_take]
                  have := HN.out
                  omega
                rw [← hL] at O3 ⊢
                have BP := fun W => build_rule14 r.cube.1 r.cube.2 hV hM (L.length : Int) r.order r.action W
                clear hg3 hc3 hrj b3 OX BX hL
                go_wp2_with (first | ((with_reducible refine wl_gR12 _ rfl ?_); refine wl_loadE (E := RuleE) RuleOk rfl _ rfl g3 (off3 + j * 28) rfl cur3 ty3 fr3 (ruleV r) hsz K3.out H3.out ?_) | ((with_reducible refine wl_gSR12 _ _ rfl ?_); refine wl_storeE (E := RuleE) RuleOk rfl _ _ rfl wr.heap.size (ruleV r) hfit rfl rfl _ (heap_new _ _ _ rfl) rfl _ (setRow_new _ _ _ _ _ rfl) ?_; refine of_stopT ?_))
                unfold StopT
                rw [← hw3, ← hq3]
                clear hw3 hq3 K3 H3 hfit hsz
                obtain ⟨w4, hw4⟩ : ∃ w4, w4 = w3.alloc (.cells (slotV (ruleS L.length r)) SlotE.elem) := ⟨_, rfl⟩
                obtain ⟨q4, hq4⟩ : ∃ q, q = w3.heap.size := ⟨_, rfl⟩
                have b4 : Below w3.heap.size w3 w4 := by rw [hw4]; exact (Below.refl _ _).alloc (Nat.le_refl _) _
                have B4 : Hid (Below w.heap.size w w4) := B3.out.trans (b4.mono B3.out.size)
                have O4 : Hid (SlotsOwn w.heap.size w4 (.slice o5 L.length cap5) L) := O3.out.below b4
                have G4 : Hid (w4.heap[q4]? = some (.cells (slotV (ruleS L.length r)) SlotE.elem (0, 0))) := by show _ = _; rw [hw4, hq4]; exact heap_new _ _ _ rfl
                clear b4 B3 O3
                go_wp2_with (first | ((with_reducible refine wl_gC12 _ rfl ?_); refine wl_loadCw rfl _ rfl q3 1 rfl _ _ _ r.cube.1 r.cube.2 hV hM g4.out H4.out ?_) | ((with_reducible refine wl_gB14 _ rfl ?_); refine wl_buildAny rfl _ _ rfl #[(0, .int .i64 2), (2, .int .i64 (L.length : Int)), (3, .int .i64 r.order), (4, .agg (cv r.cube.1 r.cube.2)), (5, .int .i64 r.action)] (by simp only [List.map_toArray, List.map_cons, List.map_nil]; rfl) (.agg (slotV (ruleS L.length r))) (BP _) ?_) | ((with_reducible refine wl_gBS14 _ rfl ?_); refine wl_buildE (E := SlotE) SlotOk rfl _ rfl (slotV (ruleS L.length r)) (slotV_size _) rfl ?_) | (at_builtin; refine of_stopT ?_))
                unfold StopT
                rw [← hw4, ← hq4]
                clear hw4 hq4 d0 d27 H4 BP g4
                refine wl_appendE (E := SlotE) SlotOk slotV rfl _ _ rfl w.heap.size (.slice o5 L.length cap5) L (ruleS L.length r) (slot_fits _) rfl O4.out q4 1 rfl G4.out hlen B4.out.size ?_
                intro v6 w6 ho6 hg6 hb6
                have O6 : Hid (SlotsOwn w.heap.size w6 v6 (seqS C (base ++ rl.take (j + 1)))) := by show SlotsOwn _ _ _ _; rw [HSN.out]; exact ho6
                have B6 : Hid (Below w.heap.size w w6) := B4.out.grown hg6 B4.out.size fun i hi => (World.ownsRow.lt O4.out i hi).1
                clear ho6 hg6 hb6 O4 B4 G4 HSN hlen
                simp only [Act.put, List.setIfInBounds_toArray, List.set_cons_succ, List.set_cons_zero]
                go_wp2_with fail
                go_roundw
                case rel => exact ⟨j + 1, by omega, by go_num, O6, B6⟩
                case measure => simp [intOf]; omega
              · have hlt2' : ¬ (j : Int) < (m : Int) := by omega
                obtain rfl : m = j := by omega
                have O3 : Hid (SlotsOwn w.heap.size wr u5 (seqS C (rulesN (C.take (k + 1)) n0))) := by
                  have h := OX.out
                  rw [HM.out, List.take_length, ← HT.out] at h
                  exact h
                clear OX
                go_wp2_with fail
                go_roundw
                case rel => exact ⟨k + 1, by omega, by go_num, O3, BX⟩
                case measure => simp [intOf]; omega
        · have hlt' : ¬ (k : Int) < (n : Int) := by omega
          obtain rfl : n = k := by omega
          have O3 : Hid (SlotsOwn w.heap.size wr u5 (itemsT C n0)) := by
            have h := HO.out
            rw [HN.out, List.take_length] at h
            exact h
          clear HO
          go_wp2_with fail
          go_ret
          exact ⟨⟨_, rfl, O3.out⟩, HB.out⟩
end Go.Proofs.Ytpbinkmeldkehaa
