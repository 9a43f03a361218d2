import Derived.Test.YteongcihannldaaJ5
import Derived.Test.YteongcihannldaaJ2
import Derived.Test.YteongcihannldaaJ3
namespace Go.Proofs.Yteongcihannldaa
open Go Go.RowKit
set_option maxRecDepth 20000

/-! The reference's roll in memory. -/
def wdV (x : WdM) : Array Value := #[.int .i64 x.s, .int .i64 x.kind, .int .i64 x.ep, .int .i64 x.n]
def zeroWd : WdM := ⟨0, 0, 0, 0⟩
def WdE : El := ⟨59, 54, 4, 32, wdV zeroWd⟩
theorem WdOk : WdE.Ok := ⟨Try.underlying54, ⟨_, Try.underlying59, rfl⟩, by kernel_rfl, rfl, by decide, by decide, by decide⟩
theorem wd_fits (x : WdM) : Fits WdE (wdV x) := ⟨rfl, by simp [wdV, Value.oneCell']⟩
theorem wl_gaW {P : Program} {ops : Array Oper} {Q : Exit → Act → World → Prop} {o : Oper} {rest : List Oper} {a : Act} {w : World} (_ : o.op = .alloc 59) (h : wpList P ops Q (o :: rest) a w) : wpList P ops Q (o :: rest) a w := h
theorem wl_glW {P : Program} {ops : Array Oper} {Q : Exit → Act → World → Prop} {o : Oper} {rest : List Oper} {a : Act} {w : World} (x : Operand) (_ : o.op = .load 59 x) (h : wpList P ops Q (o :: rest) a w) : wpList P ops Q (o :: rest) a w := h
theorem wl_gsW {P : Program} {ops : Array Oper} {Q : Exit → Act → World → Prop} {o : Oper} {rest : List Oper} {a : Act} {w : World} (x y : Operand) (_ : o.op = .store 59 x y) (h : wpList P ops Q (o :: rest) a w) : wpList P ops Q (o :: rest) a w := h
theorem wl_gbW {P : Program} {ops : Array Oper} {Q : Exit → Act → World → Prop} {o : Oper} {rest : List Oper} {a : Act} {w : World} (x : Operand) (_ : o.op = .buildSlice 54 1 #[(0, x)]) (h : wpList P ops Q (o :: rest) a w) : wpList P ops Q (o :: rest) a w := h
theorem wl_geW {P : Program} {ops : Array Oper} {Q : Exit → Act → World → Prop} {o : Oper} {rest : List Oper} {a : Act} {w : World} (_ : o.op = .buildSlice 54 0 #[]) (h : wpList P ops Q (o :: rest) a w) : wpList P ops Q (o :: rest) a w := h
theorem wl_build0W {ops : Array Oper} {rest : List Oper} {o : Oper} {a : Act} {w : World} {Q : Exit → Act → World → Prop} (hg : o.guard = none) (ho : o.op = .buildSlice 54 0 #[])
    (h : wpList Try.prog ops Q rest (a.put o.dst (.slice (some ⟨w.heap.size, 0, none⟩) 0 0)) (w.alloc (.cells #[] 59))) : wpList Try.prog ops Q (o :: rest) a w := by
  obtain ⟨ie, hie, hz, hs, _⟩ := WdOk.info
  refine wpList_plain hg fun _ hK => ?_
  unfold Oper.wp execOp
  have hrun : (Instr.buildSlice 54 0 #[]).run Try.prog w = .ok (.slice (some ⟨w.heap.size, 0, none⟩) 0 0) (w.alloc (.cells #[] 59)) := by
    have h0 : Array.range 0 = #[] := Array.eq_empty_of_size_eq_zero (by simp)
    have hie' : Try.prog.info? 59 = some ie := hie
    simp [Instr.buildSlice, run_underlying Try.underlying54, sizeOf, typeInfo, hie', Instr.fill, newRow, h0]
  simp only [ho, Sem.run_bind, List.map_toArray, List.map_nil, hrun, Result.andThen_ok]
  exact hK _ _ h
def WdsAt (B : Nat) (w : World) (v : Value) (C : List WdM) : Prop := w.ownsRow B 59 4 v C.length (gcells wdV C)
theorem wds0 (w : World) : WdsAt w.heap.size (w.alloc (.cells #[] 59)) (.slice (some ⟨w.heap.size, 0, none⟩) 0 0) [] := ⟨by simp [gcells], .inr ⟨_, 0, #[], rfl, Nat.le_refl _, heap_new _ _ _ rfl, Nat.le_refl _, Nat.zero_le _, by simp, by simp [gcells]⟩⟩
theorem WdsAt.sl {B : Nat} {w : World} {v : Value} {C : List WdM} (h : WdsAt B w v C) : GSl WdE wdV w v C := gsl_of (E := WdE) h fun _ _ => rfl
theorem WdsAt.slice {B : Nat} {w : World} {v : Value} {C : List WdM} (h : WdsAt B w v C) : ∃ o cap, v = .slice o C.length cap ∧ C.length ≤ cap ∧ cap ≤ maxLen := h.sl.slice
theorem WdsAt.below {B : Nat} {w w' : World} {v : Value} {C : List WdM} (h : WdsAt B w v C) (hb : Below w.heap.size w w') : WdsAt B w' v C := gown_below h hb
/-- A row's block is of its own type. -/
theorem own_ty21 {e : TypeId} {s : Nat} {B : Nat} {w : World} {v : Value} {m : Nat} {xs : List Value} (h : w.ownsRow B e s v m xs) {g : Nat} {cs : Array Value} {t : TypeId} {fr : Nat × Nat} (hg : w.heap[g]? = some (.cells cs t fr)) (ht : t ≠ e) : v.ownBlock ≠ some g := by
  intro q
  obtain ⟨_, ⟨rfl, _⟩ | ⟨g', cap, cur, rfl, _, h1, _⟩⟩ := h
  · cases q
  · simp only [Value.ownBlock, Option.some.injEq] at q
    subst q
    rw [hg] at h1
    simp only [Option.some.injEq, Obj.cells.injEq] at h1
    exact ht h1.2.1
theorem own_apart21 {e e2 : TypeId} {s s2 : Nat} {B B2 : Nat} {w : World} {v v2 : Value} {m m2 : Nat} {xs xs2 : List Value} (h : w.ownsRow B e s v m xs) (h2 : w.ownsRow B2 e2 s2 v2 m2 xs2) (ht : e ≠ e2) : ∀ k, v.ownBlock = some k → v2.ownBlock ≠ some k := fun k q => by
  obtain ⟨_, ⟨rfl, _⟩ | ⟨g', cap, cur, rfl, _, h1, _⟩⟩ := h
  · cases q
  · simp only [Value.ownBlock, Option.some.injEq] at q
    subst q
    exact own_ty21 h2 h1 ht
def rfV (d : RfM) (vl vw : Value) : Array Value := #[.int .i64 d.count, vl, vw]
def ints21 (l : List Int) : List Value := l.map (Value.int .i64)
structure RfV (B : Nat) (w : World) (r : Nat) (d : RfM) (vl vw : Value) : Prop where
  blk : w.heap[r]? = some (.cells (rfV d vl vw) 56 (0, 0))
  life : VOwn 3 B w vl (ints21 d.life)
  len : d.life.length = 7
  row : WdsAt B w vw d.words
  hB : B ≤ r
def footRf (r : Nat) (vl vw : Value) (k : Nat) : Prop := k = r ∨ vl.ownBlock = some k ∨ vw.ownBlock = some k
theorem RfV.foot_in {B : Nat} {w : World} {r : Nat} {d : RfM} {vl vw : Value} (h : RfV B w r d vl vw) : ∀ k, footRf r vl vw k → B ≤ k ∧ k < w.heap.size := by
  rintro k (rfl | e | e)
  · exact ⟨h.hB, (Array.getElem?_eq_some_iff.1 h.blk).1⟩
  · exact World.ownsRow.lt h.life k e
  · exact World.ownsRow.lt h.row k e
theorem RfV.kept {X : Nat → Prop} {B : Nat} {w w' : World} {r : Nat} {d : RfM} {vl vw : Value} (h : RfV B w r d vl vw) (hk : Kept X w w') (hX : ∀ k, footRf r vl vw k → ¬ X k) : RfV B w' r d vl vw :=
  ⟨hk.heap h.blk (hX _ (.inl rfl)), hk.own h.life (fun k e => hX k (.inr (.inl e))), h.len, hk.own h.row (fun k e => hX k (.inr (.inr e))), h.hB⟩
theorem RfV.below {B : Nat} {w w' : World} {r : Nat} {d : RfM} {vl vw : Value} (h : RfV B w r d vl vw) (hb : Below w.heap.size w w') : RfV B w' r d vl vw := h.kept (X := fun _ => False) (Kept.of_below hb) fun _ _ e => e
theorem RfV.hw {B : Nat} {w : World} {r : Nat} {d : RfM} {vl vw : Value} (h : RfV B w r d vl vw) : B ≤ w.heap.size := by have := h.foot_in r (.inl rfl); omega
theorem RfV.wne {B : Nat} {w : World} {r : Nat} {d : RfM} {vl vw : Value} (h : RfV B w r d vl vw) : ¬ rowX vw r := own_ty21 h.row h.blk (by decide)
theorem RfV.lne {B : Nat} {w : World} {r : Nat} {d : RfM} {vl vw : Value} (h : RfV B w r d vl vw) : ¬ rowX vl r := own_ty21 h.life h.blk (by decide)
theorem RfV.wl {B : Nat} {w : World} {r : Nat} {d : RfM} {vl vw : Value} (h : RfV B w r d vl vw) : ∀ k, vw.ownBlock = some k → vl.ownBlock ≠ some k := own_apart21 h.row h.life (by decide)
structure RfF (w : World) (r : Nat) (d : RfM) (vl vw : Value) : Prop where
  c0 : w.cell? ⟨r, 0, none⟩ = some (.int .i64 d.count)
  c1 : w.cell? ⟨r, 1, none⟩ = some vl
  c2 : w.cell? ⟨r, 2, none⟩ = some vw
  fz : ∀ k, w.frozen? ⟨r, k, none⟩ = false
theorem RfV.f {B : Nat} {w : World} {r : Nat} {d : RfM} {vl vw : Value} (h : RfV B w r d vl vw) : RfF w r d vl vw :=
  ⟨by rw [cell_of_row w r _ _ _ _ h.blk]; rfl, by rw [cell_of_row w r _ _ _ _ h.blk]; rfl, by rw [cell_of_row w r _ _ _ _ h.blk]; rfl, fun k => by simp [World.frozen?, h.blk]⟩
def RfTo (B : Nat) (w w' : World) (r : Nat) (d' : RfM) (vl vw : Value) : Prop := ∃ ul uw, RfV B w' r d' ul uw ∧ Frm (footRf r vl vw) (footRf r ul uw) w w'
theorem RfV.stay {B : Nat} {w w' : World} {r : Nat} {d : RfM} {vl vw : Value} (h : RfV B w r d vl vw) (hb : Below w.heap.size w w') : RfTo B w w' r d vl vw := ⟨vl, vw, h.below hb, Frm.of_below hb⟩
theorem RfTo.trans {B : Nat} {w w1 w2 : World} {r : Nat} {d1 d2 : RfM} {vl vw : Value} (h : RfTo B w w1 r d1 vl vw) (hn : ∀ ul uw, RfV B w1 r d1 ul uw → RfTo B w1 w2 r d2 ul uw) : RfTo B w w2 r d2 vl vw := by
  obtain ⟨ul, uw, h1, h2⟩ := h
  obtain ⟨xl, xw, h3, h4⟩ := hn ul uw h1
  exact ⟨xl, xw, h3, h2.trans h4⟩
/-- The row of words is put back. -/
theorem RfV.putW {B : Nat} {w w' : World} {r : Nat} {d : RfM} {vl vw u : Value} (h : RfV B w r d vl vw) (hk : Kept (rowX vw) w w') (C : List WdM) (hu : WdsAt B w' u C) (ho : u.ownBlock = vw.ownBlock ∨ ∀ k, u.ownBlock = some k → w.heap.size ≤ k) :
    w'.cell? ⟨r, 2, none⟩ = some vw ∧ w'.frozen? ⟨r, 2, none⟩ = false ∧ RfV B (w'.setCell ⟨r, 2, none⟩ u) r { d with words := C } vl u ∧ Frm (footRf r vl vw) (footRf r vl u) w (w'.setCell ⟨r, 2, none⟩ u) := by
  have hbk := hk.heap h.blk h.wne
  have hset : (w'.setCell ⟨r, 2, none⟩ u).heap[r]? = some (.cells (rfV { d with words := C } vl u) 56 (0, 0)) := by
    rw [heap_setCell_same w' r 2 _ _ u hbk]
    rfl
  have hK2 : Kept (isB r) w' (w'.setCell ⟨r, 2, none⟩ u) := ⟨rfl, rfl, rfl, by simp [World.setCell], fun k _ e => heap_setCell_other w' ⟨r, 2, none⟩ k _ e⟩
  refine ⟨by rw [cell_of_row _ _ _ _ _ _ hbk]; rfl, by simp [World.frozen?, hbk], ⟨hset, hK2.own (hk.own h.life fun k e e' => h.wl k e' e) (fun k e e' => by unfold isB at e'; subst e'; exact h.lne e), h.len, hK2.own hu (fun k e e' => by unfold isB at e'; subst e'; exact own_ty21 hu hbk (by decide) e), h.hB⟩, ⟨(hk.mono (Y := footRf r vl vw) fun k _ e => .inr (.inr e)).trans hK2 fun k e => .inl (.inl e), fun k e => ?_⟩⟩
  rcases e with e | e | e
  · exact .inl (.inl e)
  · exact .inl (.inr (.inl e))
  · rcases ho with e' | e'
    · rw [e'] at e; exact .inl (.inr (.inr e))
    · exact .inr (e' k e)
/-- A life is set. -/
theorem RfV.setL {B : Nat} {w : World} {r : Nat} {d : RfM} {gl nl cl : Nat} {vw : Value} (h : RfV B w r d (.slice (some ⟨gl, 0, none⟩) nl cl) vw) (k : Nat) (x : Int) :
    RfV B (w.setCell ⟨gl, k, none⟩ (.int .i64 x)) r { d with life := d.life.set k x } (.slice (some ⟨gl, 0, none⟩) nl cl) vw ∧ Frm (footRf r (.slice (some ⟨gl, 0, none⟩) nl cl) vw) (footRf r (.slice (some ⟨gl, 0, none⟩) nl cl) vw) w (w.setCell ⟨gl, k, none⟩ (.int .i64 x)) := by
  have hg := VOwn.setBelow h.life k (.int .i64 x)
  have hk : Kept (rowX (.slice (some ⟨gl, 0, none⟩) nl cl)) w (w.setCell ⟨gl, k, none⟩ (.int .i64 x)) := Kept.of_grown hg fun j e => e
  refine ⟨⟨hk.heap h.blk h.lne, ?_, by show (d.life.set _ _).length = 7; rw [List.length_set]; exact h.len, hk.own h.row fun j e e' => h.wl j e e', h.hB⟩, hk.mono fun j _ e => .inr (.inl e), fun j e => .inl e⟩
  have := VOwn.set h.life k (.int .i64 x)
  have e : ints21 (d.life.set k x) = (ints21 d.life).set k (.int .i64 x) := by unfold ints21; rw [List.map_set]
  show VOwn 3 B _ _ (ints21 (d.life.set k x))
  rw [e]
  exact this
/-- Where a life lies. -/
theorem RfV.lcell {B : Nat} {w : World} {r : Nat} {d : RfM} {vl vw : Value} (h : RfV B w r d vl vw) {s : Int} (hs : 1 ≤ s ∧ s ≤ 6) : ∃ gl cl, vl = .slice (some ⟨gl, 0, none⟩) 7 cl ∧ 7 ≤ cl ∧ cl ≤ maxLen ∧ w.cell? ⟨gl, s.toNat, none⟩ = some (.int .i64 (lifeF d s)) ∧ w.frozen? ⟨gl, s.toNat, none⟩ = false := by
  have h0 := h.life
  have hl : (ints21 d.life).length = 7 := by unfold ints21; rw [List.length_map]; exact h.len
  obtain ⟨_, ⟨_, e⟩ | ⟨g, cap, cur, rfl, _, _, h2, h3, _⟩⟩ := id h0
  · rw [hl] at e; cases e
  · rw [hl] at h0 h2
    obtain ⟨c, q1, q2, q3⟩ := VOwn.cell (n := 7) (by rw [← hl] at h0 ⊢; exact h0) s.toNat (by omega)
    refine ⟨g, cap, by rw [hl], h2, h3, ?_, q3⟩
    rw [q1]
    unfold ints21 at q2
    rw [List.getElem?_map, List.getElem?_eq_getElem (by rw [h.len]; omega)] at q2
    rw [← q2]
    unfold lifeF
    rw [List.getD_eq_getElem?_getD, List.getElem?_eq_getElem (by rw [h.len]; omega)]
    rfl
/-- The fields of a word. -/
structure WdF (w : World) (g off : Nat) (x : WdM) : Prop where
  c0 : w.cell? ⟨g, off, none⟩ = some (.int .i64 x.s)
  c1 : w.cell? ⟨g, off + 1, none⟩ = some (.int .i64 x.kind)
  c2 : w.cell? ⟨g, off + 2, none⟩ = some (.int .i64 x.ep)
  c3 : w.cell? ⟨g, off + 3, none⟩ = some (.int .i64 x.n)
theorem wdf_of {w : World} {g off : Nat} {cur : Array Value} {ty : TypeId} {fr : Nat × Nat} {x : WdM} (hg : w.heap[g]? = some (.cells cur ty fr)) (hc : ∀ j, j < 4 → cur[off + j]? = (wdV x)[j]?) : WdF w g off x :=
  ⟨by rw [cell_of_row w g off cur ty fr hg]; exact hc 0 (by decide), by rw [cell_of_row w g (off + 1) cur ty fr hg]; exact hc 1 (by decide), by rw [cell_of_row w g (off + 2) cur ty fr hg]; exact hc 2 (by decide), by rw [cell_of_row w g (off + 3) cur ty fr hg]; exact hc 3 (by decide)⟩
end Go.Proofs.Yteongcihannldaa
namespace Go.Proofs.Yteongcihannldaa
open Go Go.RowKit
set_option maxRecDepth 20000

theorem rIs_any (w : World) (r : Nat) (d : RfM) (hc : w.cell? ⟨r, 0, none⟩ = some (.int .i64 d.count)) (s : Int) : Calls Try.prog 30 #[.pointer (some ⟨r, 0, none⟩), .int .i64 s] w fun e w' => e = .returned (.bool (isF d s)) ∧ w' = w := by
  unfold isF
  obtain ⟨c, hcc⟩ : ∃ c, c = d.count := ⟨_, rfl⟩
  rw [← hcc] at hc ⊢
  clear hcc
  by_cases h1 : s ≥ 1
  · have e1 : decide (1 ≤ s) = true := decide_eq_true h1
    rw [e1, Bool.true_and]
    go_enter Try.func30, Try.ntmps30
    go_wp2_with fail
    go_ret
    exact ⟨by simp, rfl⟩
  · have e1 : decide (1 ≤ s) = false := decide_eq_false h1
    rw [e1, Bool.false_and]
    go_enter Try.func30, Try.ntmps30
    go_wp2_with fail
    go_ret
    exact ⟨rfl, rfl⟩
theorem rClock_any (w : World) (now : Int) : Calls Try.prog 31 #[.int .i64 now] w fun e w' => e = .returned (.int .i64 (clockR now)) ∧ w' = w := by
  obtain ⟨m, hm⟩ : ∃ m, m = max now 0 := ⟨_, rfl⟩
  obtain ⟨c, hc⟩ : ∃ c, c = min m 1099511627776 := ⟨_, rfl⟩
  have HM : Hid (m = max now 0) := hm
  have HC : Hid (c = min m 1099511627776) := hc
  have E : clockR now = c := by unfold clockR; rw [hc, hm]
  rw [E]
  clear E hm hc
  go_enter Try.func31, Try.ntmps31
  go_wp2_with (first
    | (refine wl_maxI rfl (.tmp 3) _ rfl now 0 m rfl rfl HM.out ?_)
    | (refine wl_minI rfl (.tmp 4) _ rfl m 1099511627776 c rfl rfl HC.out ?_))
  go_ret
  exact ⟨rfl, rfl⟩
theorem isF_in {d : RfM} {s : Int} (h6 : d.count ≤ 6) (h : isF d s = true) : 1 ≤ s ∧ s ≤ 6 := by unfold isF at h; simp at h; omega
set_option maxHeartbeats 1000000 in
theorem rLives_any (B : Nat) (w : World) (r : Nat) (d : RfM) (vl vw : Value) (h : RfV B w r d vl vw) (h6 : d.count ≤ 6) (s inc : Int) : Calls Try.prog 32 #[.pointer (some ⟨r, 0, none⟩), .int .i64 s, .int .i64 inc] w fun e w' => e = .returned (.bool (livesF d s inc)) ∧ w' = w := by
  have HI := rIs_any w r d h.f.c0 s
  have c1 := h.f.c1
  unfold livesF
  cases hs : isF d s with
  | false =>
    rw [hs] at HI
    clear h c1
    go_enter Try.func32, Try.ntmps32
    go_wp2_with (go_at_call 30; refine HI.mono ?_; rintro e w1 ⟨rfl, q⟩; subst q)
    go_ret
    exact ⟨rfl, rfl⟩
  | true =>
    rw [hs] at HI
    have hs6 := isF_in h6 hs
    obtain ⟨gl, cl, e, k1, k2, k3, _⟩ := h.lcell hs6
    rw [e] at c1
    obtain ⟨L, hL⟩ : ∃ L, L = lifeF d s := ⟨_, rfl⟩
    rw [← hL] at k3 ⊢
    obtain ⟨j, hj⟩ : ∃ j : Nat, s = (j : Int) := ⟨s.toNat, by omega⟩
    subst hj
    have z1 : ¬ (j : Int) < 0 := by omega
    have z2 : (j : Int) < 7 := by omega
    rw [show ((j : Int)).toNat = j by omega] at k3
    unfold maxLen at k2
    clear h hs e hL h6 hs6
    by_cases i0 : inc = 0
    · have b0 : (inc != 0) = false := by simp [i0]
      rw [b0]
      clear i0
      go_enter Try.func32, Try.ntmps32
      go_wp2_with (go_at_call 30; refine HI.mono ?_; rintro e w1 ⟨rfl, q⟩; subst q)
      go_ret
      exact ⟨rfl, rfl⟩
    · have b0 : (inc != 0) = true := by simp [i0]
      rw [b0]
      clear i0
      go_enter Try.func32, Try.ntmps32
      go_wp2_with (go_at_call 30; refine HI.mono ?_; rintro e w1 ⟨rfl, q⟩; subst q)
      go_ret
      exact ⟨by simp, rfl⟩
set_option maxHeartbeats 1000000 in
theorem rInc_any (B : Nat) (w : World) (r : Nat) (d : RfM) (vl vw : Value) (h : RfV B w r d vl vw) (h6 : d.count ≤ 6) (s : Int) : Calls Try.prog 17 #[.pointer (some ⟨r, 0, none⟩), .int .i64 s] w fun e w' => e = .returned (.int .i64 (incF d s)) ∧ w' = w := by
  have HI := rIs_any w r d h.f.c0 s
  have c1 := h.f.c1
  unfold incF
  cases hs : isF d s with
  | false =>
    rw [hs] at HI
    clear h c1
    go_enter Try.func17, Try.ntmps17
    go_wp2_with (go_at_call 30; refine HI.mono ?_; rintro e w1 ⟨rfl, q⟩; subst q)
    go_ret
    exact ⟨rfl, rfl⟩
  | true =>
    rw [hs] at HI
    rw [if_pos rfl]
    have hs6 := isF_in h6 hs
    obtain ⟨gl, cl, e, k1, k2, k3, _⟩ := h.lcell hs6
    rw [e] at c1
    obtain ⟨L, hL⟩ : ∃ L, L = lifeF d s := ⟨_, rfl⟩
    rw [← hL] at k3 ⊢
    obtain ⟨j, hj⟩ : ∃ j : Nat, s = (j : Int) := ⟨s.toNat, by omega⟩
    subst hj
    have z1 : ¬ (j : Int) < 0 := by omega
    have z2 : (j : Int) < 7 := by omega
    rw [show ((j : Int)).toNat = j by omega] at k3
    unfold maxLen at k2
    clear h hs e hL h6 hs6
    go_enter Try.func17, Try.ntmps17
    go_wp2_with (go_at_call 30; refine HI.mono ?_; rintro e w1 ⟨rfl, q⟩; subst q)
    go_ret
    exact ⟨rfl, rfl⟩
theorem take_fold {α β : Type} (f : β → α → β) (b : β) {l : List α} {i : Nat} {x : α} (h : l[i]? = some x) : (l.take (i + 1)).foldl f b = f ((l.take i).foldl f b) x := by
  rw [List.take_add_one, h]
  simp [List.foldl_append]
/-- A word that lies in the row, and its copy. -/
theorem RfV.word {B : Nat} {w : World} {r : Nat} {d : RfM} {vl vw : Value} (h : RfV B w r d vl vw) {i : Nat} (hi : i < d.words.length) : ∃ g off cap cur t fr x, vw = .slice (some ⟨g, off, none⟩) d.words.length cap ∧ w.heap[g]? = some (.cells cur t fr) ∧ (∀ j, j < 4 → cur[off + i * 4 + j]? = (wdV x)[j]?) ∧ d.words[i]? = some x ∧ cap ≤ maxLen ∧ d.words.length ≤ cap := by
  obtain ⟨o, cap, e, q1, q2⟩ := h.row.slice
  have hs := h.row.sl
  rw [e] at hs
  obtain ⟨g, off, cur, t, fr, x, rfl, hg, hc, hx⟩ := hs.at i hi
  exact ⟨g, off, cap, cur, t, fr, x, e, hg, hc, hx, q2, q1⟩
set_option maxHeartbeats 8000000 in
theorem rMost_any (B : Nat) (w : World) (r : Nat) (d : RfM) (vl vw : Value) (h : RfV B w r d vl vw) (s k ep : Int) : Calls Try.prog 37 #[.pointer (some ⟨r, 0, none⟩), .int .i64 s, .int .i64 k, .int .i64 ep] w fun e w' => e = .returned (.int .i64 (mostF d.words s k ep)) ∧ Below w.heap.size w w' := by
  obtain ⟨o, cap, e, q1, q2⟩ := h.row.slice
  obtain ⟨q, hq⟩ : ∃ q, q = d.words.length := ⟨_, rfl⟩
  have HV : Hid (RfV B w r d vl (.slice o q cap)) := by rw [hq, ← e]; exact h
  rw [← hq] at q1
  have HQ : Hid (q = d.words.length) := hq
  have HT : Hid (mostF d.words s k ep = (d.words.take q).foldl (mostS s k ep) 0) := by show _ = _; rw [hq, List.take_length]; rfl
  unfold maxLen at q2
  clear h e hq
  go_enter Try.func37, Try.ntmps37
  go_wp2_with fail
  go_loopw [9, 10] (fun s9 s10 wr => ∃ (i : Nat) (n : Int), i ≤ q ∧ s9 = .int .i64 n ∧ s10 = .int .i64 (i : Int) ∧ Hid (n = (d.words.take i).foldl (mostS s k ep) 0) ∧ Hid (Below w.heap.size w wr)) (fun _ s10 _ => q - (intOf s10).toNat)
  case atStart => exact ⟨0, 0, Nat.zero_le _, rfl, rfl, rfl, Below.refl _ _⟩
  case round =>
    obtain ⟨i, n, hi, rfl, rfl, HN, HB⟩ := hrel
    have HVr : Hid (RfV B wr r d vl (.slice o q cap)) := HV.out.below HB.out
    have c2 := HVr.out.f.c2
    by_cases hlt : i < q
    case neg =>
      obtain rfl : i = q := by omega
      have hlt' : ¬ (i : Int) < (i : Int) := by omega
      go_wp2_with fail
      go_ret
      exact ⟨by rw [HT.out, ← HN.out]; rfl, HB.out⟩
    have hlt' : (i : Int) < (q : Int) := by omega
    obtain ⟨ga, offa, ca, cura, tya, fra, x, ev, hga, hcca, hxa, _⟩ := HVr.out.word (i := i) (by have := HQ.out; omega)
    simp only [Value.slice.injEq] at ev
    obtain ⟨rfl, hz9, rfl⟩ := ev
    clear hz9
    obtain ⟨wx, hwx⟩ : ∃ wx, wx = wr.alloc (.cells (wdV x) 59) := ⟨_, rfl⟩
    obtain ⟨px, hpx⟩ : ∃ px, px = wr.heap.size := ⟨_, rfl⟩
    have HBx : Hid (Below w.heap.size w wx) := by show Below _ _ _; rw [hwx]; exact HB.out.alloc HB.out.size _
    have Ax : wx.heap[px]? = some (.cells (wdV x) 59 (0, 0)) := by rw [hwx, hpx]; exact heap_new _ _ _ rfl
    have F := wdf_of (off := 0) Ax fun j _ => by rw [Nat.zero_add]
    have SRx : (wr.alloc (.cells (wdV zeroWd) 59)).setRow wr.heap.size (wdV x) = wx := by rw [hwx]; exact setRow_new _ _ _ _ _ rfl
    have HS : Hid ((d.words.take (i + 1)).foldl (mostS s k ep) 0 = mostS s k ep n x) := by show _ = _; rw [take_fold _ _ hxa, ← HN.out]
    obtain ⟨k0, k1, k2, k3⟩ := F
    obtain ⟨xs, hxs⟩ : ∃ xi, xi = x.s := ⟨_, rfl⟩
    obtain ⟨xk, hxk⟩ : ∃ xi, xi = x.kind := ⟨_, rfl⟩
    obtain ⟨xe, hxe⟩ : ∃ xi, xi = x.ep := ⟨_, rfl⟩
    obtain ⟨xn, hxn⟩ : ∃ xi, xi = x.n := ⟨_, rfl⟩
    have HS2 : Hid (∀ m, m = (if (xs == s && xk == k && xe == ep) = true ∧ n < xn then xn else n) → m = (d.words.take (i + 1)).foldl (mostS s k ep) 0) := fun m hm => by
      rw [HS.out, hm, hxs, hxk, hxe, hxn]
      rfl
    rw [← hxs] at k0
    rw [← hxk] at k1
    rw [← hxe] at k2
    rw [← hxn] at k3
    simp only [Nat.zero_add] at k1 k2 k3
    have KGa : Hid (wr.heap[ga]? = some (.cells cura tya fra)) := hga
    have KCa : Hid (∀ j, j < 4 → cura[offa + i * 4 + j]? = (wdV x)[j]?) := hcca
    clear hga hcca hxa hwx hxs hxk hxe hxn HS HN HT HVr Ax
    go_wp2_with (first
      | ((with_reducible refine wl_gaW rfl ?_); refine wl_allocE21 (E := WdE) WdOk rfl rfl ?_)
      | ((with_reducible refine wl_glW _ rfl ?_); refine wl_loadE (E := WdE) WdOk rfl _ rfl ga (offa + i * 4) rfl cura tya fra (wdV x) rfl KGa.out KCa.out ?_)
      | ((with_reducible refine wl_gsW _ _ rfl ?_); refine wl_storeE (E := WdE) WdOk rfl _ _ rfl wr.heap.size (wdV x) (wd_fits x) rfl rfl _ (heap_new _ _ _ rfl) rfl _ SRx ?_; refine of_stopT ?_))
    unfold StopT
    rw [← hpx]
    clear SRx KGa KCa hpx c2
    cases b1 : (xs == s)
    case' true => cases b2 : (xk == k)
    case' true.true => cases b3 : (xe == ep)
    case' true.true.true => by_cases b4 : xn > n
    all_goals
      go_wp2_with fail
      go_roundw
      case rel => exact ⟨i + 1, _, by omega, rfl, by go_num, HS2.out _ (by simp [*]; try omega), HBx⟩
      case measure => simp [intOf]; omega
end Go.Proofs.Yteongcihannldaa
namespace Go.Proofs.Yteongcihannldaa
open Go Go.RowKit
set_option maxRecDepth 20000

theorem RfV.addW {B : Nat} {w W1 w3 : World} {r : Nat} {d : RfM} {vl vw u : Value} (h : RfV B w r d vl vw) (hb : Below w.heap.size w W1) (x : WdM) (hu : WdsAt B w3 u (d.words ++ [x])) (hg : W1.grownBy w3 vw.ownBlock) (ho : u.ownBlock = vw.ownBlock ∨ u.ownBlock = some W1.heap.size) :
    w3.cell? ⟨r, 2, none⟩ = some vw ∧ w3.frozen? ⟨r, 2, none⟩ = false ∧ RfTo B w (w3.setCell ⟨r, 2, none⟩ u) r (addF21 d x) vl vw := by
  obtain ⟨q1, q2, q3, q4⟩ := (h.below hb).putW (Kept.of_grown hg fun k e => e) _ hu (by
    rcases ho with e | e
    · exact .inl e
    · exact .inr fun k e' => by rw [e] at e'; have := Option.some.inj e'; omega)
  exact ⟨q1, q2, vl, u, q3, q4.pre hb⟩
/-- What one word more wants. -/
structure AddG (B : Nat) (W : World) (r : Nat) (o : Option Addr) (q cap : Nat) (d : RfM) (vl : Value) (x : WdM) : Prop where
  c2 : (W.alloc (.cells (wdV x) 59)).cell? ⟨r, 2, none⟩ = some (.slice o q cap)
  own : (W.alloc (.cells (wdV x) 59)).ownsRow B 59 4 (.slice o q cap) d.words.length (gcells wdV d.words)
  hB : B ≤ (W.alloc (.cells (wdV x) 59)).heap.size
  nx : ∀ w3 u, w3.ownsRow B 59 4 u (d.words ++ [x]).length (gcells wdV (d.words ++ [x])) → (W.alloc (.cells (wdV x) 59)).grownBy w3 (Value.slice o q cap).ownBlock → (u.ownBlock = (Value.slice o q cap).ownBlock ∨ u.ownBlock = some (W.alloc (.cells (wdV x) 59)).heap.size) →
    w3.cell? ⟨r, 2, none⟩ = some (.slice o q cap) ∧ w3.frozen? ⟨r, 2, none⟩ = false ∧ RfTo B W (w3.setCell ⟨r, 2, none⟩ u) r (addF21 d x) vl (.slice o q cap)
theorem addG_of {B : Nat} {W : World} {r : Nat} {o : Option Addr} {q cap : Nat} {d : RfM} {vl : Value} (h : RfV B W r d vl (.slice o q cap)) (x : WdM) : AddG B W r o q cap d vl x := by
  have hb : Below W.heap.size W (W.alloc (.cells (wdV x) 59)) := (Below.refl _ _).alloc (Nat.le_refl _) _
  exact ⟨(h.below hb).f.c2, (h.below hb).row, by have := h.hw; have := hb.size; omega, fun w3 u t1 t2 t3 => h.addW hb x t1 t2 t3⟩
theorem wds_slice {W : World} {B : Nat} {u : Value} {m : Nat} {xs : List Value} (hu : World.ownsRow W B 59 4 u m xs) : ∃ o q c, u = .slice o q c := by
  obtain ⟨o, cap, e⟩ := gown_slice hu
  exact ⟨o, _, cap, e⟩
theorem RfTo.preD {B : Nat} {w w1 w2 : World} {r : Nat} {d' : RfM} {vl vw : Value} (hb : Below w.heap.size w w1) (h : RfTo B w1 w2 r d' vl vw) : RfTo B w w2 r d' vl vw := by
  obtain ⟨ul, uw, h1, h2⟩ := h
  exact ⟨ul, uw, h1, h2.pre hb⟩
theorem count_add (d : RfM) (x : WdM) : (addF21 d x).count = d.count := rfl
theorem lives_add (d : RfM) (x : WdM) (s inc : Int) : livesF (addF21 d x) s inc = livesF d s inc := rfl
set_option maxHeartbeats 4000000 in
theorem rAck21_any (B : Nat) (w : World) (r : Nat) (d : RfM) (vl vw : Value) (h : RfV B w r d vl vw) (h6 : d.count ≤ 6) (hn : d.words.length ≤ 100000) (s inc ep n : Int) : Calls Try.prog 11 #[.pointer (some ⟨r, 0, none⟩), .int .i64 s, .int .i64 inc, .int .i64 ep, .int .i64 n] w fun e w' => e = .returned (.bool (ackF d s inc ep n).2) ∧ RfTo B w w' r (ackF d s inc ep n).1 vl vw := by
  have HL := rLives_any B w r d vl vw h h6 s inc
  unfold ackF
  cases hl : livesF d s inc with
  | false =>
    rw [hl] at HL
    have H0 : Hid (RfTo B w w r d vl vw) := h.stay (Below.refl _ _)
    clear h
    go_enter Try.func11, Try.ntmps11
    go_wp2_with (go_at_call 32; refine HL.mono ?_; rintro e w1 ⟨rfl, q⟩; subst q)
    go_ret
    exact ⟨rfl, H0.out⟩
  | true =>
    rw [hl] at HL
    rw [if_pos rfl]
    obtain ⟨o, cap, e, _, _⟩ := h.row.slice
    obtain ⟨q, hq⟩ : ∃ q, q = d.words.length := ⟨_, rfl⟩
    rw [← hq] at e
    rw [e] at h ⊢
    have c2 := h.f.c2
    have HG : Hid (AddG B w r o q cap d vl ⟨s, 2, ep, n⟩) := addG_of h _
    have HN : Hid (d.words.length ≤ 1000000) := by show _ ≤ _; omega
    have HL2 : Hid (∀ W u, RfTo B w W r (addF21 d ⟨s, 2, ep, n⟩) vl u → Calls Try.prog 32 #[.pointer (some ⟨r, 0, none⟩), .int .i64 s, .int .i64 inc] W fun e w' => e = .returned (.bool true) ∧ w' = W) := fun W u hW => by
      obtain ⟨ul, uw, z1, _⟩ := hW
      have := rLives_any B W r _ ul uw z1 (by rw [count_add]; exact h6) s inc
      rw [lives_add, hl] at this
      exact this
    have HGO : AddG B w r o q cap d vl ⟨s, 2, ep, n⟩ := HG.out
    obtain ⟨g1, g2, g3, g4⟩ := HGO
    have G2 : Hid _ := g2
    have G3 : Hid _ := g3
    have G4 : Hid _ := g4
    clear h hl h6 hn e hq HG g2 g3 g4
    go_enter Try.func11, Try.ntmps11
    go_wp2_with (first
      | (go_at_call 32; refine HL.mono ?_; rintro e w1 ⟨rfl, q⟩; subst q)
      | ((with_reducible refine wl_gbW _ rfl ?_); refine wl_buildE (E := WdE) WdOk rfl _ rfl (wdV ⟨s, 2, ep, n⟩) rfl rfl ?_)
      | (at_builtin; refine wl_appendE (E := WdE) WdOk wdV rfl _ _ rfl B (.slice o q cap) d.words ⟨s, 2, ep, n⟩ (wd_fits _) rfl G2.out _ 1 rfl (heap_new _ _ _ rfl) HN.out G3.out ?_; intro u w3 t1 t2 t3; refine of_stopT ?_))
    unfold StopT
    obtain ⟨k1, k2, k3⟩ := G4.out w3 u t1 t2 t3
    obtain ⟨o3, n3, p3, rfl⟩ := wds_slice t1
    have HL3 := HL2.out _ _ k3
    have K3 : Hid _ := k3
    clear t1 t2 t3 k3 G2 G3 G4 HL HL2
    go_wp2_with (go_at_call 32; refine HL3.mono ?_; rintro e w4 ⟨rfl, q⟩; have q := q.symm; subst q)
    go_ret
    exact ⟨rfl, K3.out⟩
set_option maxHeartbeats 4000000 in
theorem rSeen21_any (B : Nat) (w : World) (r : Nat) (d : RfM) (vl vw : Value) (h : RfV B w r d vl vw) (h6 : d.count ≤ 6) (hn : d.words.length ≤ 100000) (s inc n : Int) : Calls Try.prog 12 #[.pointer (some ⟨r, 0, none⟩), .int .i64 s, .int .i64 inc, .int .i64 n] w fun e w' => e = .returned (.bool (seenF d s inc n).2) ∧ RfTo B w w' r (seenF d s inc n).1 vl vw := by
  have HL := rLives_any B w r d vl vw h h6 s inc
  unfold seenF
  cases hl : livesF d s inc with
  | false =>
    rw [hl] at HL
    have H0 : Hid (RfTo B w w r d vl vw) := h.stay (Below.refl _ _)
    clear h
    go_enter Try.func12, Try.ntmps12
    go_wp2_with (go_at_call 32; refine HL.mono ?_; rintro e w1 ⟨rfl, q⟩; subst q)
    go_ret
    exact ⟨rfl, H0.out⟩
  | true =>
    rw [hl] at HL
    rw [if_pos rfl]
    obtain ⟨o, cap, e, _, _⟩ := h.row.slice
    obtain ⟨q, hq⟩ : ∃ q, q = d.words.length := ⟨_, rfl⟩
    rw [← hq] at e
    rw [e] at h ⊢
    have c2 := h.f.c2
    have HG : Hid (AddG B w r o q cap d vl ⟨s, 3, 0, n⟩) := addG_of h _
    have HN : Hid (d.words.length ≤ 1000000) := by show _ ≤ _; omega
    have HL2 : Hid (∀ W u, RfTo B w W r (addF21 d ⟨s, 3, 0, n⟩) vl u → Calls Try.prog 32 #[.pointer (some ⟨r, 0, none⟩), .int .i64 s, .int .i64 inc] W fun e w' => e = .returned (.bool true) ∧ w' = W) := fun W u hW => by
      obtain ⟨ul, uw, z1, _⟩ := hW
      have := rLives_any B W r _ ul uw z1 (by rw [count_add]; exact h6) s inc
      rw [lives_add, hl] at this
      exact this
    have HGO : AddG B w r o q cap d vl ⟨s, 3, 0, n⟩ := HG.out
    obtain ⟨g1, g2, g3, g4⟩ := HGO
    have G2 : Hid _ := g2
    have G3 : Hid _ := g3
    have G4 : Hid _ := g4
    clear h hl h6 hn e hq HG g2 g3 g4
    go_enter Try.func12, Try.ntmps12
    go_wp2_with (first
      | (go_at_call 32; refine HL.mono ?_; rintro e w1 ⟨rfl, q⟩; subst q)
      | ((with_reducible refine wl_gbW _ rfl ?_); refine wl_buildE (E := WdE) WdOk rfl _ rfl (wdV ⟨s, 3, 0, n⟩) rfl rfl ?_)
      | (at_builtin; refine wl_appendE (E := WdE) WdOk wdV rfl _ _ rfl B (.slice o q cap) d.words ⟨s, 3, 0, n⟩ (wd_fits _) rfl G2.out _ 1 rfl (heap_new _ _ _ rfl) HN.out G3.out ?_; intro u w3 t1 t2 t3; refine of_stopT ?_))
    unfold StopT
    obtain ⟨k1, k2, k3⟩ := G4.out w3 u t1 t2 t3
    obtain ⟨o3, n3, p3, rfl⟩ := wds_slice t1
    have HL3 := HL2.out _ _ k3
    have K3 : Hid _ := k3
    clear t1 t2 t3 k3 G2 G3 G4 HL HL2
    go_wp2_with (go_at_call 32; refine HL3.mono ?_; rintro e w4 ⟨rfl, q⟩; have q := q.symm; subst q)
    go_ret
    exact ⟨rfl, K3.out⟩
end Go.Proofs.Yteongcihannldaa
namespace Go.Proofs.Yteongcihannldaa
open Go Go.RowKit
set_option maxRecDepth 20000

set_option maxHeartbeats 8000000 in
theorem rLed21_any (B : Nat) (w : World) (r : Nat) (d : RfM) (vl vw : Value) (h : RfV B w r d vl vw) (hn : d.words.length ≤ 100000) (s ep now : Int) : Calls Try.prog 13 #[.pointer (some ⟨r, 0, none⟩), .int .i64 s, .int .i64 ep, .int .i64 now] w fun e w' => e = .returned (.tuple #[]) ∧ RfTo B w w' r (ledF d s ep now) vl vw := by
  have HL := rIs_any w r d h.f.c0 s
  unfold ledF
  cases hl : isF d s with
  | false =>
    rw [hl] at HL
    have H0 : Hid (RfTo B w w r d vl vw) := h.stay (Below.refl _ _)
    clear h
    go_enter Try.func13, Try.ntmps13
    go_wp2_with (go_at_call 30; refine HL.mono ?_; rintro e w1 ⟨rfl, q⟩; subst q)
    first | go_end0 | refine bodyPost_ret (results_none rfl _ _ _) rfl ?_
    exact ⟨rfl, H0.out⟩
  | true =>
    rw [hl] at HL
    rw [if_pos rfl]
    obtain ⟨o, cap, e, _, _⟩ := h.row.slice
    obtain ⟨q, hq⟩ : ∃ q, q = d.words.length := ⟨_, rfl⟩
    rw [← hq] at e
    rw [e] at h ⊢
    obtain ⟨t, ht⟩ : ∃ t, t = clockR now := ⟨_, rfl⟩
    have HC := rClock_any w.drew now
    rw [← ht] at HC ⊢
    have hd : Below w.heap.size w w.drew := (Below.refl _ _).drew
    have h9 := h.below hd
    have c0 : w.drew.cell? ⟨r, 2, none⟩ = some (.slice o q cap) := h9.f.c2
    have HGO := addG_of h9 ⟨s, 4, ep, t⟩
    have HN : Hid (d.words.length ≤ 1000000) := by show _ ≤ _; omega
    obtain ⟨g1, g2, g3, g4⟩ := HGO
    have G2 : Hid _ := g2
    have G3 : Hid _ := g3
    have G4 : Hid _ := g4
    have HD : Hid (Below w.heap.size w w.drew) := hd
    have mixed : Try.prog.follows Departure.mixedOrders = true := by kernel_rfl
    have g5 : (w.alloc (.cells #[.int .i64 s, .int .i64 4, .int .i64 ep, .int .i64 t] 59)).cell? ⟨r, 2, none⟩ = some (.slice o q cap) := g1
    clear g1
    clear h hl hn e hq ht g2 g3 g4 hd h9
    go_enter Try.func13, Try.ntmps13
    go_wp2_with (go_at_call 30; refine HL.mono ?_; rintro e w1 ⟨rfl, z8⟩; have z8 := z8.symm; subst z8)
    clear HL
    go_region_law_o (first
      | (refine step_call rfl 31 #[.tmp 18] (by intro b w; have hf := Try.func31; simp [go_sem]) #[.int .i64 now] (by simp [Act.eval, Act.put]) _ HC (by rintro e w' ⟨h, _⟩; exact ⟨_, h⟩) ?_; rintro u0 w2 ⟨hu0, z9⟩; obtain rfl : u0 = Value.int .i64 t := (by simpa using hu0); clear hu0; subst z9)
      | (refine step_appE (E := WdE) WdOk wdV rfl (.tmp 15) (.tmp 21) rfl B (.slice o q cap) d.words ⟨s, 4, ep, t⟩ (wd_fits _) (by simp [Act.eval]) G2.out w.drew.heap.size 1 (by simp [Act.eval]) (heap_new _ _ _ rfl) HN.out G3.out ?_; intro u0 w3 q1 q2 q3; obtain ⟨o2, n2, p2, rfl⟩ := wds_slice q1; obtain ⟨f1, f2, f3⟩ := G4.out w3 _ q1 q2 q3; have F3 : Hid _ := f3; clear q1 q2 q3 f3))
    all_goals
      go_wp2_with fail
      first | go_end0 | refine bodyPost_ret (results_none rfl _ _ _) rfl ?_
      exact ⟨rfl, RfTo.preD HD.out F3.out⟩
end Go.Proofs.Yteongcihannldaa
namespace Go.Proofs.Yteongcihannldaa
open Go Go.RowKit
set_option maxRecDepth 20000

theorem take_filter {α : Type} (p : α → Bool) {l : List α} {i : Nat} {x : α} (h : l[i]? = some x) : (l.take (i + 1)).filter p = (l.take i).filter p ++ if p x = true then [x] else [] := by
  rw [List.take_add_one, h, List.filter_append]
  simp only [Option.toList_some, List.filter_cons, List.filter_nil]
set_option maxHeartbeats 16000000 in
theorem rKeep21_any (B : Nat) (w : World) (r : Nat) (d : RfM) (vl vw : Value) (h : RfV B w r d vl vw) (hn : d.words.length ≤ 100000) (a b : Int) : Calls Try.prog 14 #[.pointer (some ⟨r, 0, none⟩), .int .i64 a, .int .i64 b] w fun e w' => e = .returned (.tuple #[]) ∧ RfTo B w w' r (keepF d a b) vl vw := by
  obtain ⟨o, cap, e, q1, q2⟩ := h.row.slice
  obtain ⟨q, hq⟩ : ∃ q, q = d.words.length := ⟨_, rfl⟩
  rw [← hq] at e q1
  rw [e] at h ⊢
  have HV : Hid (RfV B w r d vl (.slice o q cap)) := h
  have HQ : Hid (q = d.words.length) := hq
  have HN : Hid (d.words.length ≤ 100000) := hn
  unfold maxLen at q2
  clear h e hq hn
  have HU0 : Hid (WdsAt w.heap.size (w.alloc (.cells #[] 59)) (.slice (some ⟨w.heap.size, 0, none⟩) 0 0) []) := wds0 w
  have HB0 : Hid (Below w.heap.size w (w.alloc (.cells #[] 59))) := (Below.refl _ _).alloc (Nat.le_refl _) _
  go_enter Try.func14, Try.ntmps14
  go_wp2_with ((with_reducible refine wl_geW rfl ?_); refine wl_build0W rfl rfl ?_)
  go_loopw [6, 7] (fun s6 s7 wr => ∃ (i : Nat) (u : Value), i ≤ q ∧ s6 = u ∧ s7 = .int .i64 (i : Int) ∧ Hid (WdsAt w.heap.size wr u ((d.words.take i).filter (keepB a b))) ∧ Hid (Below w.heap.size w wr)) (fun _ s7 _ => q - (intOf s7).toNat)
  case atStart => exact ⟨0, _, Nat.zero_le _, rfl, rfl, HU0, HB0⟩
  case round =>
    obtain ⟨i, u, hi, hu, rfl, HU, HB⟩ := hrel
    obtain ⟨o6, n6, c6, e6⟩ := wds_slice HU.out
    obtain rfl := hu
    subst e6
    have HVr : Hid (RfV B wr r d vl (.slice o q cap)) := HV.out.below HB.out
    have c2 := HVr.out.f.c2
    by_cases hlt : i < q
    case neg =>
      obtain rfl : i = q := by omega
      have hlt' : ¬ (i : Int) < (i : Int) := by omega
      have hall : WdsAt w.heap.size wr (.slice o6 n6 c6) (d.words.filter (keepB a b)) := by
        have := HU.out
        rw [HQ.out, List.take_length] at this
        exact this
      obtain ⟨z1, z2, z3, z4⟩ := HV.out.putW (Kept.of_below HB.out) _ (gown_base hall HV.out.hw) (.inr fun k e => (World.ownsRow.lt hall k e).1)
      have Z : Hid (RfTo B w (wr.setCell ⟨r, 2, none⟩ (.slice o6 n6 c6)) r (keepF d a b) vl (.slice o i cap)) := ⟨_, _, z3, z4⟩
      clear z1 z3 z4 hall HU HVr
      go_wp2_with fail
      first | go_end0 | refine bodyPost_ret (results_none rfl _ _ _) rfl ?_
      exact ⟨rfl, Z.out⟩
    have hlt' : (i : Int) < (q : Int) := by omega
    obtain ⟨ga, offa, ca, cura, tya, fra, x, ev, hga, hcca, hxa, _⟩ := HVr.out.word (i := i) (by have := HQ.out; omega)
    simp only [Value.slice.injEq] at ev
    obtain ⟨rfl, hz9, rfl⟩ := ev
    clear hz9
    obtain ⟨wx, hwx⟩ : ∃ wx, wx = wr.alloc (.cells (wdV x) 59) := ⟨_, rfl⟩
    obtain ⟨px, hpx⟩ : ∃ px, px = wr.heap.size := ⟨_, rfl⟩
    have hbx : Below wr.heap.size wr wx := by rw [hwx]; exact (Below.refl _ _).alloc (Nat.le_refl _) _
    have HBx : Hid (Below w.heap.size w wx) := HB.out.trans (hbx.mono HB.out.size)
    have HUx : Hid (WdsAt w.heap.size wx (.slice o6 n6 c6) ((d.words.take i).filter (keepB a b))) := gown_below HU.out hbx
    have Ax : Hid (wx.heap[px]? = some (.cells (wdV x) 59 (0, 0))) := by show _ = _; rw [hwx, hpx]; exact heap_new _ _ _ rfl
    obtain ⟨k0, k1, k2, k3⟩ := wdf_of (off := 0) Ax.out fun j _ => by rw [Nat.zero_add]
    have SRx : (wr.alloc (.cells (wdV zeroWd) 59)).setRow wr.heap.size (wdV x) = wx := by rw [hwx]; exact setRow_new _ _ _ _ _ rfl
    obtain ⟨xk, hxk⟩ : ∃ xi, xi = x.kind := ⟨_, rfl⟩
    obtain ⟨xe, hxe⟩ : ∃ xi, xi = x.ep := ⟨_, rfl⟩
    have HS : Hid ((d.words.take (i + 1)).filter (keepB a b) = (d.words.take i).filter (keepB a b) ++ if ((xk != 2) || (xe == a) || (xe == b)) = true then [x] else []) := by show _ = _; rw [take_filter _ hxa, hxk, hxe]; rfl
    rw [← hxk] at k1
    rw [← hxe] at k2
    simp only [Nat.zero_add] at k1 k2
    have KGa : Hid (wr.heap[ga]? = some (.cells cura tya fra)) := hga
    have KCa : Hid (∀ j, j < 4 → cura[offa + i * 4 + j]? = (wdV x)[j]?) := hcca
    have HL : Hid (((d.words.take i).filter (keepB a b)).length ≤ 1000000) := by
      have h1 := List.length_filter_le (keepB a b) (d.words.take i)
      have h2 : (d.words.take i).length ≤ d.words.length := by rw [List.length_take]; omega
      have := HN.out
      show _ ≤ _
      omega
    clear hga hcca hxa hwx hxk hxe HVr hbx HU k0 k3
    go_wp2_with (first
      | ((with_reducible refine wl_gaW rfl ?_); refine wl_allocE21 (E := WdE) WdOk rfl rfl ?_)
      | ((with_reducible refine wl_glW _ rfl ?_); refine wl_loadE (E := WdE) WdOk rfl _ rfl ga (offa + i * 4) rfl cura tya fra (wdV x) rfl KGa.out KCa.out ?_)
      | ((with_reducible refine wl_gsW _ _ rfl ?_); refine wl_storeE (E := WdE) WdOk rfl _ _ rfl wr.heap.size (wdV x) (wd_fits x) rfl rfl _ (heap_new _ _ _ rfl) rfl _ SRx ?_; refine of_stopT ?_))
    unfold StopT
    rw [← hpx]
    clear SRx KGa KCa hpx c2
    by_cases hc : ((xk != 2) || (xe == a) || (xe == b)) = true
    · have HS2 : Hid ((d.words.take (i + 1)).filter (keepB a b) = (d.words.take i).filter (keepB a b) ++ [x]) := by show _ = _; rw [HS.out, if_pos hc]
      have HUy : Hid (∀ ob, WdsAt w.heap.size (wx.alloc ob) (.slice o6 n6 c6) ((d.words.take i).filter (keepB a b))) := fun ob => gown_below HUx.out ((Below.refl _ _).alloc (Nat.le_refl _) _)
      have HBy : Hid (∀ ob, Below w.heap.size w (wx.alloc ob)) := fun ob => HBx.out.alloc HBx.out.size _
      clear HS HUx
      cases b1 : (xk != 2)
      case' false => cases b2 : (xe == a)
      case' false.false => cases b3 : (xe == b)
      case' false.false.false => exact absurd hc (by rw [b1, b2, b3]; decide)
      all_goals
        clear hc
        go_wp2_with (first
          | ((with_reducible refine wl_glW _ rfl ?_); refine wl_loadE (E := WdE) WdOk rfl _ rfl px 0 rfl (wdV x) _ (0, 0) (wdV x) rfl Ax.out (fun j _ => by rw [Nat.zero_add]) ?_)
          | ((with_reducible refine wl_gbW _ rfl ?_); refine wl_buildE (E := WdE) WdOk rfl _ rfl (wdV x) rfl rfl ?_)
          | (at_builtin; refine wl_appendE (E := WdE) WdOk wdV rfl _ _ rfl w.heap.size (.slice o6 n6 c6) _ x (wd_fits _) rfl (HUy.out _) _ 1 rfl (heap_new _ _ _ rfl) HL.out (HBy.out _).size ?_; intro v7 w7 t1 t2 t3; refine of_stopT ?_))
        unfold StopT
        have HU7 : Hid (WdsAt w.heap.size w7 v7 ((d.words.take (i + 1)).filter (keepB a b))) := by show WdsAt _ _ _ _; rw [HS2.out]; exact t1
        have HB7 : Hid (Below w.heap.size w w7) := (HBy.out _).trans ((Below.refl _ _).grown t2 (HBy.out (.cells (wdV x) 59)).size fun k e => (World.ownsRow.lt (HUy.out (.cells (wdV x) 59)) k e).1)
        clear t1 t2 t3
        go_wp2_with fail
        go_roundw
        case rel => exact ⟨i + 1, v7, by omega, rfl, by go_num, HU7, HB7⟩
        case measure => simp [intOf]; omega
    · have HS2 : Hid (WdsAt w.heap.size wx (.slice o6 n6 c6) ((d.words.take (i + 1)).filter (keepB a b))) := by show WdsAt _ _ _ _; rw [HS.out, if_neg hc, List.append_nil]; exact HUx.out
      have hc' : xk = 2 ∧ ¬ xe = a ∧ ¬ xe = b := by simpa [and_assoc] using hc
      have b1 : (xk != 2) = false := by simp [hc'.1]
      have b2 : (xe == a) = false := by simp [hc'.2.1]
      have b3 : (xe == b) = false := by simp [hc'.2.2]
      clear hc hc' HS
      go_wp2_with fail
      go_roundw
      case rel => exact ⟨i + 1, _, by omega, rfl, by go_num, HS2, HBx⟩
      case measure => simp [intOf]; omega
end Go.Proofs.Yteongcihannldaa
