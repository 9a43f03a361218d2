import Derived.Test.YtpbinkmeldkehaaJ7
import Derived.Test.YtpbinkmeldkehaaJ4
import Derived.Deep.Slices
import Derived.SizedLaws
import Derived.Test.YtpbinkmeldkehaaJ6
import Derived.Test.YtpbinkmeldkehaaJ1
import Derived.Test.YtpbinkmeldkehaaJ5
import Derived.Maps.OwnSet
import Derived.Maps.OwnOps
import Derived.Carry
namespace Go.Proofs.Ytpbinkmeldkehaa
open Go Go.Lib Go.RowKit Ieee
set_option maxRecDepth 20000

/-- Floats in memory. -/
def flV (l : List Nat) : List Value := l.map (Value.float .f64)
theorem flV_len (l : List Nat) : (flV l).length = l.length := by simp [flV]
theorem flV_get {l : List Nat} {k : Nat} {c : Value} (h : (flV l)[k]? = some c) : ∃ x, c = .float .f64 x ∧ l[k]? = some x := by
  unfold flV at h
  rw [List.getElem?_map] at h
  cases hl : l[k]? with
  | none => rw [hl] at h; cases h
  | some x => rw [hl] at h; exact ⟨x, by simpa using h.symm, rfl⟩
def AllW (l : List Nat) : Prop := ∀ x ∈ l, Wd x
theorem AllW.at {l : List Nat} (h : AllW l) {k x : Nat} (hk : l[k]? = some x) : Wd x := h x (List.mem_of_getElem? hk)
def FSl (w : World) (v : Value) (l : List Nat) : Prop := VSl w v (flV l)
theorem FSl.slice {w : World} {v : Value} {l : List Nat} (h : FSl w v l) : ∃ o cap, v = .slice o l.length cap ∧ l.length ≤ cap ∧ cap ≤ maxLen := by
  have := VSl.slice h
  rwa [flV_len] at this
theorem FSl.at {w : World} {o : Option Addr} {n cap : Nat} {l : List Nat} (h : FSl w (.slice o n cap) l) (k : Nat) (hk : k < n) :
    ∃ g off x, o = some ⟨g, off, none⟩ ∧ w.cell? ⟨g, off + k, none⟩ = some (.float .f64 x) ∧ l[k]? = some x := by
  obtain ⟨g, off, c, h1, h2, h3⟩ := VSl.at h k hk
  obtain ⟨x, rfl, hx⟩ := flV_get h3
  exact ⟨g, off, x, h1, h2, hx⟩
end Go.Proofs.Ytpbinkmeldkehaa
namespace Go.Proofs.Ytpbinkmeldkehaa
open Go.ChangeShapes Go.WideShapes Go.ChangeAt Go.WideMaps Go.WideElems Go.RowKit
set_option maxRecDepth 20000

theorem trod_floatF {H : Type} {enc : TypeId × Value → H} {w : World} {base : Nat} {spare : Nat → Bool} {held : Bool} {fuel : Nat} {cs : List Value} {x : DataW H × List MemPlace} (h : DataW.trod enc Try.prog w base spare held fuel 22 cs = some x) : ∃ b, cs = [.float .f64 b] ∧ (Lit.float .f64 b).wf = true := by
  cases fuel with
  | zero => simp [DataW.trod] at h
  | succ n =>
    unfold DataW.trod at h
    rw [Try.underlying22] at h
    split at h <;> simp_all
theorem wd_wf {b : Nat} (h : (Lit.float .f64 b).wf = true) : Wd b := by
  rw [wd_iff]
  simpa [Lit.wf] using h
/-- Floats that come in. -/
theorem open_floats {H : Type} {enc : TypeId × Value → H} {W : World} {r : Reach} {b0 base : Nat} {spare : Nat → Bool} {held : Bool} {v : Value} {d : DataW H} {p : List MemPlace}
    (hok : Value.okWide Try.prog W r b0 29 v) (h : DataW.Trod enc Try.prog W base spare held 29 v d p) :
    ∃ l, FSl W v l ∧ AllW l := by
  have c1 : Try.prog.cellsOf 22 = 1 := by kernel_rfl
  obtain ⟨fuel, hf⟩ := h
  have hv1 : v.cells.toList = [v] := by
    simp only [Value.okWide, Cell.okWide, Cell.ok, Try.underlying29] at hok
    cases v <;> simp_all [Value.cells]
  rw [hv1] at hf
  rcases Deep.open_slice1 Try.underlying29 c1 hf with ⟨h0, _⟩ | ⟨a, len, cap, m, n, V, D, Pl, h0, hb, hl, hm, hmm, hx, hc⟩
  · obtain rfl : v = .slice none 0 0 := by simpa using h0
    exact ⟨[], vsl_nil W, fun x hx => by simp at hx⟩
  · obtain rfl : v = .slice (some a) len cap := by simpa using h0
    have hlm : len ≤ m := by rw [hmm]; split <;> omega
    have each : ∀ i, i < len → ∃ c : Nat, W.cell? (a.add i) = some (.float .f64 c) ∧ Wd c := fun i hi => by
      obtain ⟨h1, h2⟩ := hc i (by omega)
      obtain ⟨z, h3, h4⟩ := trod_floatF h2
      exact ⟨z, by rw [h1, show V i = .float .f64 z by simpa using h3], wd_wf h4⟩
    obtain ⟨f, hf⟩ := Deep.choose_lt each
    have hll : ((List.range len).map f).length = len := by simp
    refine ⟨(List.range len).map f, ⟨some a, cap, by rw [flV_len, hll], by rw [flV_len, hll]; exact hl, hm, (fun e => by cases e), fun i hi => ?_⟩, fun x hx => ?_⟩
    · rw [flV_len, hll] at hi
      have h1 := (hf i hi).1
      have h0' := (hf 0 (by omega)).1
      obtain ⟨g, off, spt⟩ := a
      have hsp : spt = none := by
        unfold World.cell? at h0'
        split at h0'
        · split at h0'
          · cases h0'
          · rename_i hs
            simpa [Addr.add] using hs
        · cases h0'
      subst hsp
      rw [add_formV] at h1
      unfold World.cell? at h1
      split at h1
      · rename_i cur t fr hq
        simp only at h1
        refine ⟨g, off, cur, t, fr, rfl, hq, ?_⟩
        unfold flV
        simpa using h1
      · cases h1
    · obtain ⟨i, hi, rfl⟩ := List.mem_map.1 hx
      exact (hf i (List.mem_range.1 hi)).2
end Go.Proofs.Ytpbinkmeldkehaa
namespace Go.Proofs.Ytpbinkmeldkehaa

/-! Dealing: its mathematics. Those who are there (th), what each has (ld), what each weighs (wt). -/
/-- May the number n be given the size? -/
def mayG (th : Nat → Bool) (ld : Nat → Int) (room size : Int) (but n : Nat) : Bool := th n && !(n == but) && !decide (room - ld n < size)
/-- The cheapest of the numbers 1 to k, and its cost. -/
def giveGo (th : Nat → Bool) (ld : Nat → Int) (wt : Nat → Nat) (room size : Int) (but : Nat) : Nat → Option (Nat × Nat)
  | 0 => none
  | k + 1 => if mayG th ld room size but (k + 1) then
      (match giveGo th ld wt room size but k with
      | none => some (k + 1, costT (ld (k + 1) + size) (wt (k + 1)))
      | some (m, y) => if placeT (costT (ld (k + 1) + size) (wt (k + 1))) < placeT y then some (k + 1, costT (ld (k + 1) + size) (wt (k + 1))) else some (m, y))
    else giveGo th ld wt room size but k
def gI (s : Option (Nat × Nat)) : Nat := match s with | none => 0 | some (n, _) => n
def gX (s : Option (Nat × Nat)) : Nat := match s with | none => 0 | some (_, x) => x
def giveN (th : Nat → Bool) (ld : Nat → Int) (wt : Nat → Nat) (room size : Int) (but : Nat) : Nat := gI (giveGo th ld wt room size but 6)
def ldUp (ld : Nat → Int) (n : Nat) (size : Int) (m : Nat) : Int := if m = n ∧ n ≠ 0 then ld m + size else ld m
theorem giveGo_in {th : Nat → Bool} {ld : Nat → Int} {wt : Nat → Nat} {room size : Int} {but : Nat} : ∀ {k n x : Nat}, giveGo th ld wt room size but k = some (n, x) → 1 ≤ n ∧ n ≤ k ∧ mayG th ld room size but n = true ∧ x = costT (ld n + size) (wt n)
  | 0, n, x, h => by cases h
  | k + 1, n, x, h => by
    unfold giveGo at h
    by_cases hm : mayG th ld room size but (k + 1) = true
    · rw [if_pos hm] at h
      cases hg : giveGo th ld wt room size but k with
      | none =>
        rw [hg] at h
        simp only [Option.some.injEq, Prod.mk.injEq] at h
        obtain ⟨rfl, rfl⟩ := h
        exact ⟨by omega, Nat.le_refl _, hm, rfl⟩
      | some p =>
        obtain ⟨m, y⟩ := p
        rw [hg] at h
        dsimp only at h
        split at h
        · simp only [Option.some.injEq, Prod.mk.injEq] at h
          obtain ⟨rfl, rfl⟩ := h
          exact ⟨by omega, Nat.le_refl _, hm, rfl⟩
        · cases h
          obtain ⟨h1, h2, h3, h4⟩ := giveGo_in hg
          exact ⟨h1, by omega, h3, h4⟩
    · rw [if_neg hm] at h
      obtain ⟨h1, h2, h3, h4⟩ := giveGo_in h
      exact ⟨h1, by omega, h3, h4⟩
theorem giveGo_none {th : Nat → Bool} {ld : Nat → Int} {wt : Nat → Nat} {room size : Int} {but : Nat} : ∀ {k : Nat}, (∀ n, 1 ≤ n → n ≤ k → mayG th ld room size but n = false) → giveGo th ld wt room size but k = none
  | 0, _ => rfl
  | k + 1, h => by
    unfold giveGo
    rw [h (k + 1) (by omega) (Nat.le_refl _)]
    simp only [Bool.false_eq_true, if_false]
    exact giveGo_none fun n h1 h2 => h n h1 (by omega)
theorem giveGo_some {th : Nat → Bool} {ld : Nat → Int} {wt : Nat → Nat} {room size : Int} {but : Nat} : ∀ {k n : Nat}, 1 ≤ n → n ≤ k → mayG th ld room size but n = true → ∃ p, giveGo th ld wt room size but k = some p
  | 0, n, h1, h2, _ => by omega
  | k + 1, n, h1, h2, hm => by
    unfold giveGo
    by_cases hk : mayG th ld room size but (k + 1) = true
    · rw [if_pos hk]
      cases giveGo th ld wt room size but k with
      | none => exact ⟨_, rfl⟩
      | some p =>
        obtain ⟨m, y⟩ := p
        dsimp only
        split
        · exact ⟨_, rfl⟩
        · exact ⟨_, rfl⟩
    · rw [if_neg hk]
      by_cases he : n = k + 1
      · subst he; exact absurd hm hk
      · exact giveGo_some h1 (by omega) hm
theorem giveN_in {th : Nat → Bool} {ld : Nat → Int} {wt : Nat → Nat} {room size : Int} {but n : Nat} (h : giveN th ld wt room size but = n) (hn : n ≠ 0) : 1 ≤ n ∧ n ≤ 6 ∧ th n = true ∧ n ≠ but ∧ ld n + size ≤ room := by
  unfold giveN at h
  cases hg : giveGo th ld wt room size but 6 with
  | none => rw [hg] at h; exact absurd h.symm hn
  | some p =>
    obtain ⟨m, y⟩ := p
    rw [hg] at h
    obtain rfl : m = n := h
    obtain ⟨h1, h2, h3, _⟩ := giveGo_in hg
    unfold mayG at h3
    simp only [Bool.and_eq_true, Bool.not_eq_true', decide_eq_false_iff_not, beq_eq_false_iff_ne] at h3
    exact ⟨h1, h2, h3.1.1, h3.1.2, by omega⟩
/-- What a leaf is given, and what all have then. -/
def oneOf (th : Nat → Bool) (wt : Nat → Nat) (room : Int) (ld : Nat → Int) (size : Int) : Nat := giveN th ld wt room size 0
def twoOf (th : Nat → Bool) (wt : Nat → Nat) (room : Int) (ld : Nat → Int) (size : Int) : Nat := giveN th (ldUp ld (oneOf th wt room ld size) size) wt room size (oneOf th wt room ld size)
def nextL (th : Nat → Bool) (wt : Nat → Nat) (room : Int) (ld : Nat → Int) (size : Int) : Nat → Int := ldUp (ldUp ld (oneOf th wt room ld size) size) (twoOf th wt room ld size) size
def badG (th : Nat → Bool) (wt : Nat → Nat) (room : Int) (cnt : Nat) (ld : Nat → Int) (size : Int) : Bool := oneOf th wt room ld size == 0 || (twoOf th wt room ld size == 0 && decide (1 < cnt))
def dealF (th : Nat → Bool) (wt : Nat → Nat) (room : Int) (cnt : Nat) (s : Nat → Int) : List Nat → (Nat → Int) → (Nat → Nat × Nat) → Option ((Nat → Int) × (Nat → Nat × Nat))
  | [], ld, out => some (ld, out)
  | i :: o, ld, out => if badG th wt room cnt ld (s i) then none else dealF th wt room cnt s o (nextL th wt room ld (s i)) (fun j => if j = i then (oneOf th wt room ld (s i), twoOf th wt room ld (s i)) else out j)
theorem deal_app {th : Nat → Bool} {wt : Nat → Nat} {room : Int} {cnt : Nat} {s : Nat → Int} : ∀ (A B : List Nat) (ld : Nat → Int) (out : Nat → Nat × Nat), dealF th wt room cnt s (A ++ B) ld out = (dealF th wt room cnt s A ld out).bind fun p => dealF th wt room cnt s B p.1 p.2
  | [], B, ld, out => rfl
  | i :: A, B, ld, out => by
    rw [List.cons_append, dealF, dealF]
    split
    · rfl
    · exact deal_app A B _ _
end Go.Proofs.Ytpbinkmeldkehaa
namespace Go.Proofs.Ytpbinkmeldkehaa
open Go Go.RowKit
set_option maxRecDepth 20000

theorem wl_minI {ops : Array Oper} {rest : List Oper} {o : Oper} {a : Act} {w : World} {Q : Exit → Act → World → Prop} (hgd : o.guard = none) (x y : Operand) (ho : o.op = .call { callee := .builtin .min, args := #[x, y], argTypes := #[3, 3] })
    (p q r : Int) (hx : a.eval x = .int .i64 p) (hy : a.eval y = .int .i64 q) (hr : r = min p q) (h : wpList Try.prog ops Q rest (a.put o.dst (.int .i64 r)) w) : wpList Try.prog ops Q (o :: rest) a w := by
  obtain ⟨dst, op, ty, pos, after, guard⟩ := o
  subst ho
  have hr : (execOp a.eval ⟨dst, .call { callee := .builtin .min, args := #[x, y], argTypes := #[3, 3] }, ty, pos, after, guard⟩).run Try.prog w = .ok (.value (.int .i64 r)) w := by
    subst hr
    by_cases h1 : p ≤ q
    · rw [show min p q = p by omega]
      unfold execOp
      simp [resolve, invoke, builtin, hx, hy, Builtin.min_, Builtin.min2]
      all_goals omega
    · rw [show min p q = q by omega]
      unfold execOp
      simp [resolve, invoke, builtin, hx, hy, Builtin.min_, Builtin.min2]
      all_goals omega
  refine wpList_plain hgd fun K hK => ?_
  unfold Oper.wp
  rw [hr]
  exact hK _ _ h
theorem wl_maxI {ops : Array Oper} {rest : List Oper} {o : Oper} {a : Act} {w : World} {Q : Exit → Act → World → Prop} (hgd : o.guard = none) (x y : Operand) (ho : o.op = .call { callee := .builtin .max, args := #[x, y], argTypes := #[3, 3] })
    (p q r : Int) (hx : a.eval x = .int .i64 p) (hy : a.eval y = .int .i64 q) (hr : r = max p q) (h : wpList Try.prog ops Q rest (a.put o.dst (.int .i64 r)) w) : wpList Try.prog ops Q (o :: rest) a w := by
  obtain ⟨dst, op, ty, pos, after, guard⟩ := o
  subst ho
  have hr : (execOp a.eval ⟨dst, .call { callee := .builtin .max, args := #[x, y], argTypes := #[3, 3] }, ty, pos, after, guard⟩).run Try.prog w = .ok (.value (.int .i64 r)) w := by
    subst hr
    by_cases h1 : q ≤ p
    · rw [show max p q = p by omega]
      unfold execOp
      simp [resolve, invoke, builtin, hx, hy, Builtin.max_, Builtin.max2]
      all_goals omega
    · rw [show max p q = q by omega]
      unfold execOp
      simp [resolve, invoke, builtin, hx, hy, Builtin.max_, Builtin.max2]
      all_goals omega
  refine wpList_plain hgd fun K hK => ?_
  unfold Oper.wp
  rw [hr]
  exact hK _ _ h
end Go.Proofs.Ytpbinkmeldkehaa
namespace Go.Proofs.Ytpbinkmeldkehaa
open Go Go.Lib Go.RowKit
set_option maxRecDepth 20000

/-! The map of loads. -/
theorem mapT : Try.prog.underlying 68 = some (.map 3 3) := Try.underlying68
theorem keyedI : Maps.Keyed Try.prog 3 := Maps.int_keyed Try.underlying3
theorem zeroI (w : World) : (zeroValue 3).run Try.prog w = .ok (.int .i64 0) w := by kernel_rfl
theorem wfI {a : Int} (h1 : -9223372036854775808 ≤ a) (h2 : a ≤ 9223372036854775807) : (Lit.int .i64 a).wf = true := by
  simp [Lit.wf, IntKind.min, IntKind.max, IntKind.bits, IntKind.signed]
  omega
def litI (n : Nat) : Lit := .int .i64 (n : Int)
theorem keyI {n : Nat} (h : n ≤ 6) : keyOf Try.prog 3 (.int .i64 (n : Int)) = some (litI n) := Maps.keyOf_int_mk Try.underlying3 (wfI (by omega) (by omega))
theorem litI_ne {n m : Nat} (h : n ≠ m) : litI n ≠ litI m := fun e => h (by unfold litI at e; simp only [Lit.int.injEq, true_and] at e; omega)
theorem litI_key (n : Nat) : WideAt.IsKeyLit (litI n) := by unfold litI; simp [WideAt.IsKeyLit]
/-- How many of 1 to 6 are there. -/
def cntT (th : Nat → Bool) : Nat := (th 1).toNat + (th 2).toNat + (th 3).toNat + (th 4).toNat + (th 5).toNat + (th 6).toNat
def updB (th : Nat → Bool) (k m : Nat) : Bool := if m = k then true else th m
def updI (ld : Nat → Int) (k : Nat) (v : Int) (m : Nat) : Int := if m = k then v else ld m
theorem cnt_upd (th : Nat → Bool) (k : Nat) (h1 : 1 ≤ k) (h2 : k ≤ 6) : cntT (updB th k) = if th k then cntT th else cntT th + 1 := by
  rcases (show k = 1 ∨ k = 2 ∨ k = 3 ∨ k = 4 ∨ k = 5 ∨ k = 6 by omega) with rfl | rfl | rfl | rfl | rfl | rfl <;> (unfold cntT updB; simp; split <;> simp_all <;> omega)
theorem cnt_le (th : Nat → Bool) : cntT th ≤ 6 := by
  unfold cntT
  have h : ∀ b : Bool, b.toNat ≤ 1 := fun b => by cases b <;> simp
  have := h (th 1); have := h (th 2); have := h (th 3); have := h (th 4); have := h (th 5); have := h (th 6)
  omega
def MapL (w : World) (g : Nat) (th : Nat → Bool) (ld : Nat → Int) : Prop :=
  ∃ D : DataW Unit, w.ownsMap Try.prog 3 (plainElem Try.prog 3) g 6 D ∧ (∀ k, 1 ≤ k → k ≤ 6 → Maps.has D (litI k) = th k ∧ D.atKey (litI k) (.lit (.int .i64 0)) = .lit (.int .i64 (if th k then ld k else 0))) ∧ Maps.size D = cntT th
theorem own_tight {w : World} {g n : Nat} {D : DataW Unit} (h : w.ownsMap Try.prog 3 (plainElem Try.prog 3) g n D) : w.ownsMap Try.prog 3 (plainElem Try.prog 3) g (Maps.size D) D := by
  obtain ⟨es, clock, h1, h2, h3, rfl⟩ := h
  exact ⟨es, clock, h1, h2, by simp [Maps.size, length_sorted], rfl⟩
theorem MapL.new (w : World) : MapL (w.alloc (.map #[] 0)) w.heap.size (fun _ => false) (fun _ => 0) :=
  ⟨.map [], (World.ownsMap_made w _ _ _).mono (by omega), fun k _ _ => ⟨rfl, rfl⟩, rfl⟩
theorem MapL.below {w w' : World} {g : Nat} {th : Nat → Bool} {ld : Nat → Int} (h : MapL w g th ld) (hb : Below w.heap.size w w') : MapL w' g th ld := by
  obtain ⟨D, ⟨es, clock, h0, h1⟩, h2, h3⟩ := h
  exact ⟨D, ⟨es, clock, (hb.block _ (Array.getElem?_eq_some_iff.1 h0).1).trans h0, h1⟩, h2, h3⟩
theorem MapL.lt {w : World} {g : Nat} {th : Nat → Bool} {ld : Nat → Int} (h : MapL w g th ld) : g < w.heap.size := by
  obtain ⟨D, h1, _⟩ := h
  exact h1.lt
theorem MapL.look {w : World} {g : Nat} {th : Nat → Bool} {ld : Nat → Int} (h : MapL w g th ld) (k : Nat) (h1 : 1 ≤ k) (h2 : k ≤ 6) :
    (Instr.lookup 68 (.map (some g)) (.int .i64 (k : Int)) true).run Try.prog w = .ok (.tuple #[.int .i64 (if th k then ld k else 0), .bool (th k)]) w := by
  obtain ⟨D, ho, hd, _⟩ := h
  obtain ⟨v, ps, hrun, hv⟩ := ho.look_ok keyedI mapT (zeroI w) (plainElem_int Try.underlying3 (by decide)) (keyI h2)
  obtain ⟨e1, e2⟩ := hd k h1 h2
  rw [e1] at hrun
  obtain ⟨c, rfl, hc, _⟩ := plainElem_int_inv Try.underlying3 hv
  have h3 := congrArg Prod.fst hc
  simp only at h3
  rw [e2] at h3
  simp only [DataW.lit.injEq, Lit.int.injEq, true_and] at h3
  rw [hrun, h3]
theorem MapL.get {w : World} {g : Nat} {th : Nat → Bool} {ld : Nat → Int} (h : MapL w g th ld) (k : Nat) (h1 : 1 ≤ k) (h2 : k ≤ 6) :
    (Instr.lookup 68 (.map (some g)) (.int .i64 (k : Int)) false).run Try.prog w = .ok (.int .i64 (if th k then ld k else 0)) w := by
  obtain ⟨D, ho, hd, _⟩ := h
  obtain ⟨c, hrun, hat, _⟩ := ho.lookup_int keyedI mapT Try.underlying3 (zeroI w) (keyI h2)
  obtain ⟨e1, e2⟩ := hd k h1 h2
  rw [e2] at hat
  simp only [DataW.lit.injEq, Lit.int.injEq, true_and] at hat
  rw [hrun, hat]
theorem MapL.len {w : World} {g : Nat} {th : Nat → Bool} {ld : Nat → Int} (h : MapL w g th ld) (ty : TypeId) : (Builtin.len_ #[68] ty #[.map (some g)]).run Try.prog w = .ok (.int .i64 (cntT th : Nat)) w := by
  obtain ⟨D, ho, _, hs⟩ := h
  rw [← hs]
  exact ho.len mapT ty
theorem MapL.put {w : World} {g : Nat} {th : Nat → Bool} {ld : Nat → Int} (h : MapL w g th ld) (k : Nat) (h1 : 1 ≤ k) (h2 : k ≤ 6) (v : Int) (hv1 : -9223372036854775808 ≤ v) (hv2 : v ≤ 9223372036854775807) :
    ∃ w', (Instr.mapUpdate 68 (.map (some g)) (.int .i64 (k : Int)) (.int .i64 v)).run Try.prog w = .ok () w' ∧ MapL w' g (updB th k) (updI ld k v) ∧ w.grownBy w' (some g) := by
  obtain ⟨D, ho, hd, hs⟩ := h
  have hT := ho.tidy keyedI
  have hM := ho.isMap
  obtain ⟨w', hrun, h3, h4⟩ := ho.update keyedI mapT (by unfold maxLen; omega) (keyI h2) (plainElem_int (H := Unit) Try.underlying3 (wfI hv1 hv2))
  refine ⟨w', hrun, ⟨D.put (litI k) (.lit (.int .i64 v)), ?_, fun m m1 m2 => ?_, ?_⟩, h4⟩
  · refine (own_tight h3).mono ?_
    rw [Maps.size_put hT, (hd k h1 h2).1, hs, ← cnt_upd th k h1 h2]
    exact cnt_le _
  · by_cases e : m = k
    · subst e
      rw [Maps.has_put_same hM (litI_key _), Maps.atKey_put_same hM (litI_key _)]
      simp [updB, updI]
    · rw [Maps.has_put_other (litI_ne e), Maps.atKey_put_other (litI_ne e)]
      obtain ⟨e1, e2⟩ := hd m m1 m2
      unfold updB updI
      rw [if_neg e, if_neg e]
      exact ⟨e1, e2⟩
  · rw [Maps.size_put hT, (hd k h1 h2).1, hs, cnt_upd th k h1 h2]
theorem MapL.congr {w : World} {g : Nat} {th th' : Nat → Bool} {ld ld' : Nat → Int} (h : MapL w g th ld) (ht : ∀ k, 1 ≤ k → k ≤ 6 → th k = th' k) (hl : ∀ k, 1 ≤ k → k ≤ 6 → th k = true → ld k = ld' k) : MapL w g th' ld' := by
  obtain ⟨D, h1, h2, h3⟩ := h
  refine ⟨D, h1, fun k k1 k2 => ?_, ?_⟩
  · obtain ⟨e1, e2⟩ := h2 k k1 k2
    refine ⟨by rw [e1, ht k k1 k2], ?_⟩
    rw [e2, ← ht k k1 k2]
    cases hb : th k with
    | false => rfl
    | true => rw [if_pos rfl, if_pos rfl, hl k k1 k2 hb]
  · rw [h3]
    unfold cntT
    rw [ht 1 (by omega) (by omega), ht 2 (by omega) (by omega), ht 3 (by omega) (by omega), ht 4 (by omega) (by omega), ht 5 (by omega) (by omega), ht 6 (by omega) (by omega)]
/-- Numbers in memory. -/
def inI (z : List Int) : List Value := z.map (Value.int .i64)
theorem inI_len (z : List Int) : (inI z).length = z.length := by simp [inI]
abbrev ISl (w : World) (v : Value) (z : List Int) : Prop := VSl w v (inI z)
theorem ISl.slice {w : World} {v : Value} {z : List Int} (h : ISl w v z) : ∃ o cap, v = .slice o z.length cap ∧ z.length ≤ cap ∧ cap ≤ maxLen := by
  have := VSl.slice h
  rwa [inI_len] at this
theorem ISl.at {w : World} {o : Option Addr} {n cap : Nat} {z : List Int} (h : ISl w (.slice o n cap) z) (k : Nat) (hk : k < n) : ∃ g off x cur t fr, o = some ⟨g, off, none⟩ ∧ w.heap[g]? = some (.cells cur t fr) ∧ cur[off + k]? = some (.int .i64 x) ∧ z[k]? = some x := by
  obtain ⟨g, off, c, h1, ⟨cur, t, fr, h2, h3⟩, h4⟩ := VSl.row h k hk
  unfold inI at h4
  rw [List.getElem?_map] at h4
  cases hz : z[k]? with
  | none => rw [hz] at h4; cases h4
  | some x =>
    rw [hz] at h4
    obtain rfl : Value.int .i64 x = c := Option.some.inj h4
    exact ⟨g, off, x, cur, t, fr, h1, h2, h3, rfl⟩
/-- Who is there. -/
def thT (z : List Int) (n : Nat) : Bool := z.any fun x => x == (n : Int)
theorem th_take {z : List Int} {k : Nat} {x : Int} (h : z[k]? = some x) (n : Nat) : thT (z.take (k + 1)) n = (thT (z.take k) n || x == (n : Int)) := by
  unfold thT
  rw [List.take_add_one, h, List.any_append]
  simp
end Go.Proofs.Ytpbinkmeldkehaa
namespace Go.Proofs.Ytpbinkmeldkehaa
open Go.ChangeShapes Go.WideShapes Go.ChangeAt Go.WideMaps Go.WideElems Go.RowKit
set_option maxRecDepth 20000

/-- Ints that come in. -/
theorem open_ints13 {H : Type} {enc : TypeId × Value → H} {W : World} {r : Reach} {b0 base : Nat} {spare : Nat → Bool} {held : Bool} {v : Value} {d : DataW H} {p : List MemPlace}
    (hok : Value.okWide Try.prog W r b0 28 v) (h : DataW.Trod enc Try.prog W base spare held 28 v d p) :
    ∃ z, ISl W v z ∧ ∀ x ∈ z, -9223372036854775808 ≤ x ∧ x ≤ 9223372036854775807 := by
  have c1 : Try.prog.cellsOf 3 = 1 := by kernel_rfl
  obtain ⟨fuel, hf⟩ := h
  have hv1 : v.cells.toList = [v] := by
    simp only [Value.okWide, Cell.okWide, Cell.ok, Try.underlying28] at hok
    cases v <;> simp_all [Value.cells]
  rw [hv1] at hf
  rcases Deep.open_slice1 Try.underlying28 c1 hf with ⟨h0, _⟩ | ⟨a, len, cap, m, n, V, D, Pl, h0, hb, hl, hm, hmm, hx, hc⟩
  · obtain rfl : v = .slice none 0 0 := by simpa using h0
    exact ⟨[], vsl_nil W, fun x hx => by simp at hx⟩
  · obtain rfl : v = .slice (some a) len cap := by simpa using h0
    have hlm : len ≤ m := by rw [hmm]; split <;> omega
    have each : ∀ i, i < len → ∃ c : Int, W.cell? (a.add i) = some (.int .i64 c) ∧ -9223372036854775808 ≤ c ∧ c ≤ 9223372036854775807 := fun i hi => by
      obtain ⟨h1, h2⟩ := hc i (by omega)
      obtain ⟨z, h3, _, h4⟩ := DataW.trod_int Try.underlying3 h2
      have hb := bounds_i64 h4
      exact ⟨z, by rw [h1, show V i = .int .i64 z by simpa using h3], by omega, by omega⟩
    obtain ⟨f, hf⟩ := Deep.choose_lt each
    have hll : ((List.range len).map f).length = len := by simp
    refine ⟨(List.range len).map f, ⟨some a, cap, by rw [inI_len, hll], by rw [inI_len, hll]; exact hl, hm, (fun e => by cases e), fun i hi => ?_⟩, fun x hx => ?_⟩
    · rw [inI_len, hll] at hi
      have h1 := (hf i hi).1
      have h0' := (hf 0 (by omega)).1
      obtain ⟨g, off, spt⟩ := a
      have hsp : spt = none := by
        unfold World.cell? at h0'
        split at h0'
        · split at h0'
          · cases h0'
          · rename_i hs
            simpa [Addr.add] using hs
        · cases h0'
      subst hsp
      rw [add_formV] at h1
      unfold World.cell? at h1
      split at h1
      · rename_i cur t fr hq
        simp only at h1
        refine ⟨g, off, cur, t, fr, rfl, hq, ?_⟩
        unfold inI
        simpa using h1
      · cases h1
    · obtain ⟨i, hi, rfl⟩ := List.mem_map.1 hx
      exact (hf i (List.mem_range.1 hi)).2
end Go.Proofs.Ytpbinkmeldkehaa
namespace Go.Proofs.Ytpbinkmeldkehaa
open Go Go.Lib Go.RowKit
set_option maxRecDepth 20000

set_option maxHeartbeats 4000000 in
/-- deal.begin. -/
theorem begin_any (z : List Int) (v : Value) (w : World) (hz : ISl w v z) :
    Calls Try.prog 42 #[v] w fun e w' => ∃ g, e = .returned (.map (some g)) ∧ w.heap.size ≤ g ∧ MapL w' g (thT z) (fun _ => 0) ∧ Below w.heap.size w w' := by
  obtain ⟨o, cap, rfl, hc1, hc2⟩ := hz.slice
  obtain ⟨n, hn⟩ : ∃ n, n = z.length := ⟨_, rfl⟩
  have HN : Hid (n = z.length) := hn
  rw [← hn] at hz hc1 ⊢
  have HZ : Hid (ISl w (.slice o n cap) z) := hz
  unfold maxLen at hc2
  have M0 : Hid (MapL (w.alloc (.map #[] 0)) w.heap.size (thT (z.take 0)) (fun _ => 0)) := MapL.congr (MapL.new w) (fun k _ _ => rfl) (fun k _ _ _ => rfl)
  have hmm := @run_makeMap Try.prog
  clear hz hn
  go_enter Try.func42, Try.ntmps42
  go_wp2_with fail
  go_loopw [9] (fun i wr => ∃ k : Nat, k ≤ n ∧ i = .int .i64 (k : Int) ∧ Hid (MapL wr w.heap.size (thT (z.take k)) (fun _ => 0)) ∧ Hid (Below w.heap.size w wr)) (fun i _ => n - (intOf i).toNat)
  case atStart => exact ⟨0, Nat.zero_le _, rfl, M0, (Below.refl _ _).alloc (Nat.le_refl _) _⟩
  case round =>
    obtain ⟨k, hk, rfl, HM, HB⟩ := hrel
    by_cases hlt : k < n
    · have hlt' : (k : Int) < (n : Int) := by omega
      obtain ⟨g, off, x, cur, t, fr, rfl, hg, hx, hzk⟩ := ISl.at (VSl.below HZ.out HB.out) k hlt
      have hcx : wr.cell? ⟨g, off + k, none⟩ = some (.int .i64 x) := (cell_of_row _ _ _ _ _ _ hg).trans hx
      have TH : Hid (∀ m, thT (z.take (k + 1)) m = (thT (z.take k) m || x == (m : Int))) := th_take hzk
      clear hg hx hzk
      by_cases h1 : 1 ≤ x
      · have h1' : decide (x ≥ 1) = true := by simpa using h1
        have h1'' : decide (1 ≤ x) = true := by simpa using h1
        by_cases h6 : x ≤ 6
        · have h6' : decide (x ≤ 6) = true := by simpa using h6
          obtain ⟨m, rfl⟩ := Int.eq_ofNat_of_zero_le (show 0 ≤ x by omega)
          obtain ⟨w1, hrun, hM1, hgr⟩ := HM.out.put m (by omega) (by omega) 0 (by omega) (by omega)
          have M1 : Hid (MapL w1 w.heap.size (thT (z.take (k + 1))) (fun _ => 0)) := by
            refine MapL.congr hM1 (fun j _ _ => ?_) (fun j _ _ _ => ?_)
            · rw [TH.out j]
              unfold updB
              by_cases e : j = m
              · subst e; simp
              · rw [if_neg e]
                have : (((m : Nat) : Int) == (j : Int)) = false := by simp; omega
                rw [this, Bool.or_false]
            · unfold updI; split <;> rfl
          have B1 : Hid (Below w.heap.size w w1) := HB.out.trans ((Below.refl _ _).grown hgr HB.out.size (fun j hj => by cases hj; exact Nat.le_refl _))
          clear hM1 hgr HM HB
          go_wp2_with fail
          go_roundw
          case rel => exact ⟨k + 1, by omega, by go_num, M1, B1⟩
          case measure => simp [intOf]; omega
        · have h6' : decide (x ≤ 6) = false := by simpa using h6
          have M1 : Hid (MapL wr w.heap.size (thT (z.take (k + 1))) (fun _ => 0)) := MapL.congr HM.out (fun j _ h => by
            rw [TH.out j]
            have : (x == (j : Int)) = false := by simp; omega
            rw [this, Bool.or_false]) (fun j _ _ _ => rfl)
          clear HM
          go_wp2_with fail
          go_roundw
          case rel => exact ⟨k + 1, by omega, by go_num, M1, HB⟩
          case measure => simp [intOf]; omega
      · have h1' : decide (x ≥ 1) = false := by simpa using h1
        have h1'' : decide (1 ≤ x) = false := by simpa using h1
        have M1 : Hid (MapL wr w.heap.size (thT (z.take (k + 1))) (fun _ => 0)) := MapL.congr HM.out (fun j h _ => by
            rw [TH.out j]
            have : (x == (j : Int)) = false := by simp; omega
            rw [this, Bool.or_false]) (fun j _ _ _ => rfl)
        clear HM
        go_wp2_with fail
        go_roundw
        case rel => exact ⟨k + 1, by omega, by go_num, M1, HB⟩
        case measure => simp [intOf]; omega
    · have hlt' : ¬ (k : Int) < (n : Int) := by omega
      have M1 : Hid (MapL wr w.heap.size (thT z) (fun _ => 0)) := by
        have h := HM.out
        rw [List.take_of_length_le (by have := HN.out; omega)] at h
        exact h
      go_wp2_with fail
      go_ret
      exact ⟨_, rfl, Nat.le_refl _, M1.out, HB.out⟩
end Go.Proofs.Ytpbinkmeldkehaa
namespace Go.Proofs.Ytpbinkmeldkehaa
open Go Go.Lib Go.RowKit
set_option maxRecDepth 20000

/-! What a call leaves as it was. -/
structure Kept (X : Nat → Prop) (w w' : World) : Prop where
  os : w'.os = w.os
  tape : w'.tape = w.tape
  output : w'.output = w.output
  size : w.heap.size ≤ w'.heap.size
  block : ∀ k, k < w.heap.size → ¬ X k → w'.heap[k]? = w.heap[k]?
theorem Kept.refl (X : Nat → Prop) (w : World) : Kept X w w := ⟨rfl, rfl, rfl, Nat.le_refl _, fun _ _ _ => rfl⟩
theorem Kept.of_below {X : Nat → Prop} {w w' : World} (h : Below w.heap.size w w') : Kept X w w' := ⟨h.os, h.tape, h.output, h.size, fun k hk _ => h.block k hk⟩
theorem Kept.of_grown {X : Nat → Prop} {w w' : World} {row : Option Nat} (h : w.grownBy w' row) (hr : ∀ k, row = some k → X k) : Kept X w w' :=
  ⟨h.os, h.tape, h.output, h.size, fun k hk hX => h.block k hk fun e => hX (hr k e.symm)⟩
theorem Kept.trans {X Y : Nat → Prop} {w w1 w2 : World} (h : Kept X w w1) (h' : Kept Y w1 w2) (hY : ∀ k, Y k → X k ∨ w.heap.size ≤ k) : Kept X w w2 :=
  ⟨h'.os.trans h.os, h'.tape.trans h.tape, h'.output.trans h.output, Nat.le_trans h.size h'.size, fun k hk hX => by
    rw [h'.block k (Nat.lt_of_lt_of_le hk h.size) (fun hy => by rcases hY k hy with e | e; exact hX e; omega)]
    exact h.block k hk hX⟩
theorem Kept.mono {X Y : Nat → Prop} {w w' : World} (h : Kept X w w') (hXY : ∀ k, k < w.heap.size → X k → Y k) : Kept Y w w' := ⟨h.os, h.tape, h.output, h.size, fun k hk hY => h.block k hk fun hX => hY (hXY k hk hX)⟩
theorem Kept.below {X : Nat → Prop} {w w' : World} {B : Nat} (h : Kept X w w') (hX : ∀ k, X k → B ≤ k) (hB : B ≤ w.heap.size) : Below B w w' :=
  ⟨h.os, h.tape, h.output, h.size, fun k hk => h.block k (by omega) fun hx => by have := hX k hx; omega⟩
theorem Kept.add {X : Nat → Prop} {w w1 w2 : World} (h : Kept X w w1) (h' : Below w1.heap.size w1 w2) : Kept X w w2 := h.trans (Y := fun _ => False) (Kept.of_below h') fun _ h => h.elim
theorem Kept.pre {X : Nat → Prop} {w w1 w2 : World} (h : Below w.heap.size w w1) (h' : Kept X w1 w2) : Kept X w w2 := (Kept.of_below (X := X) h).trans h' fun _ hk => .inl hk
theorem Kept.heap {X : Nat → Prop} {w w' : World} {k : Nat} {o : Obj} (h : Kept X w w') (hk : w.heap[k]? = some o) (hX : ¬ X k) : w'.heap[k]? = some o := (h.block k (Array.getElem?_eq_some_iff.1 hk).1 hX).trans hk
theorem Kept.own {X : Nat → Prop} {w w' : World} (h : Kept X w w') {B : Nat} {e : TypeId} {s : Nat} {v : Value} {n : Nat} {xs : List Value} (ho : w.ownsRow B e s v n xs) (hX : ∀ k, v.ownBlock = some k → ¬ X k) : w'.ownsRow B e s v n xs := by
  obtain ⟨h1, h2 | ⟨g, cap, cur, rfl, hB, hcur, h3⟩⟩ := ho
  · exact ⟨h1, .inl h2⟩
  · exact ⟨h1, .inr ⟨g, cap, cur, rfl, hB, h.heap hcur (hX g rfl), h3⟩⟩

theorem Kept.map {X : Nat → Prop} {w w' : World} {g : Nat} {th : Nat → Bool} {ld : Nat → Int} (hk : Kept X w w') (h : MapL w g th ld) (hX : ¬ X g) : MapL w' g th ld := by
  obtain ⟨D, ⟨es, clock, h0, h1⟩, h2, h3⟩ := h
  exact ⟨D, ⟨es, clock, hk.heap h0 hX, h1⟩, h2, h3⟩
/-- The table, as it is handed on. -/
def tabA (g : Nat) (vw : Value) (room : Int) : Array Value := #[.map (some g), vw, .int .i64 room]
def wtT (l : List Nat) (n : Nat) : Nat := l.getD (n - 1) 0
theorem wt_wd {l : List Nat} (h : AllW l) (n : Nat) : Wd (wtT l n) := by
  unfold wtT
  rw [List.getD]
  cases hx : l[n - 1]? with
  | none => rw [wd_iff]; simp
  | some x => exact h.at hx
set_option maxHeartbeats 4000000 in
theorem weight_any (g : Nat) (l : List Nat) (vw : Value) (room : Int) (n : Nat) (hn1 : 1 ≤ n) (hn2 : n ≤ 6) (w : World) (hL : FSl w vw l) :
    Calls Try.prog 57 #[.agg (tabA g vw room), .int .i64 (n : Int)] w fun e w' => e = .returned (.float .f64 (wtT l n)) ∧ Below w.heap.size w w' := by
  obtain ⟨o, cap, rfl, hc1, hc2⟩ := hL.slice
  unfold maxLen at hc2
  obtain ⟨m, hm⟩ : ∃ m, m = l.length := ⟨_, rfl⟩
  have HM : Hid (m = l.length) := hm
  rw [← hm] at hL hc1 ⊢
  unfold tabA
  have B0 : Hid (Below w.heap.size w (w.alloc (.cells #[.map (some g), .slice o m cap, .int .i64 room] 81))) := (Below.refl _ _).alloc (Nat.le_refl _) _
  by_cases h : (n : Int) > (m : Int)
  · have h' : decide ((m : Int) < (n : Int)) = true := by simpa using h
    have h2 : decide (m < n) = true := by simp; omega
    have HV : Hid (wtT l n = 0) := by
      show _ = _
      unfold wtT
      rw [List.getD, List.getElem?_eq_none (by have := HM.out; omega)]
      rfl
    clear hL hm
    go_enter Try.func57, Try.ntmps57
    go_wp2_with fail
    go_ret
    exact ⟨by rw [HV.out]; rfl, B0.out⟩
  · have h' : decide ((m : Int) < (n : Int)) = false := by simp; omega
    have h2 : decide (m < n) = false := by simp; omega
    obtain ⟨b, off, c, rfl, ⟨cur, t, fr, hg, hcc⟩, hl⟩ := VSl.row hL (n - 1) (by omega)
    obtain ⟨x, rfl, hxi⟩ := flV_get hl
    have HV : Hid (wtT l n = x) := by
      show _ = _
      unfold wtT
      rw [List.getD, hxi]
      rfl
    obtain ⟨k, rfl⟩ : ∃ k, n = k + 1 := ⟨n - 1, by omega⟩
    have hk1 : ((k + 1 : Nat) : Int) - 1 = (k : Int) := by omega
    have hkm : (k : Int) < (m : Int) := by omega
    simp only [Nat.add_sub_cancel] at hcc hxi
    have hx2 : (w.alloc (.cells #[.map (some g), .slice (some ⟨b, off, none⟩) m cap, .int .i64 room] 81)).cell? ⟨b, off + k, none⟩ = some (.float .f64 x) := (cell_of_row _ _ _ _ _ _ (heap_past _ _ _ _ hg)).trans hcc
    clear hL hm hxi hg hcc hl
    go_enter Try.func57, Try.ntmps57
    go_wp2_with fail
    go_ret
    exact ⟨by rw [HV.out]; rfl, B0.out⟩
end Go.Proofs.Ytpbinkmeldkehaa
