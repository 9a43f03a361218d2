import Derived.Test.YtfbphblodankmaaWJoin
namespace Go.Proofs.Ytfbphblodankmaa
open Go Go.RowKit
set_option maxRecDepth 20000

/-- What Put answers. -/
def putT (L : List UInt8) (n : Nat) (s : Int) : List UInt8 × Int := if canB s = true then if n < 256 ^ s.toNat then (L ++ beB s.toNat n, 0) else ([], 10) else ([], 1)
/-- What Take answers. -/
def takeT (L : List UInt8) (p s : Int) : Nat × Int := if canB s = true ∧ 0 ≤ p then if p + s ≤ L.length then (valB ((L.drop p.toNat).take s.toNat), 0) else (0, 12) else (0, 1)
theorem canB_iff (s : Int) : canB s = true ↔ 1 ≤ s ∧ s ≤ 8 := by unfold canB; simp

/-- A slice of some lists of bytes. -/
theorem wl_lists {ops : Array Oper} {rest : List Oper} {o : Oper} {a : Act} {w : World} {Q : Exit → Act → World → Prop} (hg : o.guard = none) (len : Nat) (parts : Array (Nat × Operand)) (ho : o.op = .buildSlice 56 len parts) (vs : Array Value)
    (hlen : ¬ len > 2 ^ 24) (h0 : len ≠ 0) (hf : Instr.fill (fun i => some (i * 1, 1)) ((Array.range (len * 1)).map ((Value.slice none 0 0).cells[· % (Value.slice none 0 0).cells.size]!)) (parts.map fun (i, x) => (i, a.eval x)).toList = some vs)
    (h : wpList Try.prog ops Q rest (a.put o.dst (.slice (some ⟨w.heap.size, 0, none⟩) len len)) (w.alloc (.cells vs 22))) : wpList Try.prog ops Q (o :: rest) a w := by
  have hq : (Try.prog.info? 22).map (fun i => (i.zero, i.size)) = some (some (.slice none 0 0), 1) := by kernel_rfl
  cases hi : Try.prog.info? 22 with
  | none => rw [hi] at hq; simp at hq
  | some i =>
    rw [hi] at hq
    simp only [Option.map_some, Option.some.injEq, Prod.mk.injEq] at hq
    refine wpList_buildSlice hg 56 22 len parts ho vs i (.slice none 0 0) Try.underlying56 hi hq.1 (by rw [hq.2]; omega) (by rw [hq.2]; omega) (by rw [hq.2]; exact hf) h

theorem shr_nil (n m : Nat) (h : n < 256 ^ m) : ((n : Int) / 2 ^ (m * 8) == 0) = true := by
  have e : (2 : Int) ^ (m * 8) = ((256 ^ m : Nat) : Int) := by
    rw [Nat.mul_comm, Int.pow_mul]
    simp
  rw [e, beq_iff_eq, ← Int.natCast_ediv, Nat.div_eq_of_lt h]
  rfl
theorem shr_not (n m : Nat) (h : ¬ n < 256 ^ m) : ((n : Int) / 2 ^ (m * 8) == 0) = false := by
  have e : (2 : Int) ^ (m * 8) = ((256 ^ m : Nat) : Int) := by
    rw [Nat.mul_comm, Int.pow_mul]
    simp
  rw [e, ← Int.natCast_ediv]
  have h1 : 1 ≤ n / 256 ^ m := (Nat.le_div_iff_mul_le (Nat.pow_pos (by decide))).2 (by omega)
  rw [beq_eq_false_iff_ne]
  omega

set_option maxHeartbeats 2000000 in
theorem put_any (v : Value) (L : List UInt8) (n : Nat) (s : Int) (w : World) (hL : BSl w v L) (hl : L.length ≤ 140737488351232) :
    Calls Try.prog 10 #[v, .int .u64 (n : Int), .int .i64 s] w fun e w' => ∃ u, e = .returned (.tuple #[u, .int .i64 (putT L n s).2]) ∧ BOwn w.heap.size w' u (putT L n s).1 ∧ Below w.heap.size w w' := by
  have C1 : Hid (∀ W, Calls Try.prog 25 #[.int .i64 s] W fun e w' => e = .returned (.bool (canB s)) ∧ w' = W) := canBe_any s
  have HL : Hid (BSl w v L) := hL
  obtain ⟨ov, nv, cv, rfl⟩ : ∃ o n c, v = .slice o n c := by obtain ⟨o, c, h, _⟩ := hL.slice; exact ⟨o, _, c, h⟩
  clear hL
  by_cases hc : canB s = true
  · rw [hc] at C1
    have hs := (canB_iff s).1 hc
    obtain ⟨m, rfl⟩ : ∃ m : Nat, s = m := ⟨s.toNat, by omega⟩
    have hs1 : 1 ≤ (m : Int) := hs.1
    have hs2 : (m : Int) ≤ 8 := hs.2
    by_cases hr : n < 256 ^ m
    · have HP : Hid (putT L n m = (L ++ beB m n, 0)) := by show _ = _; unfold putT; rw [if_pos hc, if_pos (by simpa using hr)]; simp
      have hsh := shr_nil n m hr
      have CD : Hid (∀ W, Calls Try.prog 27 #[.int .u64 (n : Int), .int .i64 (m : Int)] W fun e w' => ∃ v, e = .returned v ∧ BOwn W.heap.size w' v (beB m n) ∧ Below W.heap.size W w') := digits_any n m (by omega)
      have HJ : Hid (∀ (g : Nat) (u : Value) (W : World), W.heap[g]? = some (.cells #[.slice ov nv cv, u] 22 (0, 0)) → BSl W (.slice ov nv cv) L → BSl W u (beB m n) → Calls Try.prog 26 #[.slice (some ⟨g, 0, none⟩) 2 2] W fun e w' => ∃ v, e = .returned v ∧ BOwn W.heap.size w' v (L ++ beB m n) ∧ Below W.heap.size W w') := fun g u W h1 h2 h3 => by
        refine (join_any g [.slice ov nv cv, u] [L, beB m n] W h1 (by simp) ⟨h2, h3, trivial⟩ ?_).mono ?_
        · simp [beB_len]; omega
        · rintro e w' ⟨u, rfl, h4, h5⟩
          exact ⟨u, rfl, by simpa using h4, h5⟩
      clear hc hs hr hl
      go_enter Try.func10, Try.ntmps10
      go_wp2_with (first
        | (go_at_call 25; refine (C1.out _).mono ?_; rintro e w1 ⟨rfl, rfl⟩))
      refine (CD.out _).mono ?_
      rintro e w2 ⟨u, rfl, ho, hb⟩
      have HU : Hid (BSl w2 u (beB m n)) := ho.sl
      obtain ⟨ou, nu, cu, rfl⟩ : ∃ o n c, u = .slice o n c := by obtain ⟨o, c, h, _⟩ := ho.sl.slice; exact ⟨o, _, c, h⟩
      have HV : Hid (BSl w2 (.slice ov nv cv) L) := HL.out.below hb
      have HB : Hid (Below w1.heap.size w1 w2) := hb
      have hsz := hb.size
      clear ho hb
      go_wp2_with (refine wl_lists rfl 2 _ rfl #[.slice ov nv cv, .slice ou nu cu] (by decide) (by decide) rfl ?_)
      refine (HJ.out w2.heap.size (.slice ou nu cu) _ (heap_new _ _ _ rfl) (HV.out.alloc _) (HU.out.alloc _)).mono ?_
      rintro e w3 ⟨x, rfl, ho, hb⟩
      have HO : Hid (BOwn w1.heap.size w3 x (L ++ beB m n)) := ho.base (by simp; omega)
      have HB3 : Hid (Below w1.heap.size w1 w3) := (HB.out.alloc hsz _).trans (hb.mono (by simp; omega))
      clear ho hb
      go_wp2_with fail
      go_ret2
      rw [HP.out]
      exact ⟨x, rfl, HO.out, HB3.out⟩
    · have HP : Hid (putT L n m = ([], 10)) := by show _ = _; unfold putT; rw [if_pos hc, if_neg (by simpa using hr)]
      have hsh := shr_not n m hr
      clear hc hs hr hl
      go_enter Try.func10, Try.ntmps10
      go_wp2_with (first
        | (go_at_call 25; refine (C1.out _).mono ?_; rintro e w1 ⟨rfl, rfl⟩))
      go_ret2
      rw [HP.out]
      exact ⟨_, rfl, BOwn.nil _ _, Below.refl _ _⟩
  · have HP : Hid (putT L n s = ([], 1)) := by show _ = _; unfold putT; rw [if_neg hc]
    have hc' : canB s = false := by simpa using hc
    rw [hc'] at C1
    clear hc hc' hl
    go_enter Try.func10, Try.ntmps10
    go_wp2_with (first
      | (go_at_call 25; refine (C1.out _).mono ?_; rintro e w1 ⟨rfl, rfl⟩))
    go_ret2
    rw [HP.out]
    exact ⟨_, rfl, BOwn.nil _ _, Below.refl _ _⟩
end Go.Proofs.Ytfbphblodankmaa
