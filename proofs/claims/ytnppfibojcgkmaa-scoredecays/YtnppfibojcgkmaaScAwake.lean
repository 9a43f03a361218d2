import Derived.Test.YtnppfibojcgkmaaScROrd
namespace Go.Proofs.Ytnppfibojcgkmaa
open Go Go.Lib Go.RowKit Ieee
set_option maxRecDepth 20000

def awL : List Nat := [9221120237041090561, 4607182418800017408, 18442240474082181120, 0]
theorem awW : AllW awL := fun x hx => by
  rw [wd_iff]
  simp [awL] at hx
  omega
theorem awK : keyT awL 0 = 9223372036854775807 ∧ keyT awL 1 = 4607182418800017408 ∧ keyT awL 2 = -9218868437227405312 ∧ keyT awL 3 = 0 := by decide +kernel
theorem awO : IsOrd (keyT awL) 4 [2, 3, 1, 0] := by
  obtain ⟨h0, h1, h2, h3⟩ := awK
  refine ⟨fun i => by simp; omega, ?_⟩
  simp only [List.pairwise_cons, List.mem_cons, List.not_mem_nil, or_false, forall_eq_or_imp, forall_eq, ahead, h0, h1, h2, h3]
  simp
theorem int2 : intF 2 = 4611686018427387904 := by rw [← write_int]; kernel_rfl
theorem awC1 : costT 2 4602678819172646912 = 4613937818241073152 := by
  have e1 : cleanT 4602678819172646912 = 4602678819172646912 := cleanT_fix _ (by rw [d_inf]; decide)
  have e2 : addR ONE 4602678819172646912 = 4609434218613702656 := by
    have := add_eq ONE 4602678819172646912 (by rw [d_inf]; decide) (by rw [d_inf]; decide)
    exact (Option.some.inj (this.symm.trans (show double.add ONE 4602678819172646912 = some 4609434218613702656 by kernel_rfl)))
  have e3 : mulR 4611686018427387904 4609434218613702656 = 4613937818241073152 := by
    have := mul_eq 4611686018427387904 4609434218613702656 (by rw [d_inf]; decide) (by rw [d_inf]; decide)
    exact (Option.some.inj (this.symm.trans (show double.mul 4611686018427387904 4609434218613702656 = some 4613937818241073152 by kernel_rfl)))
  unfold costT
  rw [if_neg (by decide), e1, e2, show (2 : Int).toNat = 2 from rfl, int2, e3]
theorem awC2 : costT 2 9218868437227405312 = 9218868437227405312 := by
  have e1 : cleanT 9218868437227405312 = 9218868437227405311 := by rw [cleanT_rung _ (by rw [d_inf]; decide)]; rfl
  have e2 : addR ONE 9218868437227405311 = 9218868437227405311 := by
    have := add_eq ONE 9218868437227405311 (by rw [d_inf]; decide) (by rw [d_inf]; decide)
    exact (Option.some.inj (this.symm.trans (show double.add ONE 9218868437227405311 = some 9218868437227405311 by kernel_rfl)))
  have e3 : mulR 4611686018427387904 9218868437227405311 = 9218868437227405312 := by
    have := mul_eq 4611686018427387904 9218868437227405311 (by rw [d_inf]; decide) (by rw [d_inf]; decide)
    exact (Option.some.inj (this.symm.trans (show double.mul 4611686018427387904 9218868437227405311 = some 9218868437227405312 by kernel_rfl)))
  unfold costT
  rw [if_neg (by decide), e1, e2, show (2 : Int).toNat = 2 from rfl, int2, e3]
theorem awC0 : cleanT 13830554455654793216 = 0 := by unfold cleanT; rw [if_pos (.inl (by rw [d_sw]; decide))]
theorem VOwn.four {ty B : Nat} {w : World} {v : Value} {a b c d : Value} (h : VOwn ty B w v [a, b, c, d]) : ∃ g cap, v = .slice (some ⟨g, 0, none⟩) 4 cap ∧ w.cell? ⟨g, 0, none⟩ = some a ∧ w.cell? ⟨g, 3, none⟩ = some d := by
  have hs := h.sl
  obtain ⟨h1, ⟨rfl, h2⟩ | ⟨g, cap, cur, rfl, _⟩⟩ := h
  · cases h2
  · obtain ⟨g', off, x, e, h3, h4⟩ := hs.at 0 (by simp)
    obtain ⟨g2, off2, y, e2, h5, h6⟩ := hs.at 3 (by simp)
    simp only [Option.some.injEq, Addr.mk.injEq, and_true] at e e2
    obtain ⟨rfl, rfl⟩ := e
    obtain ⟨rfl, rfl⟩ := e2
    refine ⟨g, cap, rfl, ?_, ?_⟩
    · rw [h3]; exact h4.symm
    · rw [h5]; exact h6.symm
theorem fill4 (z a b c d : Value) (ha : a.cells = #[a]) (hb : b.cells = #[b]) (hc : c.cells = #[c]) (hd : d.cells = #[d]) : Instr.fill (fun i => some (i * 1, 1)) ((Array.range (4 * 1)).map (#[z][· % (#[z] : Array Value).size]!)) [(0, a), (1, b), (2, c), (3, d)] = some #[a, b, c, d] := by
  simp only [Instr.fill, ha, hb, hc, hd]
  kernel_rfl
theorem wl_build4V {ty sl : TypeId} {z : Value} (S : Sc ty sl z) {ops : Array Oper} {rest : List Oper} {o : Oper} {a : Act} {w : World} {Q : Exit → Act → World → Prop} (hg : o.guard = none) (x1 x2 x3 x4 : Operand) (ho : o.op = .buildSlice sl 4 #[(0, x1), (1, x2), (2, x3), (3, x4)]) (u1 u2 u3 u4 : Value) (h1 : u1.cells = #[u1]) (h2 : u2.cells = #[u2]) (h3 : u3.cells = #[u3]) (h4 : u4.cells = #[u4]) (e1 : a.eval x1 = u1) (e2 : a.eval x2 = u2) (e3 : a.eval x3 = u3) (e4 : a.eval x4 = u4)
    (h : wpList Try.prog ops Q rest (a.put o.dst (.slice (some ⟨w.heap.size, 0, none⟩) 4 4)) (w.alloc (.cells #[u1, u2, u3, u4] ty))) : wpList Try.prog ops Q (o :: rest) a w := by
  obtain ⟨ie, b, hie, hz, hs, hb, hb1, hb8⟩ := S.info
  refine wpList_buildSlice hg sl ty 4 _ ho #[u1, u2, u3, u4] ie z S.hs hie hz (by rw [hs]; decide) (by rw [hs]; decide) ?_ h
  simp only [List.map_toArray, List.map_cons, List.map_nil, e1, e2, e3, e4, hs, S.hz]
  exact fill4 z u1 u2 u3 u4 h1 h2 h3 h4
set_option maxHeartbeats 8000000 in
set_option maxRecDepth 100000 in
theorem awake_any (w : World) : Calls Try.prog 9 #[] w fun e w' => e = .returned (.bool true) ∧ Below w.heap.size w w' := by
  have HN : Hid (∀ W, Calls Try.prog 30 #[] W fun e w' => e = .returned (.float .f64 9221120237041090561) ∧ w' = W) := nan_run
  have HI : Hid (∀ s W, (s = 1 ∨ s = -1) → Calls Try.prog 31 #[.int .i64 s] W fun e w' => e = .returned (.float .f64 (if s = 1 then 9218868437227405312 else 18442240474082181120)) ∧ w' = W) := fun s W h => by
    rcases h with rfl | rfl
    · exact inf_run W
    · exact ninf_run W
  have HF : FSl (w.alloc (.cells #[.float .f64 9221120237041090561, .float .f64 4607182418800017408, .float .f64 18442240474082181120, .float .f64 0] 22)) (.slice (some ⟨w.heap.size, 0, none⟩) 4 4) awL := ⟨_, 4, rfl, Nat.le_refl _, by decide, (fun e => by cases e), fun i hi => ⟨w.heap.size, 0, _, _, _, rfl, heap_new _ _ _ rfl, by
    have : i < 4 := hi
    rcases (show i = 0 ∨ i = 1 ∨ i = 2 ∨ i = 3 by omega) with rfl | rfl | rfl | rfl <;> rfl⟩⟩
  have HO : Hid (Calls Try.prog 18 #[.slice (some ⟨w.heap.size, 0, none⟩) 4 4] (w.alloc (.cells #[.float .f64 9221120237041090561, .float .f64 4607182418800017408, .float .f64 18442240474082181120, .float .f64 0] 22)) fun e w' => (∃ g cap, e = .returned (.slice (some ⟨g, 0, none⟩) 4 cap) ∧ w'.cell? ⟨g, 0, none⟩ = some (.int .i64 2) ∧ w'.cell? ⟨g, 3, none⟩ = some (.int .i64 0)) ∧ Below w.heap.size w w') := by
    refine (order_any awL awW (by decide) _ _ HF).mono ?_
    rintro e w' ⟨v', o, rfl, h1, h2, h3⟩
    obtain rfl : o = [2, 3, 1, 0] := ord_one h1 awO
    obtain ⟨g, cap, rfl, h4, h5⟩ := VOwn.four h2
    exact ⟨⟨g, cap, rfl, h4, h5⟩, ((Below.refl _ _).alloc (Nat.le_refl _) _).trans (h3.mono (by simp))⟩
  have HC : Hid (∀ W, Calls Try.prog 10 #[.float .f64 13830554455654793216] W fun e w' => e = .returned (.float .f64 0) ∧ w' = W) := fun W => by
    have := clean_any 13830554455654793216 ((wd_iff _).2 (by decide)) W
    rw [awC0] at this; exact this
  have HK : Hid (∀ x W, Wd x → Calls Try.prog 21 #[.int .i64 2, .float .f64 x] W fun e w' => e = .returned (.float .f64 (costT 2 x)) ∧ w' = W) := fun x W h => cost_any 2 x (by decide) h W
  have K1 : Hid (costT 2 4602678819172646912 = 4613937818241073152) := awC1
  have K2 : Hid (costT 2 9218868437227405312 = 9218868437227405312) := awC2
  have HIN : Hid (∀ W, Calls Try.prog 14 #[.float .f64 9218868437227405312, .int .i64 1] W fun e w' => e = .returned (.bool true) ∧ w' = W) := fun W => by
    have := isinf_any 9218868437227405312 ((wd_iff _).2 (by decide)) W
    rw [decide_eq_true (show (9218868437227405312 : Nat) = double.infRung from d_inf.symm)] at this; exact this
  have q1 : (FloatKind.f64.format.order 0 0 == some Ordering.eq) = true := by kernel_rfl
  have q2 : (FloatKind.f64.format.order 4613937818241073152 4613937818241073152 == some Ordering.eq) = true := by kernel_rfl
  clear HF
  go_enter Try.func9, Try.ntmps9
  go_wp2_with (first
    | (go_at_call 30; refine Calls.mono (HN.out _) ?_; rintro e w' ⟨rfl, rfl⟩)
    | (go_at_call 31; refine (HI.out _ _ (by first | exact .inl rfl | exact .inr rfl)).mono ?_; rintro e w' ⟨rfl, rfl⟩; (first | rw [if_pos rfl] | rw [if_neg (by decide)]))
    | (refine wl_build4V scF rfl _ _ _ _ rfl _ _ _ _ rfl rfl rfl rfl rfl rfl rfl rfl ?_)
    | (go_at_call 18; refine Calls.mono HO.out ?_; rintro e w1 ⟨⟨g, cap, rfl, h4, h5⟩, hb⟩)
    | (go_at_call 10; refine Calls.mono (HC.out _) ?_; rintro e w' ⟨rfl, rfl⟩)
    | (go_at_call 21; refine (HK.out _ _ ((wd_iff _).2 (by decide))).mono ?_; rintro e w' ⟨rfl, rfl⟩; (first | rw [K1.out] | rw [K2.out]))
    | (go_at_call 14; refine Calls.mono (HIN.out _) ?_; rintro e w' ⟨rfl, rfl⟩))
  go_ret
  exact ⟨rfl, hb⟩
end Go.Proofs.Ytnppfibojcgkmaa
