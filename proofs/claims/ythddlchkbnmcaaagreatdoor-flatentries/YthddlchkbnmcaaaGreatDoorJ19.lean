import Derived.Test.YthddlchkbnmcaaaGreatDoorJ16
import Derived.Test.YthddlchkbnmcaaaGreatDoorJ1
import Derived.Maps.AppendAt
import Derived.OwnWalk
import Derived.Laws.AppendOwnNone
namespace Go.Proofs.YthddlchkbnmcaaaGreatDoor
open Go Go.RowKit
set_option maxRecDepth 20000

/-- A bit of a cube: 0, 1, or 2, if it is free. -/
def atI (V M : List Int) (i : Nat) : Int := if bt M i then (if bt V i then 1 else 0) else 2
theorem at_ne2 (V M : List Int) (i : Nat) : (atI V M i != 2) = bt M i := by
  unfold atI; cases bt M i <;> cases bt V i <;> rfl
theorem at_cases (V M : List Int) (i : Nat) : atI V M i = 0 ∨ atI V M i = 1 ∨ atI V M i = 2 := by
  unfold atI; cases bt M i <;> cases bt V i <;> simp

set_option maxHeartbeats 1000000 in
theorem at_any (V M : List Int) (hV : Byt V) (hM : Byt M) (i : Nat) (hi : i < 104) (w : World) :
    Calls Tryz.prog 60 #[.agg (cv V M), .int .i64 (i : Int)] w fun e w' => e = .returned (.int .i64 (atI V M i)) ∧ Below w.heap.size w w' := by
  have hVl := hV.1
  have hMl := hM.1
  have CM : Hid (∀ W, Calls Tryz.prog 89 #[.agg (hv M), .int .i64 (i : Int)] W fun e w' => e = .returned (.bool (bt M i)) ∧ Below W.heap.size W w') := rbit_nat M hM i hi
  have CV : Hid (∀ W, Calls Tryz.prog 89 #[.agg (hv V), .int .i64 (i : Int)] W fun e w' => e = .returned (.bool (bt V i)) ∧ Below W.heap.size W w') := rbit_nat V hV i hi
  clear hV hM
  unfold atI
  obtain ⟨bm, hbm⟩ : ∃ b, b = bt M i := ⟨_, rfl⟩
  obtain ⟨bv, hbv⟩ : ∃ b, b = bt V i := ⟨_, rfl⟩
  rw [← hbm] at CM ⊢
  rw [← hbv] at CV ⊢
  clear hbm hbv
  go_enter Tryz.func60, Tryz.ntmps60
  go_wp2_with (first
    | (refine wl_loadM rfl _ rfl w.heap.size rfl V M (heap_new _ _ _ rfl) hVl hMl ?_))
  refine (CM.out _).mono ?_
  rintro e w1 ⟨rfl, hb1⟩
  have g0 : w1.heap[w.heap.size]? = some (.cells (cv V M) 37 (0, 0)) := by rw [hb1.block _ (by simp)]; exact heap_new _ _ _ rfl
  have B1 : Below w.heap.size w w1 := ((Below.refl _ _).alloc (Nat.le_refl _) _).trans (hb1.mono (by simp))
  clear hb1 CM
  cases bm
  · go_wp2_with fail
    go_ret
    exact ⟨rfl, B1⟩
  · go_wp2_with (first
      | (refine wl_loadV rfl _ rfl w.heap.size rfl V M g0 hVl ?_))
    refine (CV.out _).mono ?_
    rintro e w2 ⟨rfl, hb2⟩
    have B2 := B1.trans (hb2.mono B1.size)
    clear hb2 CV
    cases bv
    · go_wp2_with fail
      go_ret
      exact ⟨rfl, B2⟩
    · go_wp2_with fail
      go_ret
      exact ⟨rfl, B2⟩

set_option maxHeartbeats 1000000 in
theorem rset_any (V M : List Int) (hV : Byt V) (hM : Byt M) (i : Nat) (hi : i < 104) (v : Int) (w : World) :
    Calls Tryz.prog 61 #[.agg (cv V M), .int .i64 (i : Int), .int .i64 v] w fun e w' => e = .returned (.agg (cv (setb V i (v == 1)) (setb M i (v != 2)))) ∧ Below w.heap.size w w' := by
  have hVl := hV.1
  have hMl := hM.1
  have hFl : (setb M i (v != 2)).length = 13 := (setb_byt M i _).1
  have hGl : (setb V i (v == 1)).length = 13 := (setb_byt V i _).1
  have C1 : Hid (∀ W, Calls Tryz.prog 88 #[.agg (hv M), .int .i64 (i : Int), .bool (v != 2)] W fun e w' => e = .returned (.agg (hv (setb M i (v != 2)))) ∧ Below W.heap.size W w') := rput_nat M hM i hi _
  have C2 : Hid (∀ W, Calls Tryz.prog 88 #[.agg (hv V), .int .i64 (i : Int), .bool (v == 1)] W fun e w' => e = .returned (.agg (hv (setb V i (v == 1)))) ∧ Below W.heap.size W w') := rput_nat V hV i hi _
  clear hV hM
  obtain ⟨N, hN⟩ : ∃ N, N = setb M i (v != 2) := ⟨_, rfl⟩
  obtain ⟨U, hU⟩ : ∃ U, U = setb V i (v == 1) := ⟨_, rfl⟩
  rw [← hN] at C1 hFl ⊢
  rw [← hU] at C2 hGl ⊢
  clear hN hU
  go_enter Tryz.func61, Tryz.ntmps61
  have g0 : ((w.alloc (.cells (cv V M) 37)).alloc (.cells zeroC 37)).heap[w.heap.size]? = some (.cells (cv V M) 37 (0, 0)) := heap_past _ _ _ _ (heap_new _ _ _ rfl)
  have g1 : ((w.alloc (.cells (cv V M) 37)).alloc (.cells zeroC 37)).heap[w.heap.size + 1]? = some (.cells zeroC 37 (0, 0)) := heap_new _ _ _ (by simp)
  have hb : Below w.heap.size w ((w.alloc (.cells (cv V M) 37)).alloc (.cells zeroC 37)) := ((Below.refl _ _).alloc (Nat.le_refl _) _).alloc (by simp) _
  go_wp2_with (first
    | (refine wl_loadM rfl _ rfl w.heap.size rfl V M g0 hVl hMl ?_))
  refine (C1.out _).mono ?_
  rintro e w2 ⟨rfl, hb2⟩
  have m0 : w2.heap[w.heap.size]? = some (.cells (cv V M) 37 (0, 0)) := by rw [hb2.block _ (by simp; omega)]; exact g0
  have m1 : w2.heap[w.heap.size + 1]? = some (.cells zeroC 37 (0, 0)) := by rw [hb2.block _ (by simp)]; exact g1
  have hz2 : w.heap.size + 2 ≤ w2.heap.size := Nat.le_trans (by simp) hb2.size
  have hB2 := hb.trans (hb2.mono hb.size)
  clear g0 g1 hb hb2 C1
  have n0 : (w2.setRow w.heap.size (cv V N)).heap[w.heap.size]? = some (.cells (cv V N) 37 (0, 0)) := setRow_heap _ _ _ _ _ _ m0
  have n1 : (w2.setRow w.heap.size (cv V N)).heap[w.heap.size + 1]? = some (.cells zeroC 37 (0, 0)) := (setRow_other _ _ _ _ (by omega)).trans m1
  go_wp2_with (first
    | (refine wl_storeM rfl _ _ rfl w.heap.size rfl V M N rfl hVl hMl hFl m0 _ rfl ?_)
    | (refine wl_loadV rfl _ rfl w.heap.size rfl V N n0 hVl ?_))
  refine (C2.out _).mono ?_
  rintro e w3 ⟨rfl, hb3⟩
  have p0 : w3.heap[w.heap.size]? = some (.cells (cv V N) 37 (0, 0)) := by rw [hb3.block _ (by simp; omega)]; exact n0
  have p1 : w3.heap[w.heap.size + 1]? = some (.cells zeroC 37 (0, 0)) := by rw [hb3.block _ (by simp; omega)]; exact n1
  have hB3 := (below_setRow hB2 (Nat.le_refl _) (cv V N)).trans (hb3.mono (by simpa using hB2.size))
  clear m0 m1 n0 n1 hB2 hb3 hz2 C2
  have q0 : (w3.setRow w.heap.size (cv U N)).heap[w.heap.size]? = some (.cells (cv U N) 37 (0, 0)) := setRow_heap _ _ _ _ _ _ p0
  have q1 : (w3.setRow w.heap.size (cv U N)).heap[w.heap.size + 1]? = some (.cells zeroC 37 (0, 0)) := (setRow_other _ _ _ _ (by omega)).trans p1
  go_wp2_with (first
    | (refine wl_storeV rfl _ _ rfl w.heap.size rfl V N U rfl hVl hFl hGl p0 _ rfl ?_)
    | (refine wl_loadC rfl _ rfl w.heap.size rfl U N q0 hGl hFl ?_)
    | (refine wl_storeC rfl _ _ rfl (w.heap.size + 1) U N rfl rfl _ q1 rfl hGl hFl _ rfl ?_))
  refine retC (p := 6) rfl rfl (w.heap.size + 1) rfl _ _ hGl hFl (setRow_heap _ _ _ _ _ _ q1) ⟨rfl, ?_⟩
  exact below_setRow (below_setRow hB3 (Nat.le_refl _) _) (by omega) _

/-- The bits ahead of a place, all others nought. -/
def upto (k : Nat) (f : Nat → Bool) : List Int := mk fun j => decide (j < k) && f j
theorem upto_byt (k : Nat) (f : Nat → Bool) : Byt (upto k f) := mk_byt _
theorem upto_zero (f : Nat → Bool) : upto 0 f = Z := mk_ext _ _ fun i _ => by simp
theorem upto_all (f : Nat → Bool) : upto 104 f = mk f := mk_ext _ _ fun i hi => by simp [hi]
theorem upto_succ (k : Nat) (f : Nat → Bool) : setb (upto k f) k (f k) = upto (k + 1) f :=
  mk_ext _ _ fun i hi => by
    by_cases e : i = k
    · subst e; simp
    · rw [if_neg e]
      unfold upto
      rw [mk_bt _ i hi]
      congr 1
      rw [decide_eq_decide]
      omega
end Go.Proofs.YthddlchkbnmcaaaGreatDoor
namespace Go.Proofs.YthddlchkbnmcaaaGreatDoor
open Go Go.RowKit
set_option maxRecDepth 20000

theorem wl_zeroC {ops : Array Oper} {rest : List Oper} {o : Oper} {a : Act} {w : World} {Q : Exit → Act → World → Prop} (hg : o.guard = none) (ho : o.op = .build 37 #[])
    (h : wpList Tryz.prog ops Q rest (a.put o.dst (.agg (cv Z Z))) w) : wpList Tryz.prog ops Q (o :: rest) a w :=
  wpList_plain hg fun _ hK => by
    unfold Oper.wp execOp
    have e : ((#[] : Array (Nat × Operand)).map (fun (i, x) => (i, a.eval x))) = #[] := by simp
    have hb : (Instr.build 37 #[]).run Tryz.prog w = .ok (.agg (cv Z Z)) w := by
      rw [← zeroC_eq]; kernel_rfl
    simp only [ho, Sem.run_bind]
    rw [e, hb]
    exact hK _ _ h

end Go.Proofs.YthddlchkbnmcaaaGreatDoor
namespace Go.Proofs.YthddlchkbnmcaaaGreatDoor
open Go Go.RowKit
set_option maxRecDepth 20000

theorem clash_at (V M V' M' : List Int) (k : Nat) : (atI V M k + atI V' M' k == 1) = (bt M k && bt M' k && (bt V k != bt V' k)) := by
  unfold atI; cases bt M k <;> cases bt V k <;> cases bt M' k <;> cases bt V' k <;> rfl
theorem min_ne2 (V M V' M' : List Int) (k : Nat) : ((if atI V' M' k < atI V M k then atI V' M' k else atI V M k) != 2) = (bt M k || bt M' k) := by
  unfold atI; cases bt M k <;> cases bt V k <;> cases bt M' k <;> cases bt V' k <;> rfl
theorem min_eq1 (V M V' M' : List Int) (k : Nat) (h : (bt M k && bt M' k && (bt V k != bt V' k)) = false) : ((if atI V' M' k < atI V M k then atI V' M' k else atI V M k) == 1) = ((bt V k && bt M k) || (bt V' k && bt M' k)) := by
  revert h; unfold atI; cases bt M k <;> cases bt V k <;> cases bt M' k <;> cases bt V' k <;> decide

set_option maxHeartbeats 4000000 in
theorem rmeet_any (V M V' M' : List Int) (hV : Byt V) (hM : Byt M) (hV' : Byt V') (hM' : Byt M') (w : World) :
    Calls Tryz.prog 38 #[.agg (cv V M), .agg (cv V' M')] w fun e w' => e = .returned (meetR V M V' M') ∧ Below w.heap.size w w' := by
  have hVl := hV.1
  have hMl := hM.1
  have hVl' := hV'.1
  have hMl' := hM'.1
  have hzl := Z_byt.1
  obtain ⟨fV, hfV⟩ : ∃ f : Nat → Bool, f = fun i => (bt V i && bt M i) || (bt V' i && bt M' i) := ⟨_, rfl⟩
  obtain ⟨fM, hfM⟩ : ∃ f : Nat → Bool, f = fun i => bt M i || bt M' i := ⟨_, rfl⟩
  have CA : Hid (∀ k : Nat, k < 104 → ∀ W, Calls Tryz.prog 60 #[.agg (cv V M), .int .i64 (k : Int)] W fun e w' => e = .returned (.int .i64 (atI V M k)) ∧ Below W.heap.size W w') := fun k hk => at_any V M hV hM k hk
  have CB : Hid (∀ k : Nat, k < 104 → ∀ W, Calls Tryz.prog 60 #[.agg (cv V' M'), .int .i64 (k : Int)] W fun e w' => e = .returned (.int .i64 (atI V' M' k)) ∧ Below W.heap.size W w') := fun k hk => at_any V' M' hV' hM' k hk
  have CS : Hid (∀ k : Nat, k < 104 → (bt M k && bt M' k && (bt V k != bt V' k)) = false → ∀ m, m = (if atI V' M' k < atI V M k then atI V' M' k else atI V M k) → ∀ W, Calls Tryz.prog 61 #[.agg (cv (upto k fV) (upto k fM)), .int .i64 (k : Int), .int .i64 m] W fun e w' => e = .returned (.agg (cv (upto (k + 1) fV) (upto (k + 1) fM))) ∧ Below W.heap.size W w') := fun k hk hc m hm => by
    have := rset_any _ _ (upto_byt k fV) (upto_byt k fM) k hk m
    rwa [show (m != 2) = fM k by rw [hm, min_ne2, hfM], show (m == 1) = fV k by rw [hm, min_eq1 _ _ _ _ _ hc, hfV], upto_succ, upto_succ] at this
  have HE : Hid (upto 104 fV = meetV V M V' M' ∧ upto 104 fM = meetM M M') := by
    show _ ∧ _
    rw [upto_all, upto_all, hfV, hfM]; exact ⟨rfl, rfl⟩
  clear hV hM hV' hM' hfV hfM
  have lV : ∀ k, (upto k fV).length = 13 := fun k => (upto_byt k fV).1
  have lM : ∀ k, (upto k fM).length = 13 := fun k => (upto_byt k fM).1
  go_enter Tryz.func38, Tryz.ntmps38
  go_wp2_with (first
    | (refine wl_zeroC rfl rfl ?_)
    | (refine wl_storeC rfl _ _ rfl (w.heap.size + 3) Z Z rfl rfl _ (heap_new _ _ _ (by simp)) rfl hzl hzl _ (setRow_new _ _ _ _ _ (by simp)) ?_))
  go_loopw [7] (fun i wr => ∃ k : Nat, k ≤ 104 ∧ i = .int .i64 k ∧ (∀ j, j < k → (bt M j && bt M' j && (bt V j != bt V' j)) = false) ∧ wr.heap[w.heap.size]? = some (.cells (cv V M) 37 (0, 0)) ∧ wr.heap[w.heap.size + 1]? = some (.cells (cv V' M') 37 (0, 0)) ∧ wr.heap[w.heap.size + 2]? = some (.cells zeroC 37 (0, 0)) ∧ wr.heap[w.heap.size + 3]? = some (.cells (cv (upto k fV) (upto k fM)) 37 (0, 0)) ∧ Below w.heap.size w wr) (fun i _ => 104 - (intOf i).toNat)
  case atStart => exact ⟨0, Nat.zero_le _, rfl, fun j hj => by omega, heap_past _ _ _ _ (heap_past _ _ _ _ (heap_past _ _ _ _ (heap_new _ _ _ rfl))), heap_past _ _ _ _ (heap_past _ _ _ _ (heap_new _ _ _ (by simp))), heap_past _ _ _ _ (heap_new _ _ _ (by simp)), by rw [upto_zero, upto_zero]; exact heap_new _ _ _ (by simp), ((((Below.refl _ _).alloc (Nat.le_refl _) _).alloc (by simp) _).alloc (by simp; omega) _).alloc (by simp; omega) _⟩
  case round =>
    obtain ⟨k, hk, rfl, hno, g0, g1, g2, g3, hb⟩ := hrel
    have l1 := lV k
    have l2 := lM k
    have l3 := lV (k + 1)
    have l4 := lM (k + 1)
    have HNO : Hid (∀ j, j < k → (bt M j && bt M' j && (bt V j != bt V' j)) = false) := hno
    have hz := (Array.getElem?_eq_some_iff.1 g3).1
    clear hno
    by_cases hlt : k < 104
    · go_wp2_with (first
        | (refine wl_loadC rfl _ rfl w.heap.size rfl V M g0 hVl hMl ?_))
      refine (CA.out k hlt _).mono ?_
      rintro e w1 ⟨rfl, hb1⟩
      have k0 : w1.heap[w.heap.size]? = some (.cells (cv V M) 37 (0, 0)) := by rw [hb1.block _ (by omega)]; exact g0
      have k1 : w1.heap[w.heap.size + 1]? = some (.cells (cv V' M') 37 (0, 0)) := by rw [hb1.block _ (by omega)]; exact g1
      have k2 : w1.heap[w.heap.size + 2]? = some (.cells zeroC 37 (0, 0)) := by rw [hb1.block _ (by omega)]; exact g2
      have k3 : w1.heap[w.heap.size + 3]? = some (.cells (cv (upto k fV) (upto k fM)) 37 (0, 0)) := by rw [hb1.block _ (by omega)]; exact g3
      have B1 := hb.trans (hb1.mono hb.size)
      have hz1 := Nat.lt_of_lt_of_le hz hb1.size
      clear g0 g1 g2 g3 hb hb1 hz
      go_wp2_with (first
        | (refine wl_loadC rfl _ rfl (w.heap.size + 1) rfl V' M' k1 hVl' hMl' ?_))
      refine (CB.out k hlt _).mono ?_
      rintro e w2 ⟨rfl, hb2⟩
      have m0 : w2.heap[w.heap.size]? = some (.cells (cv V M) 37 (0, 0)) := by rw [hb2.block _ (by omega)]; exact k0
      have m1 : w2.heap[w.heap.size + 1]? = some (.cells (cv V' M') 37 (0, 0)) := by rw [hb2.block _ (by omega)]; exact k1
      have m2 : w2.heap[w.heap.size + 2]? = some (.cells zeroC 37 (0, 0)) := by rw [hb2.block _ (by omega)]; exact k2
      have m3 : w2.heap[w.heap.size + 3]? = some (.cells (cv (upto k fV) (upto k fM)) 37 (0, 0)) := by rw [hb2.block _ (by omega)]; exact k3
      have B2 := B1.trans (hb2.mono B1.size)
      have hz2 := Nat.lt_of_lt_of_le hz1 hb2.size
      clear k0 k1 k2 k3 B1 hb2 hz1
      obtain ⟨x, hx⟩ : ∃ x, x = atI V M k := ⟨_, rfl⟩
      obtain ⟨y, hy⟩ : ∃ y, y = atI V' M' k := ⟨_, rfl⟩
      have hxb : 0 ≤ x ∧ x ≤ 2 := by rw [hx]; rcases at_cases V M k with h | h | h <;> rw [h] <;> decide
      have hyb : 0 ≤ y ∧ y ≤ 2 := by rw [hy]; rcases at_cases V' M' k with h | h | h <;> rw [h] <;> decide
      have hcl := clash_at V M V' M' k
      rw [← hx, ← hy] at hcl ⊢
      obtain ⟨hx0, hx2⟩ := hxb
      obtain ⟨hy0, hy2⟩ := hyb
      have HX : Hid (x = atI V M k) := hx
      have HY : Hid (y = atI V' M' k) := hy
      clear hx hy
      by_cases hc : (bt M k && bt M' k && (bt V k != bt V' k)) = true
      · have hxy : (x + y == 1) = true := by rw [hcl, hc]
        have HC : Hid ((bt M k && bt M' k && (bt V k != bt V' k)) = true) := hc
        clear hcl hc
        go_wp2_with (first
          | (refine wl_zeroC rfl rfl ?_)
          | (refine wl_storeC rfl _ _ rfl (w.heap.size + 2) Z Z rfl rfl _ m2 rfl hzl hzl _ rfl ?_))
        refine retCe (p := 4) (u := 5) rfl rfl (w.heap.size + 2) rfl Z Z hzl hzl (setRow_heap _ _ _ _ _ _ m2) _ rfl ⟨?_, below_setRow B2 (by omega) _⟩
        have hme : meets V M V' M' = false := by
          cases e : meets V M V' M'
          · rfl
          · have h3 := HC.out
            simp only [Bool.and_eq_true] at h3
            rw [(meets_iff V M V' M').1 e k hlt h3.1.1 h3.1.2] at h3
            simp at h3
        rw [meetR_no _ _ _ _ hme]; rfl
      · have hc' : (bt M k && bt M' k && (bt V k != bt V' k)) = false := by simpa using hc
        have hxy : (x + y == 1) = false := by rw [hcl, hc']
        have HC : Hid ((bt M k && bt M' k && (bt V k != bt V' k)) = false) := hc'
        clear hcl hc hc'
        by_cases hmin : y < x
        · have D : Hid (∀ W, Calls Tryz.prog 61 #[.agg (cv (upto k fV) (upto k fM)), .int .i64 (k : Int), .int .i64 y] W fun e w' => e = .returned (.agg (cv (upto (k + 1) fV) (upto (k + 1) fM))) ∧ Below W.heap.size W w') := CS.out k hlt HC.out y (by rw [← HX.out, ← HY.out, if_pos hmin])
          have hmin2 : ¬ x ≤ y := by omega
          have HMN : Hid (y = min x y) := by show _ = _; omega
          go_wp2_with (first
            | (refine wl_minI rfl _ _ rfl x y y rfl rfl HMN.out ?_)
            | (refine wl_loadC rfl _ rfl (w.heap.size + 3) rfl (upto k fV) (upto k fM) m3 l1 l2 ?_))
          refine (D.out _).mono ?_
          rintro e w3 ⟨rfl, hb3⟩
          have p0 : w3.heap[w.heap.size]? = some (.cells (cv V M) 37 (0, 0)) := by rw [hb3.block _ (by omega)]; exact m0
          have p1 : w3.heap[w.heap.size + 1]? = some (.cells (cv V' M') 37 (0, 0)) := by rw [hb3.block _ (by omega)]; exact m1
          have p2 : w3.heap[w.heap.size + 2]? = some (.cells zeroC 37 (0, 0)) := by rw [hb3.block _ (by omega)]; exact m2
          have p3 : w3.heap[w.heap.size + 3]? = some (.cells (cv (upto k fV) (upto k fM)) 37 (0, 0)) := by rw [hb3.block _ (by omega)]; exact m3
          have B3 := B2.trans (hb3.mono B2.size)
          clear m0 m1 m2 m3 B2 hb3 hz2 D
          go_wp2_with (first
            | (refine wl_storeC rfl _ _ rfl (w.heap.size + 3) (upto (k + 1) fV) (upto (k + 1) fM) rfl rfl _ p3 (cv_size _ _ l1 l2) l3 l4 _ rfl ?_))
          go_roundw
          case rel =>
            refine ⟨k + 1, by omega, by go_num, fun j hj => ?_, (setRow_other _ _ _ _ (by omega)).trans p0, (setRow_other _ _ _ _ (by omega)).trans p1, (setRow_other _ _ _ _ (by omega)).trans p2, setRow_heap _ _ _ _ _ _ p3, below_setRow B3 (by omega) _⟩
            by_cases e : j = k
            · subst e; exact HC.out
            · exact HNO.out j (by omega)
          case measure => simp [intOf]; omega
        · have D : Hid (∀ W, Calls Tryz.prog 61 #[.agg (cv (upto k fV) (upto k fM)), .int .i64 (k : Int), .int .i64 x] W fun e w' => e = .returned (.agg (cv (upto (k + 1) fV) (upto (k + 1) fM))) ∧ Below W.heap.size W w') := CS.out k hlt HC.out x (by rw [← HX.out, ← HY.out, if_neg hmin])
          have hmin2 : x ≤ y := by omega
          have HMN : Hid (x = min x y) := by show _ = _; omega
          go_wp2_with (first
            | (refine wl_minI rfl _ _ rfl x y x rfl rfl HMN.out ?_)
            | (refine wl_loadC rfl _ rfl (w.heap.size + 3) rfl (upto k fV) (upto k fM) m3 l1 l2 ?_))
          refine (D.out _).mono ?_
          rintro e w3 ⟨rfl, hb3⟩
          have p0 : w3.heap[w.heap.size]? = some (.cells (cv V M) 37 (0, 0)) := by rw [hb3.block _ (by omega)]; exact m0
          have p1 : w3.heap[w.heap.size + 1]? = some (.cells (cv V' M') 37 (0, 0)) := by rw [hb3.block _ (by omega)]; exact m1
          have p2 : w3.heap[w.heap.size + 2]? = some (.cells zeroC 37 (0, 0)) := by rw [hb3.block _ (by omega)]; exact m2
          have p3 : w3.heap[w.heap.size + 3]? = some (.cells (cv (upto k fV) (upto k fM)) 37 (0, 0)) := by rw [hb3.block _ (by omega)]; exact m3
          have B3 := B2.trans (hb3.mono B2.size)
          clear m0 m1 m2 m3 B2 hb3 hz2 D
          go_wp2_with (first
            | (refine wl_storeC rfl _ _ rfl (w.heap.size + 3) (upto (k + 1) fV) (upto (k + 1) fM) rfl rfl _ p3 (cv_size _ _ l1 l2) l3 l4 _ rfl ?_))
          go_roundw
          case rel =>
            refine ⟨k + 1, by omega, by go_num, fun j hj => ?_, (setRow_other _ _ _ _ (by omega)).trans p0, (setRow_other _ _ _ _ (by omega)).trans p1, (setRow_other _ _ _ _ (by omega)).trans p2, setRow_heap _ _ _ _ _ _ p3, below_setRow B3 (by omega) _⟩
            by_cases e : j = k
            · subst e; exact HC.out
            · exact HNO.out j (by omega)
          case measure => simp [intOf]; omega
    · obtain rfl : k = 104 := by omega
      rw [HE.out.1, HE.out.2] at g3
      have hAl := (meetV_byt V M V' M').1
      have hBl := (meetM_byt M M').1
      have hme : meets V M V' M' = true := (meets_iff _ _ _ _).2 fun i hi h1 h2 => by
        have := HNO.out i hi
        rw [h1, h2] at this
        simpa using this
      go_wp2_with (first
        | (refine wl_loadC rfl _ rfl (w.heap.size + 3) rfl (meetV V M V' M') (meetM M M') g3 hAl hBl ?_)
        | (refine wl_storeC rfl _ _ rfl (w.heap.size + 2) (meetV V M V' M') (meetM M M') rfl rfl _ g2 rfl hAl hBl _ rfl ?_))
      refine retCe (p := 4) (u := 5) rfl rfl (w.heap.size + 2) rfl _ _ hAl hBl (setRow_heap _ _ _ _ _ _ g2) _ rfl ⟨?_, below_setRow hb (by omega) _⟩
      rw [meetR_yes _ _ _ _ hme]; rfl
end Go.Proofs.YthddlchkbnmcaaaGreatDoor
namespace Go.Proofs.YthddlchkbnmcaaaGreatDoor
open Go Go.RowKit
set_option maxRecDepth 20000

/-- Is there a bit, from a place on, that is free in the first cube, fixed in the second one, and another one in the header? -/
def far (M V' M' H : List Int) : Nat → Nat → Bool
  | 0, _ => false
  | f + 1, i => (!(bt M i) && bt M' i && (bt H i != bt V' i)) || far M V' M' H f (i + 1)
end Go.Proofs.YthddlchkbnmcaaaGreatDoor
namespace Go.Proofs.YthddlchkbnmcaaaGreatDoor
open Go Go.RowKit
set_option maxRecDepth 20000

theorem own_setRow_ne {w : World} {B : Nat} {e : TypeId} {s : Nat} {v : Value} {n : Nat} {xs : List Value} (h : w.ownsRow B e s v n xs) (g : Nat) (hg : v.ownBlock ≠ some g) (cs : Array Value) : (w.setRow g cs).ownsRow B e s v n xs := by
  obtain ⟨h1, h2 | ⟨g', cap, cur, rfl, hB, hcur, h3⟩⟩ := h
  · exact ⟨h1, .inl h2⟩
  · exact ⟨h1, .inr ⟨g', cap, cur, rfl, hB, (setRow_other _ _ _ _ (fun e => hg (by rw [e]; rfl))).trans hcur, h3⟩⟩

end Go.Proofs.YthddlchkbnmcaaaGreatDoor
namespace Go.Proofs.YthddlchkbnmcaaaGreatDoor
open Go Go.RowKit
set_option maxRecDepth 20000

/-- All cubes of a list have their bytes. -/
def Byts (C : List (List Int × List Int)) : Prop := ∀ c ∈ C, Byt c.1 ∧ Byt c.2
theorem ccells_at : ∀ (C : List (List Int × List Int)), Byts C → ∀ (i : Nat) (hi : i < C.length) (j : Nat), j < 26 → (ccells C)[26 * i + j]? = (cv C[i].1 C[i].2)[j]?
  | [], _, i, hi, _, _ => by simp at hi
  | c :: C, hC, i, hi, j, hj => by
    have h1 := hC c (by simp)
    have hl : (cv c.1 c.2).toList.length = 26 := by rw [Array.length_toList, cv_size _ _ h1.1.1 h1.2.1]
    have e : ccells (c :: C) = (cv c.1 c.2).toList ++ ccells C := by simp [ccells]
    rw [e]
    match i, hi with
    | 0, _ =>
      rw [List.getElem?_append_left (by omega)]
      simp
    | i + 1, hi =>
      rw [List.getElem?_append_right (by omega), hl, show 26 * (i + 1) + j - 26 = 26 * i + j by omega, ccells_at C (fun c hc => hC c (by simp [hc])) i (by simpa using hi) j hj]
      rfl

/-- A slice whose elements are these cubes. -/
def Row (w : World) (v : Value) (C : List (List Int × List Int)) : Prop :=
  ∃ (o : Option Addr) (cap : Nat), v = .slice o C.length cap ∧ ∀ (i : Nat) (hi : i < C.length), ∃ g cur, o = some ⟨g, 0, none⟩ ∧ w.heap[g]? = some (.cells cur 37 (0, 0)) ∧ ∀ j, j < 26 → cur[26 * i + j]? = (cv C[i].1 C[i].2)[j]?
theorem Row.below {w w' : World} {v : Value} {C : List (List Int × List Int)} (h : Row w v C) (hb : Below w.heap.size w w') : Row w' v C := by
  obtain ⟨o, cap, rfl, h2⟩ := h
  refine ⟨o, cap, rfl, fun i hi => ?_⟩
  obtain ⟨g, cur, h3, h4, h5⟩ := h2 i hi
  exact ⟨g, cur, h3, (hb.block g (Array.getElem?_eq_some_iff.1 h4).1).trans h4, h5⟩

end Go.Proofs.YthddlchkbnmcaaaGreatDoor
namespace Go.Proofs.YthddlchkbnmcaaaGreatDoor
open Go Go.RowKit
set_option maxRecDepth 20000

/-- Has one of these cubes a header? -/
def hasL (C : List (List Int × List Int)) (H : List Int) : Bool := C.any fun c => has c.1 c.2 H

/-- A slice, wherever it lies, whose elements are these cubes. -/
def Sl (w : World) (v : Value) (C : List (List Int × List Int)) : Prop :=
  Byts C ∧ ∃ (o : Option Addr) (cap : Nat), v = .slice o C.length cap ∧ C.length ≤ cap ∧ cap ≤ maxLen ∧ ∀ (i : Nat) (hi : i < C.length), ∃ g off cur t fr, o = some ⟨g, off, none⟩ ∧ w.heap[g]? = some (.cells cur t fr) ∧ ∀ j, j < 26 → cur[off + i * 26 + j]? = (cv C[i].1 C[i].2)[j]?

theorem Sl.below {w w' : World} {v : Value} {C : List (List Int × List Int)} (h : Sl w v C) (hb : Below w.heap.size w w') : Sl w' v C := by
  obtain ⟨h0, o, cap, rfl, h1, h2, h3⟩ := h
  refine ⟨h0, o, cap, rfl, h1, h2, fun i hi => ?_⟩
  obtain ⟨g, off, cur, t, fr, h4, h5, h6⟩ := h3 i hi
  exact ⟨g, off, cur, t, fr, h4, (hb.block g (Array.getElem?_eq_some_iff.1 h5).1).trans h5, h6⟩
theorem Sl.slice {w : World} {v : Value} {C : List (List Int × List Int)} (h : Sl w v C) : ∃ (o : Option Addr) (cap : Nat), v = .slice o C.length cap ∧ C.length ≤ cap ∧ cap ≤ maxLen := by
  obtain ⟨_, o, cap, h1, h2, h3, _⟩ := h
  exact ⟨o, cap, h1, h2, h3⟩
/-- One element. -/
theorem Sl.at {w : World} {o : Option Addr} {n cap : Nat} {C : List (List Int × List Int)} (h : Sl w (.slice o n cap) C) (k : Nat) (hk : k < n) :
    ∃ g off cur t fr U N, o = some ⟨g, off, none⟩ ∧ w.heap[g]? = some (.cells cur t fr) ∧ (∀ j, j < 26 → cur[off + k * 26 + j]? = (cv U N)[j]?) ∧ C[k]? = some (U, N) ∧ Byt U ∧ Byt N := by
  obtain ⟨h0, o', cap', h1, _, _, h3⟩ := h
  simp only [Value.slice.injEq] at h1
  obtain ⟨rfl, rfl, rfl⟩ := h1
  obtain ⟨g, off, cur, t, fr, h4, h5, h6⟩ := h3 k hk
  exact ⟨g, off, cur, t, fr, C[k].1, C[k].2, h4, h5, h6, List.getElem?_eq_getElem hk, (h0 _ (List.getElem_mem _)).1, (h0 _ (List.getElem_mem _)).2⟩
theorem Sl.len {w : World} {o : Option Addr} {n cap : Nat} {C : List (List Int × List Int)} (h : Sl w (.slice o n cap) C) : n = C.length ∧ n ≤ cap ∧ cap ≤ maxLen := by
  obtain ⟨h0, o', cap', h1, h2, h3, _⟩ := h
  simp only [Value.slice.injEq] at h1
  obtain ⟨rfl, rfl, rfl⟩ := h1
  exact ⟨rfl, h2, h3⟩
/-- The first ones of a slice. -/
theorem Sl.take {w : World} {o : Option Addr} {n cap : Nat} {C : List (List Int × List Int)} (h : Sl w (.slice o n cap) C) (k : Nat) (hk : k ≤ n) : Sl w (.slice o k cap) (C.take k) := by
  obtain ⟨h0, o', cap', h1, h2, h3, h4⟩ := h
  simp only [Value.slice.injEq] at h1
  obtain ⟨rfl, rfl, rfl⟩ := h1
  have e : (C.take k).length = k := by rw [List.length_take]; omega
  refine ⟨fun c hc => h0 c (List.mem_of_mem_take hc), o, cap, by rw [e], by omega, h3, fun i hi => ?_⟩
  obtain ⟨g, off, cur, t, fr, h5, h6, h7⟩ := h4 i (by omega)
  exact ⟨g, off, cur, t, fr, h5, h6, fun j hj => by rw [h7 j hj, List.getElem_take]⟩
theorem sl_of {w : World} {B : Nat} {v : Value} {C : List (List Int × List Int)} (h : w.ownsRow B 37 26 v C.length (ccells C)) (hC : Byts C) : Sl w v C := by
  refine ⟨hC, ?_⟩
  obtain ⟨h1, ⟨rfl, h2⟩ | ⟨g, cap, cur, rfl, hB, hcur, h5, h6, _, h4⟩⟩ := h
  · exact ⟨none, 0, by rw [h2], by omega, Nat.zero_le _, fun i hi => by omega⟩
  · refine ⟨_, cap, rfl, h5, h6, fun i hi => ⟨g, 0, cur, _, _, rfl, hcur, fun j hj => ?_⟩⟩
    rw [← ccells_at C hC i hi j hj, ← h4, List.getElem?_take_of_lt (by omega), Nat.zero_add, Nat.mul_comm]
    simp

theorem qlSl {W : World} {ops : Array Oper} {Q : Act → Prop} {rest : List Oper} {o : Oper} {a : Act} (hw : Region.wanted o (yielded ops a.tmps) = true) (x : Operand) (ho : o.op = .load 37 x)
    (g off : Nat) (hx : a.eval x = .pointer (some ⟨g, off, none⟩)) (cs : Array Value) (t : TypeId) (fr : Nat × Nat) (V M : List Int) (hV : V.length = 13) (hM : M.length = 13) (hg : W.heap[g]? = some (.cells cs t fr)) (hc : ∀ j, j < 26 → cs[off + j]? = (cv V M)[j]?)
    (h : wpQuiet Tryz.prog ops (fun w' => ∃ u : Later W, w' = u.world) Q rest (a.put o.dst (.agg (cv V M)))) : wpQuiet Tryz.prog ops (fun w' => ∃ u : Later W, w' = u.world) Q (o :: rest) a := by
  refine BigFrame.wpQuiet_want hw fun K hK => ⟨.agg (cv V M), fun w hC => ?_, hK _ h⟩
  unfold Oper.quietAt execOp
  simp only [ho, hx, Instr.loadAt, Instr.sureAddr, Sem.run_bind, Sem.run_pure, Result.andThen_ok, load_cube w g off cs t fr V M hV hM (later_block hg w hC) hc]
  exact ⟨rfl, rfl⟩

end Go.Proofs.YthddlchkbnmcaaaGreatDoor
namespace Go.Proofs.YthddlchkbnmcaaaGreatDoor
open Go Go.RowKit
set_option maxRecDepth 20000

theorem own_slice {w : World} {B : Nat} {e : TypeId} {s : Nat} {v : Value} {n : Nat} {xs : List Value} (h : w.ownsRow B e s v n xs) : ∃ o cap, v = .slice o n cap := by
  obtain ⟨_, ⟨rfl, rfl⟩ | ⟨g, cap, cur, rfl, _⟩⟩ := h
  · exact ⟨none, 0, rfl⟩
  · exact ⟨_, cap, rfl⟩
end Go.Proofs.YthddlchkbnmcaaaGreatDoor
namespace Go.Proofs.YthddlchkbnmcaaaGreatDoor
open Go Go.RowKit
set_option maxRecDepth 20000

/-- Has the second cube all that the first one has? -/
def within (V M V' M' : List Int) : Bool := (List.range 104).all fun i => !(bt M' i) || (bt M i && (bt V i == bt V' i))
theorem within_iff (V M V' M' : List Int) : within V M V' M' = true ↔ ∀ i, i < 104 → bt M' i = true → bt M i = true ∧ bt V i = bt V' i := by
  unfold within
  simp only [List.all_eq_true, List.mem_range, Bool.or_eq_true, Bool.not_eq_true', Bool.and_eq_true, beq_iff_eq]
  constructor
  · intro h i hi hm
    rcases h i hi with h' | h'
    · rw [h'] at hm; cases hm
    · exact h'
  · intro h i hi
    cases hm : bt M' i
    · exact .inl rfl
    · exact .inr (h i hi hm)

theorem within_eq (V M V' M' : List Int) (hM : Byt M) (h : meets V M V' M' = true) : (meetV V M V' M' == can V M && meetM M M' == M) = within V M V' M' := by
  rw [Bool.eq_iff_iff, Bool.and_eq_true, beq_iff_eq, beq_iff_eq, within_iff]
  have hm := (meets_iff V M V' M').1 h
  constructor
  · rintro ⟨_, g2⟩ i hi h1
    have e2 : bt (meetM M M') i = (bt M i || bt M' i) := mk_bt _ i hi
    rw [g2, h1, Bool.or_true] at e2
    exact ⟨e2, hm i hi e2 h1⟩
  · intro g
    refine ⟨mk_ext _ _ fun i hi => ?_, (mk_eq M hM _ fun i hi => ?_).symm⟩
    · have := g i hi
      revert this
      cases bt V i <;> cases bt V' i <;> cases bt M i <;> cases bt M' i <;> simp
    · have := g i hi
      revert this
      cases bt M i <;> cases bt M' i <;> simp
theorem within_no (V M V' M' : List Int) (h : meets V M V' M' = false) : within V M V' M' = false := by
  cases e : within V M V' M'
  · rfl
  · rw [within_iff] at e
    have : meets V M V' M' = true := (meets_iff _ _ _ _).2 fun i hi _ h2 => (e i hi h2).2
    rw [h] at this; cases this

set_option maxHeartbeats 2000000 in
theorem within_yes_any (V M V' M' : List Int) (hV : Byt V) (hM : Byt M) (hV' : Byt V') (hM' : Byt M') (h : meets V M V' M' = true) (w : World) :
    Calls Tryz.prog 39 #[.agg (cv V M), .agg (cv V' M')] w fun e w' => e = .returned (.bool (within V M V' M')) ∧ Below w.heap.size w w' := by
  have hVl := hV.1
  have hMl := hM.1
  have hVl' := hV'.1
  have hMl' := hM'.1
  have hAl := (meetV_byt V M V' M').1
  have hBl := (meetM_byt M M').1
  have hCl := (can_byt V M).1
  obtain ⟨r, hr⟩ : ∃ r, r = within V M V' M' := ⟨_, rfl⟩
  have C1 : Hid (∀ W, Calls Tryz.prog 62 #[.agg (cv V M), .agg (cv V' M')] W fun e w' => e = .returned (.tuple #[.agg (cv (meetV V M V' M') (meetM M M')), .bool true]) ∧ Below W.heap.size W w') := by
    have := meet_any V M V' M' hV hM hV' hM'; rwa [meetR_yes _ _ _ _ h] at this
  have C2 : Hid (∀ W, Calls Tryz.prog 63 #[.agg (cv V M)] W fun e w' => e = .returned (.agg (cv (can V M) M)) ∧ Below W.heap.size W w') := canon_any V M hV hM
  have e1 : ∀ w, (Op.equalIn 10000 37 (.agg (cv (meetV V M V' M') (meetM M M'))) (.agg (cv (can V M) M))).run Tryz.prog w = .ok r w := fun w => by rw [eqC _ _ _ _ hAl hBl hCl hMl, within_eq V M V' M' hM h, hr]
  have eg : ∀ op x y (xs ys : Array Value) w, (eqGuard op 37 x y (.agg xs) (.agg ys)).run Tryz.prog w = .ok () w := egC
  rw [← hr]
  clear hV hM hV' hM' h hr
  go_enter Tryz.func39, Tryz.ntmps39
  go_wp2_with (first
    | (refine wl_loadC rfl _ rfl w.heap.size rfl V M (heap_past _ _ _ _ (heap_new _ _ _ rfl)) hVl hMl ?_)
    | (refine wl_loadC rfl _ rfl (w.heap.size + 1) rfl V' M' (heap_new _ _ _ (by simp)) hVl' hMl' ?_))
  refine (C1.out _).mono ?_
  rintro e w1 ⟨rfl, hb1⟩
  have g0 : w1.heap[w.heap.size]? = some (.cells (cv V M) 37 (0, 0)) := by rw [hb1.block _ (by simp; omega)]; exact heap_past _ _ _ _ (heap_new _ _ _ rfl)
  have B1 : Below w.heap.size w w1 := (((Below.refl _ _).alloc (Nat.le_refl _) _).alloc (by simp) _).trans (hb1.mono (by simp; omega))
  clear hb1 C1
  have n0 := heap_past w1 (.cells (cv (meetV V M V' M') (meetM M M')) 37) _ _ g0
  have n1 := heap_new w1 (.cells (cv (meetV V M V' M') (meetM M M')) 37) _ rfl
  have B5 := B1.alloc B1.size (.cells (cv (meetV V M V' M') (meetM M M')) 37)
  obtain ⟨W, hW⟩ : ∃ W, W = w1.alloc (.cells (cv (meetV V M V' M') (meetM M M')) 37) := ⟨_, rfl⟩
  go_wp2_with (first
    | (refine wl_storeC rfl _ _ rfl w1.heap.size _ _ rfl rfl _ (heap_new _ _ _ rfl) rfl hAl hBl _ (setRow_new _ _ _ _ _ rfl) ?_))
  rw [← hW] at n0 n1 B5 ⊢
  clear hW g0 B1
  have ne1 := Later.ne W
  refine wp_region_later (by kernel_rfl) (by kernel_rfl) ?_
  go_big_quiet_step (fail)
  go_big_quiet_step (fail)
  refine qlC rfl _ rfl w1.heap.size rfl (meetV V M V' M') (meetM M M') n1 hAl hBl ?_
  simp only [Act.put, List.setIfInBounds_toArray, List.set_cons_succ, List.set_cons_zero]
  refine qlC rfl _ rfl w.heap.size rfl V M n0 hVl hMl ?_
  simp only [Act.put, List.setIfInBounds_toArray, List.set_cons_succ, List.set_cons_zero]
  go_big_quiet_want; go_big_quiet_op
  refine ⟨_, fun u => Calls.later_of (C2.out u.world), ?_⟩
  go_big_quiet_on
  go_big_quiet_step (fail)
  go_big_quiet_step (fail)
  go_big_quiet_step (fail)
  refine wpQuiet_nil ?_
  rintro w' ⟨u, rfl⟩
  go_wp2
  go_ret
  exact ⟨rfl, B5.trans (u.below.mono B5.size)⟩

set_option maxHeartbeats 2000000 in
theorem within_no_any (V M V' M' : List Int) (hV : Byt V) (hM : Byt M) (hV' : Byt V') (hM' : Byt M') (h : meets V M V' M' = false) (w : World) :
    Calls Tryz.prog 39 #[.agg (cv V M), .agg (cv V' M')] w fun e w' => e = .returned (.bool false) ∧ Below w.heap.size w w' := by
  have hVl := hV.1
  have hMl := hM.1
  have hVl' := hV'.1
  have hMl' := hM'.1
  have hzl := Z_byt.1
  have C1 : Hid (∀ W, Calls Tryz.prog 62 #[.agg (cv V M), .agg (cv V' M')] W fun e w' => e = .returned (.tuple #[.agg (cv Z Z), .bool false]) ∧ Below W.heap.size W w') := by
    have := meet_any V M V' M' hV hM hV' hM'; rwa [meetR_no _ _ _ _ h] at this
  clear hV hM hV' hM' h
  go_enter Tryz.func39, Tryz.ntmps39
  go_wp2_with (first
    | (refine wl_loadC rfl _ rfl w.heap.size rfl V M (heap_past _ _ _ _ (heap_new _ _ _ rfl)) hVl hMl ?_)
    | (refine wl_loadC rfl _ rfl (w.heap.size + 1) rfl V' M' (heap_new _ _ _ (by simp)) hVl' hMl' ?_))
  refine (C1.out _).mono ?_
  rintro e w1 ⟨rfl, hb1⟩
  have B1 : Below w.heap.size w w1 := (((Below.refl _ _).alloc (Nat.le_refl _) _).alloc (by simp) _).trans (hb1.mono (by simp; omega))
  clear hb1 C1
  have B5 := B1.alloc B1.size (.cells (cv Z Z) 37)
  obtain ⟨W, hW⟩ : ∃ W, W = w1.alloc (.cells (cv Z Z) 37) := ⟨_, rfl⟩
  go_wp2_with (first
    | (refine wl_storeC rfl _ _ rfl w1.heap.size Z Z rfl rfl _ (heap_new _ _ _ rfl) rfl hzl hzl _ (setRow_new _ _ _ _ _ rfl) ?_))
  rw [← hW] at B5 ⊢
  clear hW B1
  have ne1 := Later.ne W
  refine wp_region_later (by kernel_rfl) (by kernel_rfl) ?_
  go_big_quiet_step (fail)
  go_big_quiet_step (fail)
  go_big_quiet_step (fail)
  go_big_quiet_step (fail)
  go_big_quiet_step (fail)
  go_big_quiet_step (fail)
  go_big_quiet_step (fail)
  go_big_quiet_step (fail)
  refine wpQuiet_nil ?_
  rintro w' ⟨u, rfl⟩
  go_wp2
  go_ret
  exact ⟨rfl, B5.trans (u.below.mono B5.size)⟩

theorem within_any (V M V' M' : List Int) (hV : Byt V) (hM : Byt M) (hV' : Byt V') (hM' : Byt M') (w : World) :
    Calls Tryz.prog 39 #[.agg (cv V M), .agg (cv V' M')] w fun e w' => e = .returned (.bool (within V M V' M')) ∧ Below w.heap.size w w' := by
  cases h : meets V M V' M'
  · rw [within_no V M V' M' h]; exact within_no_any V M V' M' hV hM hV' hM' h w
  · exact within_yes_any V M V' M' hV hM hV' hM' h w

set_option maxHeartbeats 2000000 in
theorem rwithin_any (V M V' M' : List Int) (hV : Byt V) (hM : Byt M) (hV' : Byt V') (hM' : Byt M') (w : World) :
    Calls Tryz.prog 64 #[.agg (cv V M), .agg (cv V' M')] w fun e w' => e = .returned (.bool (within V M V' M')) ∧ Below w.heap.size w w' := by
  have hVl := hV.1
  have hMl := hM.1
  have hVl' := hV'.1
  have hMl' := hM'.1
  have CA : Hid (∀ k : Nat, k < 104 → ∀ W, Calls Tryz.prog 60 #[.agg (cv V M), .int .i64 (k : Int)] W fun e w' => e = .returned (.int .i64 (atI V M k)) ∧ Below W.heap.size W w') := fun k hk => at_any V M hV hM k hk
  have CB : Hid (∀ k : Nat, k < 104 → ∀ W, Calls Tryz.prog 60 #[.agg (cv V' M'), .int .i64 (k : Int)] W fun e w' => e = .returned (.int .i64 (atI V' M' k)) ∧ Below W.heap.size W w') := fun k hk => at_any V' M' hV' hM' k hk
  clear hV hM hV' hM'
  go_enter Tryz.func64, Tryz.ntmps64
  go_wp2_with fail
  go_loopw [5] (fun i wr => ∃ k : Nat, k ≤ 104 ∧ i = .int .i64 k ∧ (∀ j, j < k → bt M' j = true → bt M j = true ∧ bt V j = bt V' j) ∧ wr.heap[w.heap.size]? = some (.cells (cv V M) 37 (0, 0)) ∧ wr.heap[w.heap.size + 1]? = some (.cells (cv V' M') 37 (0, 0)) ∧ Below w.heap.size w wr) (fun i _ => 104 - (intOf i).toNat)
  case atStart => exact ⟨0, Nat.zero_le _, rfl, fun j hj => by omega, heap_past _ _ _ _ (heap_new _ _ _ rfl), heap_new _ _ _ (by simp), ((Below.refl _ _).alloc (Nat.le_refl _) _).alloc (by simp) _⟩
  case round =>
    obtain ⟨k, hk, rfl, hj, g0, g1, hb⟩ := hrel
    have HJ : Hid (∀ j, j < k → bt M' j = true → bt M j = true ∧ bt V j = bt V' j) := hj
    have hz := (Array.getElem?_eq_some_iff.1 g1).1
    clear hj
    by_cases hlt : k < 104
    · go_wp2_with (first
        | (refine wl_loadC rfl _ rfl (w.heap.size + 1) rfl V' M' g1 hVl' hMl' ?_))
      refine (CB.out k hlt _).mono ?_
      rintro e w1 ⟨rfl, hb1⟩
      have k0 : w1.heap[w.heap.size]? = some (.cells (cv V M) 37 (0, 0)) := by rw [hb1.block _ (by omega)]; exact g0
      have k1 : w1.heap[w.heap.size + 1]? = some (.cells (cv V' M') 37 (0, 0)) := by rw [hb1.block _ (by omega)]; exact g1
      have B1 := hb.trans (hb1.mono hb.size)
      have hz1 := Nat.lt_of_lt_of_le hz hb1.size
      clear g0 g1 hb hb1 hz
      by_cases hm : bt M' k = true
      · have HM : Hid (bt M' k = true) := hm
        have hy : (atI V' M' k != 2) = true := by rw [at_ne2]; exact hm
        obtain ⟨y, hye⟩ : ∃ y, y = atI V' M' k := ⟨_, rfl⟩
        obtain ⟨x, hxe⟩ : ∃ x, x = atI V M k := ⟨_, rfl⟩
        have hxy : (x != y) = !(bt M k && (bt V k == bt V' k)) := by
          rw [hxe, hye]; unfold atI; rw [hm]
          cases bt M k <;> cases bt V k <;> cases bt V' k <;> rfl
        have C1 : Hid (∀ W, Calls Tryz.prog 60 #[.agg (cv V M), .int .i64 (k : Int)] W fun e w' => e = .returned (.int .i64 x) ∧ Below W.heap.size W w') := by rw [hxe]; exact CA.out k hlt
        rw [← hye] at hy ⊢
        have HXY : Hid ((x != y) = !(bt M k && (bt V k == bt V' k))) := hxy
        clear hm hye hxe hxy
        by_cases hne : x = y
        · have hn : (x != y) = false := by simp [hne]
          have HN : Hid ((x != y) = false) := hn
          clear hne
          go_wp2_with (first
            | (refine wl_loadCg rfl _ rfl w.heap.size rfl V M k0 hVl hMl ?_))
          refine (C1.out _).mono ?_
          rintro e w2 ⟨rfl, hb2⟩
          have l0 : w2.heap[w.heap.size]? = some (.cells (cv V M) 37 (0, 0)) := by rw [hb2.block _ (by omega)]; exact k0
          have l1 : w2.heap[w.heap.size + 1]? = some (.cells (cv V' M') 37 (0, 0)) := by rw [hb2.block _ (by omega)]; exact k1
          have B2 := B1.trans (hb2.mono B1.size)
          clear k0 k1 hb2 C1 B1 hz1
          go_wp2_with fail
          go_roundw
          case rel =>
            refine ⟨k + 1, by omega, by go_num, fun j hj hm => ?_, l0, l1, B2⟩
            by_cases e : j = k
            · subst e
              have := HXY.out
              rw [HN.out] at this
              simpa using this.symm
            · exact HJ.out j (by omega) hm
          case measure => simp [intOf]; omega
        · have hn : (x != y) = true := by simpa using hne
          have HN : Hid ((x != y) = true) := hn
          clear hne
          go_wp2_with (first
            | (refine wl_loadCg rfl _ rfl w.heap.size rfl V M k0 hVl hMl ?_))
          refine (C1.out _).mono ?_
          rintro e w2 ⟨rfl, hb2⟩
          have B2 := B1.trans (hb2.mono B1.size)
          clear k0 k1 hb2 C1 B1 hz1
          go_wp2_with fail
          go_ret
          refine ⟨ret_bool ?_, B2⟩
          cases e : within V M V' M'
          · rfl
          · have h3 := (within_iff V M V' M').1 e k hlt HM.out
            have := HXY.out
            rw [HN.out, h3.1, h3.2] at this
            simp at this
      · have hm' : bt M' k = false := by simpa using hm
        have HM : Hid (bt M' k = false) := hm'
        have ea : atI V' M' k = 2 := by unfold atI; rw [hm']; rfl
        rw [ea]
        clear hm hm' ea
        go_wp2_with fail
        go_roundw
        case rel =>
          refine ⟨k + 1, by omega, by go_num, fun j hj hm => ?_, k0, k1, B1⟩
          by_cases e : j = k
          · subst e; rw [HM.out] at hm; cases hm
          · exact HJ.out j (by omega) hm
        case measure => simp [intOf]; omega
    · obtain rfl : k = 104 := by omega
      go_wp2_with fail
      go_ret
      exact ⟨ret_bool ((within_iff V M V' M').2 HJ.out).symm, hb⟩
end Go.Proofs.YthddlchkbnmcaaaGreatDoor
namespace Go.Proofs.YthddlchkbnmcaaaGreatDoor
open Go Go.RowKit
set_option maxRecDepth 20000

end Go.Proofs.YthddlchkbnmcaaaGreatDoor
