import Derived.Test.YtdibjhlckjjlfaaJ5
import Derived.Test.YtdibjhlckjjlfaaJ4
import Derived.Test.YtdibjhlckjjlfaaJ3
namespace Go.Proofs.Ytdibjhlckjjlfaa
open Go Go.RowKit
set_option maxRecDepth 20000

/-- Has the second cube all that the first one has? -/
def within (V M V' M' : List Int) : Bool := (List.range 104).all fun i => !(bt M' i) || (bt M i && (bt V i == bt V' i))
theorem within_iff (V M V' M' : List Int) : within V M V' M' = true ↔ ∀ i, i < 104 → bt M' i = true → bt M i = true ∧ bt V i = bt V' i := by
  unfold within
  simp only [List.all_eq_true, List.mem_range, Bool.or_eq_true, Bool.not_eq_true', Bool.and_eq_true, beq_iff_eq]
  constructor
  · intro h i hi hm
    rcases h i hi with h' | h'
    · rw [h'] at hm; cases hm
    · exact h'
  · intro h i hi
    cases hm : bt M' i
    · exact .inl rfl
    · exact .inr (h i hi hm)

theorem within_eq (V M V' M' : List Int) (hM : Byt M) (h : meets V M V' M' = true) : (meetV V M V' M' == can V M && meetM M M' == M) = within V M V' M' := by
  rw [Bool.eq_iff_iff, Bool.and_eq_true, beq_iff_eq, beq_iff_eq, within_iff]
  have hm := (meets_iff V M V' M').1 h
  constructor
  · rintro ⟨_, g2⟩ i hi h1
    have e2 : bt (meetM M M') i = (bt M i || bt M' i) := mk_bt _ i hi
    rw [g2, h1, Bool.or_true] at e2
    exact ⟨e2, hm i hi e2 h1⟩
  · intro g
    refine ⟨mk_ext _ _ fun i hi => ?_, (mk_eq M hM _ fun i hi => ?_).symm⟩
    · have := g i hi
      revert this
      cases bt V i <;> cases bt V' i <;> cases bt M i <;> cases bt M' i <;> simp
    · have := g i hi
      revert this
      cases bt M i <;> cases bt M' i <;> simp
theorem within_no (V M V' M' : List Int) (h : meets V M V' M' = false) : within V M V' M' = false := by
  cases e : within V M V' M'
  · rfl
  · rw [within_iff] at e
    have : meets V M V' M' = true := (meets_iff _ _ _ _).2 fun i hi _ h2 => (e i hi h2).2
    rw [h] at this; cases this

set_option maxHeartbeats 2000000 in
theorem within_yes_any (V M V' M' : List Int) (hV : Byt V) (hM : Byt M) (hV' : Byt V') (hM' : Byt M') (h : meets V M V' M' = true) (w : World) :
    Calls Try.prog 18 #[.agg (cv V M), .agg (cv V' M')] w fun e w' => e = .returned (.bool (within V M V' M')) ∧ Below w.heap.size w w' := by
  have hVl := hV.1
  have hMl := hM.1
  have hVl' := hV'.1
  have hMl' := hM'.1
  have hAl := (meetV_byt V M V' M').1
  have hBl := (meetM_byt M M').1
  have hCl := (can_byt V M).1
  obtain ⟨r, hr⟩ : ∃ r, r = within V M V' M' := ⟨_, rfl⟩
  have C1 : Hid (∀ W, Calls Try.prog 32 #[.agg (cv V M), .agg (cv V' M')] W fun e w' => e = .returned (.tuple #[.agg (cv (meetV V M V' M') (meetM M M')), .bool true]) ∧ Below W.heap.size W w') := by
    have := meet_any V M V' M' hV hM hV' hM'; rwa [meetR_yes _ _ _ _ h] at this
  have C2 : Hid (∀ W, Calls Try.prog 25 #[.agg (cv V M)] W fun e w' => e = .returned (.agg (cv (can V M) M)) ∧ Below W.heap.size W w') := canon_any V M hV hM
  have e1 : ∀ w, (Op.equalIn 10000 30 (.agg (cv (meetV V M V' M') (meetM M M'))) (.agg (cv (can V M) M))).run Try.prog w = .ok r w := fun w => by rw [eqC _ _ _ _ hAl hBl hCl hMl, within_eq V M V' M' hM h, hr]
  have eg : ∀ op x y (xs ys : Array Value) w, (eqGuard op 30 x y (.agg xs) (.agg ys)).run Try.prog w = .ok () w := egC
  rw [← hr]
  clear hV hM hV' hM' h hr
  go_enter Try.func18, Try.ntmps18
  go_wp2_with (first
    | (refine wl_loadC rfl _ rfl w.heap.size rfl V M (heap_past _ _ _ _ (heap_new _ _ _ rfl)) hVl hMl ?_)
    | (refine wl_loadC rfl _ rfl (w.heap.size + 1) rfl V' M' (heap_new _ _ _ (by simp)) hVl' hMl' ?_))
  refine (C1.out _).mono ?_
  rintro e w1 ⟨rfl, hb1⟩
  have g0 : w1.heap[w.heap.size]? = some (.cells (cv V M) 30 (0, 0)) := by rw [hb1.block _ (by simp; omega)]; exact heap_past _ _ _ _ (heap_new _ _ _ rfl)
  have B1 : Below w.heap.size w w1 := (((Below.refl _ _).alloc (Nat.le_refl _) _).alloc (by simp) _).trans (hb1.mono (by simp; omega))
  clear hb1 C1
  have n0 := heap_past w1 (.cells (cv (meetV V M V' M') (meetM M M')) 30) _ _ g0
  have n1 := heap_new w1 (.cells (cv (meetV V M V' M') (meetM M M')) 30) _ rfl
  have B5 := B1.alloc B1.size (.cells (cv (meetV V M V' M') (meetM M M')) 30)
  obtain ⟨W, hW⟩ : ∃ W, W = w1.alloc (.cells (cv (meetV V M V' M') (meetM M M')) 30) := ⟨_, rfl⟩
  go_wp2_with (first
    | (refine wl_storeC rfl _ _ rfl w1.heap.size _ _ rfl rfl _ (heap_new _ _ _ rfl) rfl hAl hBl _ (setRow_new _ _ _ _ _ rfl) ?_))
  rw [← hW] at n0 n1 B5 ⊢
  clear hW g0 B1
  have ne1 := Later.ne W
  refine wp_region_later (by kernel_rfl) (by kernel_rfl) ?_
  go_big_quiet_step (fail)
  go_big_quiet_step (fail)
  refine qlC rfl _ rfl w1.heap.size rfl (meetV V M V' M') (meetM M M') n1 hAl hBl ?_
  simp only [Act.put, List.setIfInBounds_toArray, List.set_cons_succ, List.set_cons_zero]
  refine qlC rfl _ rfl w.heap.size rfl V M n0 hVl hMl ?_
  simp only [Act.put, List.setIfInBounds_toArray, List.set_cons_succ, List.set_cons_zero]
  go_big_quiet_want; go_big_quiet_op
  refine ⟨_, fun u => Calls.later_of (C2.out u.world), ?_⟩
  go_big_quiet_on
  go_big_quiet_step (fail)
  go_big_quiet_step (fail)
  go_big_quiet_step (fail)
  refine wpQuiet_nil ?_
  rintro w' ⟨u, rfl⟩
  go_wp2
  go_ret
  exact ⟨rfl, B5.trans (u.below.mono B5.size)⟩

set_option maxHeartbeats 2000000 in
theorem within_no_any (V M V' M' : List Int) (hV : Byt V) (hM : Byt M) (hV' : Byt V') (hM' : Byt M') (h : meets V M V' M' = false) (w : World) :
    Calls Try.prog 18 #[.agg (cv V M), .agg (cv V' M')] w fun e w' => e = .returned (.bool false) ∧ Below w.heap.size w w' := by
  have hVl := hV.1
  have hMl := hM.1
  have hVl' := hV'.1
  have hMl' := hM'.1
  have hzl := Z_byt.1
  have C1 : Hid (∀ W, Calls Try.prog 32 #[.agg (cv V M), .agg (cv V' M')] W fun e w' => e = .returned (.tuple #[.agg (cv Z Z), .bool false]) ∧ Below W.heap.size W w') := by
    have := meet_any V M V' M' hV hM hV' hM'; rwa [meetR_no _ _ _ _ h] at this
  clear hV hM hV' hM' h
  go_enter Try.func18, Try.ntmps18
  go_wp2_with (first
    | (refine wl_loadC rfl _ rfl w.heap.size rfl V M (heap_past _ _ _ _ (heap_new _ _ _ rfl)) hVl hMl ?_)
    | (refine wl_loadC rfl _ rfl (w.heap.size + 1) rfl V' M' (heap_new _ _ _ (by simp)) hVl' hMl' ?_))
  refine (C1.out _).mono ?_
  rintro e w1 ⟨rfl, hb1⟩
  have B1 : Below w.heap.size w w1 := (((Below.refl _ _).alloc (Nat.le_refl _) _).alloc (by simp) _).trans (hb1.mono (by simp; omega))
  clear hb1 C1
  have B5 := B1.alloc B1.size (.cells (cv Z Z) 30)
  obtain ⟨W, hW⟩ : ∃ W, W = w1.alloc (.cells (cv Z Z) 30) := ⟨_, rfl⟩
  go_wp2_with (first
    | (refine wl_storeC rfl _ _ rfl w1.heap.size Z Z rfl rfl _ (heap_new _ _ _ rfl) rfl hzl hzl _ (setRow_new _ _ _ _ _ rfl) ?_))
  rw [← hW] at B5 ⊢
  clear hW B1
  have ne1 := Later.ne W
  refine wp_region_later (by kernel_rfl) (by kernel_rfl) ?_
  go_big_quiet_step (fail)
  go_big_quiet_step (fail)
  go_big_quiet_step (fail)
  go_big_quiet_step (fail)
  go_big_quiet_step (fail)
  go_big_quiet_step (fail)
  go_big_quiet_step (fail)
  go_big_quiet_step (fail)
  refine wpQuiet_nil ?_
  rintro w' ⟨u, rfl⟩
  go_wp2
  go_ret
  exact ⟨rfl, B5.trans (u.below.mono B5.size)⟩

theorem within_any (V M V' M' : List Int) (hV : Byt V) (hM : Byt M) (hV' : Byt V') (hM' : Byt M') (w : World) :
    Calls Try.prog 18 #[.agg (cv V M), .agg (cv V' M')] w fun e w' => e = .returned (.bool (within V M V' M')) ∧ Below w.heap.size w w' := by
  cases h : meets V M V' M'
  · rw [within_no V M V' M' h]; exact within_no_any V M V' M' hV hM hV' hM' h w
  · exact within_yes_any V M V' M' hV hM hV' hM' h w

end Go.Proofs.Ytdibjhlckjjlfaa
namespace Go.Proofs.Ytdibjhlckjjlfaa
open Go Go.RowKit
set_option maxRecDepth 20000

/-! The cube about a header: its mathematics (layer 15). -/

/-- Have a cube and a rule a header together? -/
def mtA (c : List Int × List Int) (r : List Int × List Int) : Bool := meets c.1 c.2 r.1 r.2
/-- The least bit that a rule has other than a header. -/
def oddA (H : List Int) (r : List Int × List Int) : Option Nat := (List.range 104).find? fun i => bt r.2 i && (bt r.1 i != bt H i)
def setA (c : List Int × List Int) (i : Nat) (b : Bool) : List Int × List Int := (setb c.1 i b, setb c.2 i true)
def freeA (c : List Int × List Int) (i : Nat) : List Int × List Int := (setb c.1 i false, setb c.2 i false)
def narA (H : List Int) (c : List Int × List Int) (r : List Int × List Int) : List Int × List Int :=
  if mtA c r then (match oddA H r with | some i => setA c i (bt H i) | none => c) else c
def narsA (H : List Int) (c : List Int × List Int) (A : List (List Int × List Int)) : List Int × List Int := A.foldl (narA H) c
def clearA (A : List (List Int × List Int)) (c : List Int × List Int) : Bool := A.all fun r => !(mtA c r)
def widA (A : List (List Int × List Int)) (M : List Int) (c : List Int × List Int) (i : Nat) : List Int × List Int :=
  if !(bt M i) && bt c.2 i && clearA A (freeA c i) then freeA c i else c
def widsA (A : List (List Int × List Int)) (M : List Int) (n : Nat) (c : List Int × List Int) : List Int × List Int := (List.range n).foldl (widA A M) c
/-- The cube about a header that the cube c0 has, behind the rules A. -/
def aboutA (A : List (List Int × List Int)) (c0 : List Int × List Int) (H : List Int) : List Int × List Int :=
  widsA A c0.2 104 (narsA H (can c0.1 c0.2, c0.2) A)

theorem has_withinA (V M V' M' H : List Int) (h : within V M V' M' = true) (h2 : has V M H = true) : has V' M' H = true := by
  rw [has_iff] at h2 ⊢
  rw [within_iff] at h
  intro i hi hm
  obtain ⟨h3, h4⟩ := h i hi hm
  rw [← h4]; exact h2 i hi h3
/-- One lies within another, bit by bit. -/
def inA (c d : List Int × List Int) : Prop := ∀ i, i < 104 → bt d.2 i = true → bt c.2 i = true ∧ bt c.1 i = bt d.1 i
theorem inA_within {c d : List Int × List Int} : inA c d ↔ within c.1 c.2 d.1 d.2 = true := (within_iff _ _ _ _).symm
theorem inA_refl (c : List Int × List Int) : inA c c := fun _ _ h => ⟨h, rfl⟩
theorem inA_trans {a b c : List Int × List Int} (h : inA a b) (g : inA b c) : inA a c := fun i hi h1 => by
  obtain ⟨h2, h3⟩ := g i hi h1
  obtain ⟨h4, h5⟩ := h i hi h2
  exact ⟨h4, h5.trans h3⟩
theorem inA_has {c d : List Int × List Int} {H : List Int} (h : inA c d) (g : has c.1 c.2 H = true) : has d.1 d.2 H = true :=
  has_withinA _ _ _ _ H (inA_within.1 h) g
theorem mt_in {c d : List Int × List Int} {r : List Int × List Int} (h : inA c d) (g : mtA c r = true) : mtA d r = true := by
  unfold mtA at g ⊢
  rw [meets_iff] at g ⊢
  intro i hi h1 h2
  obtain ⟨h3, h4⟩ := h i hi h1
  rw [← h4]
  exact g i hi h3 h2
theorem mt_in_no {c d : List Int × List Int} {r : List Int × List Int} (h : inA c d) (g : mtA d r = false) : mtA c r = false := by
  cases e : mtA c r with
  | false => rfl
  | true => rw [mt_in h e] at g; cases g
theorem clear_in {A : List (List Int × List Int)} {c d : List Int × List Int} (h : inA c d) (g : clearA A d = true) : clearA A c = true := by
  unfold clearA at g ⊢
  rw [List.all_eq_true] at g ⊢
  intro r hr
  have := g r hr
  rw [Bool.not_eq_true'] at this ⊢
  exact mt_in_no h this
theorem clear_in_no {A : List (List Int × List Int)} {c d : List Int × List Int} (h : inA c d) (g : clearA A c = false) : clearA A d = false := by
  cases e : clearA A d with
  | false => rfl
  | true => rw [clear_in h e] at g; cases g

theorem setA_v (c : List Int × List Int) (i : Nat) (b : Bool) (k : Nat) (hk : k < 104) : bt (setA c i b).1 k = if k = i then b else bt c.1 k := setb_bt _ i b k hk
theorem setA_m (c : List Int × List Int) (i : Nat) (b : Bool) (k : Nat) (hk : k < 104) : bt (setA c i b).2 k = if k = i then true else bt c.2 k := setb_bt _ i true k hk
theorem freeA_v (c : List Int × List Int) (i : Nat) (k : Nat) (hk : k < 104) : bt (freeA c i).1 k = if k = i then false else bt c.1 k := setb_bt _ i false k hk
theorem freeA_m (c : List Int × List Int) (i : Nat) (k : Nat) (hk : k < 104) : bt (freeA c i).2 k = if k = i then false else bt c.2 k := setb_bt _ i false k hk

theorem set_in {c : List Int × List Int} {i : Nat} {b : Bool} (h : bt c.2 i = true → bt c.1 i = b) : inA (setA c i b) c := fun k hk h1 => by
  rw [setA_v c i b k hk, setA_m c i b k hk]
  by_cases e : k = i
  · subst e; rw [if_pos rfl, if_pos rfl]; exact ⟨rfl, (h h1).symm⟩
  · rw [if_neg e, if_neg e]; exact ⟨h1, rfl⟩
theorem free_in (c : List Int × List Int) (i : Nat) : inA c (freeA c i) := fun k hk h1 => by
  rw [freeA_m c i k hk] at h1
  rw [freeA_v c i k hk]
  by_cases e : k = i
  · rw [if_pos e] at h1; cases h1
  · rw [if_neg e] at h1 ⊢; exact ⟨h1, rfl⟩
theorem free_mono {c d : List Int × List Int} (i : Nat) (h : inA c d) : inA (freeA c i) (freeA d i) := fun k hk h1 => by
  rw [freeA_m d i k hk] at h1
  rw [freeA_v c i k hk, freeA_v d i k hk, freeA_m c i k hk]
  by_cases e : k = i
  · rw [if_pos e] at h1; cases h1
  · rw [if_neg e] at h1; rw [if_neg e, if_neg e, if_neg e]; exact h k hk h1
theorem free_within {c d : List Int × List Int} {i : Nat} (h : inA c d) (hf : bt d.2 i = false) : inA (freeA c i) d := fun k hk h1 => by
  have e : k ≠ i := fun e => by rw [e, hf] at h1; cases h1
  rw [freeA_v c i k hk, freeA_m c i k hk, if_neg e, if_neg e]
  exact h k hk h1
theorem set_has {c : List Int × List Int} {H : List Int} (i : Nat) (h : has c.1 c.2 H = true) : has (setA c i (bt H i)).1 (setA c i (bt H i)).2 H = true := by
  rw [has_iff] at h ⊢
  intro k hk h1
  rw [setA_m c i _ k hk] at h1
  rw [setA_v c i _ k hk]
  by_cases e : k = i
  · rw [if_pos e, e]
  · rw [if_neg e] at h1 ⊢; exact h k hk h1

theorem odd_some {H : List Int} {r : List Int × List Int} (h : has r.1 r.2 H = false) : ∃ i, oddA H r = some i := by
  cases e : oddA H r with
  | some i => exact ⟨i, rfl⟩
  | none =>
    unfold oddA at e
    rw [List.find?_eq_none] at e
    have : has r.1 r.2 H = true := (has_iff _ _ _).2 fun i hi h1 => by
      have := e i (List.mem_range.2 hi)
      rw [h1] at this
      simpa using this
    rw [this] at h; cases h
theorem odd_is {H : List Int} {r : List Int × List Int} {i : Nat} (h : oddA H r = some i) : i < 104 ∧ bt r.2 i = true ∧ bt r.1 i ≠ bt H i := by
  have h1 := List.find?_some h
  have h2 := List.mem_of_find?_eq_some h
  rw [Bool.and_eq_true, bne_iff_ne] at h1
  exact ⟨List.mem_range.1 h2, h1.1, h1.2⟩

/-- A cube with no ones where it is free. -/
def rightA (c : List Int × List Int) : Prop := Byt c.1 ∧ Byt c.2 ∧ ∀ i, i < 104 → bt c.1 i = true → bt c.2 i = true
theorem rightA_can {c : List Int × List Int} (h : rightA c) : can c.1 c.2 = c.1 :=
  bt_ext _ _ (can_byt _ _) h.1 fun i hi => by
    rw [can_bt _ _ i hi]
    have := h.2.2 i hi
    revert this
    cases bt c.1 i <;> cases bt c.2 i <;> simp
theorem rightA_of (V M : List Int) (hM : Byt M) : rightA (can V M, M) := ⟨can_byt _ _, hM, fun i hi h => by
  dsimp only at h ⊢
  rw [can_bt _ _ i hi, Bool.and_eq_true] at h; exact h.2⟩
theorem rightA_set {c : List Int × List Int} (h : rightA c) (i : Nat) (b : Bool) : rightA (setA c i b) := ⟨setb_byt _ _ _, setb_byt _ _ _, fun k hk h1 => by
  rw [setA_v c i b k hk] at h1
  rw [setA_m c i b k hk]
  by_cases e : k = i
  · rw [if_pos e]
  · rw [if_neg e] at h1 ⊢; exact h.2.2 k hk h1⟩
theorem rightA_free {c : List Int × List Int} (h : rightA c) (i : Nat) : rightA (freeA c i) := ⟨setb_byt _ _ _, setb_byt _ _ _, fun k hk h1 => by
  rw [freeA_v c i k hk] at h1
  rw [freeA_m c i k hk]
  by_cases e : k = i
  · rw [if_pos e] at h1; cases h1
  · rw [if_neg e] at h1 ⊢; exact h.2.2 k hk h1⟩
theorem can_in (V M : List Int) : inA (can V M, M) (V, M) := fun i hi h => by
  dsimp only at h ⊢
  rw [can_bt _ _ i hi, h, Bool.and_true]
  exact ⟨rfl, rfl⟩
theorem can_inv (V M : List Int) : inA (V, M) (can V M, M) := fun i hi h => by
  dsimp only at h ⊢
  rw [can_bt _ _ i hi, h, Bool.and_true]
  exact ⟨rfl, rfl⟩

theorem nar_ok {H : List Int} {c : List Int × List Int} {r : List Int × List Int} (hc : has c.1 c.2 H = true) (hr : has r.1 r.2 H = false) (hR : rightA c) :
    has (narA H c r).1 (narA H c r).2 H = true ∧ inA (narA H c r) c ∧ mtA (narA H c r) r = false ∧ rightA (narA H c r) := by
  unfold narA
  cases em : mtA c r with
  | false => rw [if_neg (by decide)]; exact ⟨hc, inA_refl c, em, hR⟩
  | true =>
    rw [if_pos rfl]
    obtain ⟨i, hi⟩ := odd_some hr
    rw [hi]
    obtain ⟨h1, h2, h3⟩ := odd_is hi
    refine ⟨set_has i hc, set_in fun h => ((has_iff _ _ _).1 hc i h1 h), ?_, rightA_set hR _ _⟩
    cases e : mtA (setA c i (bt H i)) r with
    | false => rfl
    | true =>
      have := (meets_iff _ _ _ _).1 e i h1 (by rw [setA_m c i _ i h1, if_pos rfl]) h2
      rw [setA_v c i _ i h1, if_pos rfl] at this
      exact absurd this.symm h3
theorem nars_ok {H : List Int} : ∀ (A : List (List Int × List Int)) (c : List Int × List Int), has c.1 c.2 H = true → (∀ r ∈ A, has r.1 r.2 H = false) → rightA c →
    has (narsA H c A).1 (narsA H c A).2 H = true ∧ inA (narsA H c A) c ∧ (∀ r ∈ A, mtA (narsA H c A) r = false) ∧ rightA (narsA H c A)
  | [], c, hc, _, hR => ⟨hc, inA_refl c, (fun r hr => absurd hr (List.not_mem_nil)), hR⟩
  | r :: A, c, hc, hA, hR => by
    obtain ⟨h1, h2, h3, h4⟩ := nar_ok hc (hA r List.mem_cons_self) hR
    obtain ⟨g1, g2, g3, g4⟩ := nars_ok A (narA H c r) h1 (fun x hx => hA x (List.mem_cons_of_mem _ hx)) h4
    have e : narsA H c (r :: A) = narsA H (narA H c r) A := rfl
    rw [e]
    refine ⟨g1, inA_trans g2 h2, fun x hx => ?_, g4⟩
    rcases List.mem_cons.1 hx with rfl | hx
    · exact mt_in_no g2 h3
    · exact g3 x hx

theorem wid_in (A : List (List Int × List Int)) (M : List Int) (c : List Int × List Int) (i : Nat) : inA c (widA A M c i) := by
  unfold widA
  split
  · exact free_in c i
  · exact inA_refl c
theorem wid_right {A : List (List Int × List Int)} {M : List Int} {c : List Int × List Int} (i : Nat) (h : rightA c) : rightA (widA A M c i) := by
  unfold widA
  split
  · exact rightA_free h i
  · exact h
theorem wid_clear {A : List (List Int × List Int)} {M : List Int} {c : List Int × List Int} (i : Nat) (h : clearA A c = true) : clearA A (widA A M c i) = true := by
  unfold widA
  split
  · rename_i g; rw [Bool.and_eq_true] at g; exact g.2
  · exact h
theorem wid_within {A : List (List Int × List Int)} {d : List Int × List Int} {c : List Int × List Int} (i : Nat) (h : inA c d) : inA (widA A d.2 c i) d := by
  unfold widA
  split
  · rename_i g; rw [Bool.and_eq_true, Bool.and_eq_true, Bool.not_eq_true'] at g; exact free_within h g.1.1
  · exact h
theorem wid_most {A : List (List Int × List Int)} {M : List Int} {c : List Int × List Int} {i : Nat} (hi : i < 104) (hM : bt M i = false) (h : bt (widA A M c i).2 i = true) : clearA A (freeA (widA A M c i) i) = false := by
  unfold widA at h ⊢
  split at h
  · rw [freeA_m c i i hi, if_pos rfl] at h; cases h
  · rename_i g
    rw [if_neg g]
    rw [hM, h] at g
    simpa using g

theorem wids_succ (A : List (List Int × List Int)) (M : List Int) (n : Nat) (c : List Int × List Int) : widsA A M (n + 1) c = widA A M (widsA A M n c) n := by
  unfold widsA
  rw [List.range_succ, List.foldl_append]; rfl
theorem wids_ok {A : List (List Int × List Int)} {d c : List Int × List Int} (hd : inA c d) (hc : clearA A c = true) (hR : rightA c) : ∀ n, n ≤ 104 →
    inA c (widsA A d.2 n c) ∧ inA (widsA A d.2 n c) d ∧ clearA A (widsA A d.2 n c) = true ∧ rightA (widsA A d.2 n c) ∧
    ∀ k, k < n → bt d.2 k = false → bt (widsA A d.2 n c).2 k = true → clearA A (freeA (widsA A d.2 n c) k) = false
  | 0, _ => ⟨inA_refl c, hd, hc, hR, fun k hk => absurd hk (Nat.not_lt_zero k)⟩
  | n + 1, hn => by
    obtain ⟨h1, h2, h3, h4, h5⟩ := wids_ok hd hc hR n (by omega)
    rw [wids_succ]
    have hw := wid_in A d.2 (widsA A d.2 n c) n
    refine ⟨inA_trans h1 hw, wid_within n h2, wid_clear n h3, wid_right n h4, fun k hk hM hb => ?_⟩
    by_cases e : k = n
    · subst e; exact wid_most (by omega) hM hb
    · exact clear_in_no (free_mono k hw) (h5 k (by omega) hM (hw k (by omega) hb).1)

/-- The cube about a header has it, lies within the rule's, is clear of the rules ahead, right, and as great as can be. -/
theorem about_ok {A : List (List Int × List Int)} {c0 : List Int × List Int} {H : List Int} (hM : Byt c0.2) (h0 : has c0.1 c0.2 H = true) (hA : ∀ r ∈ A, has r.1 r.2 H = false) :
    has (aboutA A c0 H).1 (aboutA A c0 H).2 H = true ∧ inA (aboutA A c0 H) c0 ∧ clearA A (aboutA A c0 H) = true ∧ rightA (aboutA A c0 H) ∧
    ∀ i, i < 104 → bt c0.2 i = false → bt (aboutA A c0 H).2 i = true → clearA A (freeA (aboutA A c0 H) i) = false := by
  obtain ⟨h1, h2, h3, h4⟩ := nars_ok A (can c0.1 c0.2, c0.2) (inA_has (can_inv c0.1 c0.2) h0) hA (rightA_of _ _ hM)
  have hc : clearA A (narsA H (can c0.1 c0.2, c0.2) A) = true := by
    unfold clearA
    rw [List.all_eq_true]
    intro r hr
    rw [h3 r hr]; rfl
  obtain ⟨g1, g2, g3, g4, g5⟩ := wids_ok (d := c0) (inA_trans h2 (can_in c0.1 c0.2)) hc h4 104 (Nat.le_refl _)
  exact ⟨inA_has g1 h1, g2, g3, g4, g5⟩

/-- No header of the cube about one belongs to a rule ahead. -/
theorem about_ahead {A : List (List Int × List Int)} {c : List Int × List Int} {G : List Int} (h : clearA A c = true) (hG : has c.1 c.2 G = true) : ∀ r ∈ A, has r.1 r.2 G = false := fun r hr => by
  have := (List.all_eq_true.1 h) r hr
  rw [Bool.not_eq_true'] at this
  cases e : has r.1 r.2 G with
  | false => rfl
  | true =>
    have g : mtA c r = true := has_meets hG e
    rw [g] at this; cases this

/-- With no rule ahead it is the rule's own. -/
theorem about_nil (c0 : List Int × List Int) (H : List Int) : aboutA [] c0 H = (can c0.1 c0.2, c0.2) := by
  have h : ∀ n, widsA [] c0.2 n (can c0.1 c0.2, c0.2) = (can c0.1 c0.2, c0.2) := fun n => by
    induction n with
    | zero => rfl
    | succ n ih =>
      rw [wids_succ, ih]
      unfold widA
      rw [if_neg]
      simp
  exact h 104

/-! What the code does otherwise: rules ahead that have nothing together with the rule's cube are passed over at once. -/
theorem meets_comm15 (V M V' M' : List Int) : meets V M V' M' = meets V' M' V M := by
  rw [Bool.eq_iff_iff, meets_iff, meets_iff]
  exact ⟨fun h i hi h1 h2 => (h i hi h2 h1).symm, fun h i hi h1 h2 => (h i hi h2 h1).symm⟩
/-- Those in the way of a cube. -/
def wayA (A : List (List Int × List Int)) (c0 : List Int × List Int) : List (List Int × List Int) := A.filter fun r => meets r.1 r.2 c0.1 c0.2
theorem way_clear {c c0 : List Int × List Int} (h : inA c c0) : ∀ A : List (List Int × List Int), clearA (wayA A c0) c = clearA A c
  | [] => rfl
  | r :: A => by
    have ih := way_clear h A
    unfold wayA clearA at ih ⊢
    rw [List.filter_cons]
    cases e : meets r.1 r.2 c0.1 c0.2 with
    | true => rw [if_pos rfl, List.all_cons, List.all_cons, ih]
    | false =>
      rw [if_neg (by decide), List.all_cons, ih]
      have : mtA c r = false := mt_in_no h (by unfold mtA; rw [meets_comm15]; exact e)
      rw [this]; rfl
theorem way_nars {H : List Int} {c0 : List Int × List Int} : ∀ (A : List (List Int × List Int)) (c : List Int × List Int), inA c c0 → has c.1 c.2 H = true → (∀ r ∈ A, has r.1 r.2 H = false) → rightA c → narsA H c (wayA A c0) = narsA H c A
  | [], _, _, _, _, _ => rfl
  | r :: A, c, h, hc, hA, hR => by
    have hA' : ∀ x ∈ A, has x.1 x.2 H = false := fun x hx => hA x (List.mem_cons_of_mem _ hx)
    have e2 : narsA H c (r :: A) = narsA H (narA H c r) A := rfl
    rw [e2]
    unfold wayA
    rw [List.filter_cons]
    cases e : meets r.1 r.2 c0.1 c0.2 with
    | true =>
      rw [if_pos rfl]
      obtain ⟨h1, h2, h3, h4⟩ := nar_ok hc (hA r List.mem_cons_self) hR
      exact way_nars A (narA H c r) (inA_trans h2 h) h1 hA' h4
    | false =>
      rw [if_neg (by decide)]
      have : mtA c r = false := mt_in_no h (by unfold mtA; rw [meets_comm15]; exact e)
      have e3 : narA H c r = c := by unfold narA; rw [this]; rfl
      rw [e3]
      exact way_nars A c h hc hA' hR
theorem way_wids {A : List (List Int × List Int)} {c0 c : List Int × List Int} (h : inA c c0) : ∀ n, widsA (wayA A c0) c0.2 n c = widsA A c0.2 n c ∧ inA (widsA A c0.2 n c) c0
  | 0 => ⟨rfl, h⟩
  | n + 1 => by
    obtain ⟨h1, h2⟩ := way_wids h n
    rw [wids_succ, wids_succ, h1]
    refine ⟨?_, wid_within n h2⟩
    unfold widA
    cases e : bt c0.2 n with
    | true => rfl
    | false =>
      rw [way_clear (free_within h2 e)]
/-- The code's way to the cube about a header. -/
theorem about_way {A : List (List Int × List Int)} {c0 : List Int × List Int} {H : List Int} (hM : Byt c0.2) (h0 : has c0.1 c0.2 H = true) (hA : ∀ r ∈ A, has r.1 r.2 H = false) :
    widsA (wayA A c0) c0.2 104 (narsA H (can c0.1 c0.2, c0.2) (wayA A c0)) = aboutA A c0 H := by
  have h1 := inA_has (can_inv c0.1 c0.2) h0
  have h2 := rightA_of c0.1 c0.2 hM
  rw [way_nars A _ (can_in c0.1 c0.2) h1 hA h2]
  obtain ⟨_, g2, _, _⟩ := nars_ok A (can c0.1 c0.2, c0.2) h1 hA h2
  exact (way_wids (inA_trans g2 (can_in c0.1 c0.2)) 104).1
/-- What cube.Fix, cube.Loose make of a right cube. -/
theorem fix_setA {c : List Int × List Int} (h : rightA c) (i : Nat) (b : Bool) : fixV c.1 c.2 i b = (setA c i b).1 ∧ fixM c.2 i = (setA c i b).2 := by
  unfold fixV fixM setA
  rw [rightA_can h]
  exact ⟨rfl, rfl⟩
theorem loo_freeA {c : List Int × List Int} (h : rightA c) (i : Nat) : looV c.1 c.2 i = (freeA c i).1 ∧ looM c.2 i = (freeA c i).2 := by
  refine ⟨?_, rfl⟩
  unfold looV looM
  refine bt_ext _ _ (can_byt _ _) (setb_byt _ _ _) fun k hk => ?_
  have := h.2.2 k hk
  rw [can_bt _ _ k hk, setb_bt _ _ _ k hk, freeA_v c i k hk]
  by_cases e : k = i
  · rw [if_pos e, if_pos e, Bool.and_false]
  · rw [if_neg e, if_neg e]
    revert this
    cases bt c.1 k <;> cases bt c.2 k <;> simp
/-- The cubes of the rules ahead. -/
def cubsA (l : List RuleM) : List (List Int × List Int) := l.map (·.cube)
/-- The first rule that has a header stands at a place. -/
structure FirstA (l : List RuleM) (H : List Int) (k : Nat) (r : RuleM) : Prop where
  at_ : l[k]? = some r
  has_ : has r.cube.1 r.cube.2 H = true
  ahead : ∀ x ∈ cubsA (l.take k), has x.1 x.2 H = false
theorem first_or (l : List RuleM) (H : List Int) : (∃ k r, FirstA l H k r) ∨ ∀ x ∈ l, hasR H x = false := by
  induction l with
  | nil => exact .inr fun x hx => absurd hx (List.not_mem_nil)
  | cons a l ih =>
    cases e : hasR H a with
    | true => exact .inl ⟨0, a, rfl, e, fun x hx => absurd hx (by simp [cubsA])⟩
    | false =>
      rcases ih with ⟨k, r, h1, h2, h3⟩ | ih
      · refine .inl ⟨k + 1, r, h1, h2, fun x hx => ?_⟩
        unfold cubsA at hx h3
        rw [List.take_succ_cons, List.map_cons] at hx
        rcases List.mem_cons.1 hx with rfl | hx
        · exact e
        · exact h3 x hx
      · refine .inr fun x hx => ?_
        rcases List.mem_cons.1 hx with rfl | hx
        · exact e
        · exact ih x hx
theorem FirstA.lt {l : List RuleM} {H : List Int} {k : Nat} {r : RuleM} (h : FirstA l H k r) : k < l.length := (List.getElem?_eq_some_iff.1 h.at_).1
theorem FirstA.mem {l : List RuleM} {H : List Int} {k : Nat} {r : RuleM} (h : FirstA l H k r) : r ∈ l := List.mem_of_getElem? h.at_
theorem FirstA.before {l : List RuleM} {H : List Int} {k : Nat} {r : RuleM} (h : FirstA l H k r) {j : Nat} {x : RuleM} (hj : j < k) (hx : l[j]? = some x) : has x.cube.1 x.cube.2 H = false := by
  refine h.ahead x.cube (List.mem_map.2 ⟨x, ?_, rfl⟩)
  refine List.mem_of_getElem? (i := j) ?_
  rw [List.getElem?_take_of_lt hj]; exact hx
theorem FirstA.look {l : List RuleM} {H : List Int} {k : Nat} {r : RuleM} (h : FirstA l H k r) : lookT l H = (r, true) := by
  unfold lookT
  rw [find_of_take (k := k) (x := r) ?_ h.at_ h.has_]
  rw [List.find?_eq_none]
  intro x hx
  have := h.ahead x.cube (List.mem_map.2 ⟨x, hx, rfl⟩)
  unfold hasR
  rw [this]; decide
theorem look_none15 {l : List RuleM} {H : List Int} (h : ∀ x ∈ l, hasR H x = false) : lookT l H = (rule0, false) := by
  unfold lookT
  rw [List.find?_eq_none.2 fun x hx => by rw [h x hx]; decide]
/-- The place of the first one is one. -/
theorem FirstA.one {l : List RuleM} {H : List Int} {k k' : Nat} {r r' : RuleM} (h : FirstA l H k r) (h' : FirstA l H k' r') : k = k' ∧ r = r' := by
  have key : ∀ {a b : Nat} {x y : RuleM}, FirstA l H a x → FirstA l H b y → ¬ a < b := fun hx hy hlt => by
    have := hy.before hlt hx.at_
    rw [hx.has_] at this; cases this
  obtain rfl : k = k' := Nat.le_antisymm (Nat.not_lt.1 (key h' h)) (Nat.not_lt.1 (key h h'))
  have := h.at_.symm.trans h'.at_
  exact ⟨rfl, Option.some.inj this⟩
/-- What a cube about a header has goes to the same rule. -/
theorem FirstA.safe {l : List RuleM} {H G : List Int} {k : Nat} {r : RuleM} {c : List Int × List Int} (h : FirstA l H k r) (h1 : inA c r.cube) (h2 : clearA (cubsA (l.take k)) c = true) (h3 : has c.1 c.2 G = true) : FirstA l G k r :=
  ⟨h.at_, inA_has h1 h3, fun x hx => about_ahead h2 h3 x hx⟩
end Go.Proofs.Ytdibjhlckjjlfaa
namespace Go.Proofs.Ytdibjhlckjjlfaa
open Go Go.RowKit
set_option maxRecDepth 20000

/-! The reference's Meets. -/
theorem at_range15 (V M : List Int) (k : Nat) : 0 ≤ atI V M k ∧ atI V M k ≤ 2 := by
  unfold atI
  cases bt M k <;> cases bt V k <;> decide
theorem at_sum15 (V M V' M' : List Int) (k : Nat) : (atI V M k + atI V' M' k == 1) = (bt M k && bt M' k && (bt V k != bt V' k)) := by
  unfold atI
  cases bt M k <;> cases bt V k <;> cases bt M' k <;> cases bt V' k <;> rfl
theorem meets_no15 {V M V' M' : List Int} {k : Nat} (hk : k < 104) (h : (bt M k && bt M' k && (bt V k != bt V' k)) = true) : meets V M V' M' = false := by
  rw [Bool.eq_false_iff]
  intro hm
  have := (meets_iff V M V' M').1 hm k hk
  revert h this
  cases bt M k <;> cases bt M' k <;> cases bt V k <;> cases bt V' k <;> simp
theorem meets_every15 {V M V' M' : List Int} (h : ∀ j, j < 104 → (bt M j && bt M' j && (bt V j != bt V' j)) = false) : meets V M V' M' = true := by
  rw [meets_iff]
  intro i hi
  have := h i hi
  revert this
  cases bt M i <;> cases bt M' i <;> cases bt V i <;> cases bt V' i <;> simp
set_option maxHeartbeats 4000000 in
theorem rmeets15_any (V M V' M' : List Int) (hV : Byt V) (hM : Byt M) (hV' : Byt V') (hM' : Byt M') (w : World) :
    Calls Try.prog 35 #[.agg (cv V M), .agg (cv V' M')] w fun e w' => e = .returned (.bool (meets V M V' M')) ∧ Below w.heap.size w w' := by
  have hVl := hV.1
  have hMl := hM.1
  have hVl' := hV'.1
  have hMl' := hM'.1
  have CA : Hid (∀ k : Nat, k < 104 → ∀ W, Calls Try.prog 19 #[.agg (cv V M), .int .i64 (k : Int)] W fun e w' => e = .returned (.int .i64 (atI V M k)) ∧ Below W.heap.size W w') := fun k hk => at_any V M hV hM k hk
  have CB : Hid (∀ k : Nat, k < 104 → ∀ W, Calls Try.prog 19 #[.agg (cv V' M'), .int .i64 (k : Int)] W fun e w' => e = .returned (.int .i64 (atI V' M' k)) ∧ Below W.heap.size W w') := fun k hk => at_any V' M' hV' hM' k hk
  clear hV hM hV' hM'
  go_enter Try.func35, Try.ntmps35
  go_wp2_with fail
  go_loopw [5] (fun i wr => ∃ k : Nat, k ≤ 104 ∧ i = .int .i64 k ∧ Hid (∀ j, j < k → (bt M j && bt M' j && (bt V j != bt V' j)) = false) ∧ wr.heap[w.heap.size]? = some (.cells (cv V M) 30 (0, 0)) ∧ wr.heap[w.heap.size + 1]? = some (.cells (cv V' M') 30 (0, 0)) ∧ Below w.heap.size w wr) (fun i _ => 104 - (intOf i).toNat)
  case atStart => exact ⟨0, Nat.zero_le _, rfl, fun j hj => by omega, heap_past _ _ _ _ (heap_new _ _ _ rfl), heap_new _ _ _ (by simp), ((Below.refl _ _).alloc (Nat.le_refl _) _).alloc (by simp) _⟩
  case round =>
    obtain ⟨k, hk, rfl, HJ, g0, g1, hb⟩ := hrel
    by_cases hlt : k < 104
    · have hlt' : (k : Int) < 104 := by omega
      have D1 := CA.out k hlt
      have D2 := CB.out k hlt
      have hx := at_range15 V M k
      have hy := at_range15 V' M' k
      have hxy := at_sum15 V M V' M' k
      obtain ⟨x, hxe⟩ : ∃ x, x = atI V M k := ⟨_, rfl⟩
      obtain ⟨y, hye⟩ : ∃ y, y = atI V' M' k := ⟨_, rfl⟩
      rw [← hxe] at D1 hx hxy
      rw [← hye] at D2 hy hxy
      have E1 : Hid (∀ W, Calls Try.prog 19 #[.agg (cv V M), .int .i64 (k : Int)] W fun e w' => e = .returned (.int .i64 x) ∧ Below W.heap.size W w') := D1
      have E2 : Hid (∀ W, Calls Try.prog 19 #[.agg (cv V' M'), .int .i64 (k : Int)] W fun e w' => e = .returned (.int .i64 y) ∧ Below W.heap.size W w') := D2
      obtain ⟨z, hz⟩ : ∃ z, z = (bt M k && bt M' k && (bt V k != bt V' k)) := ⟨_, rfl⟩
      have HZ : Hid (z = (bt M k && bt M' k && (bt V k != bt V' k))) := hz
      rw [← hz] at hxy
      clear D1 D2 hxe hye hz
      have hx1 := hx.1
      have hx2 := hx.2
      have hy1 := hy.1
      have hy2 := hy.2
      clear hx hy
      go_wp2_with fail
      have ne1 := Later.ne wr
      refine wp_region_later (by kernel_rfl) (by kernel_rfl) ?_
      refine qlC rfl _ rfl w.heap.size rfl V M g0 hVl hMl ?_
      simp only [Act.put, List.setIfInBounds_toArray, List.set_cons_succ, List.set_cons_zero]
      go_big_quiet_step (fail)
      go_big_quiet_want; go_big_quiet_op
      refine ⟨_, fun u => Calls.later_of (E1.out u.world), ?_⟩
      go_big_quiet_on
      refine qlC rfl _ rfl (w.heap.size + 1) rfl V' M' g1 hVl' hMl' ?_
      simp only [Act.put, List.setIfInBounds_toArray, List.set_cons_succ, List.set_cons_zero]
      go_big_quiet_step (fail)
      go_big_quiet_want; go_big_quiet_op
      refine ⟨_, fun u => Calls.later_of (E2.out u.world), ?_⟩
      go_big_quiet_on
      go_big_quiet_step (fail)
      go_big_quiet_step (fail)
      refine wpQuiet_nil ?_
      rintro w' ⟨u, rfl⟩
      have hb2 := hb.trans (u.below.mono hb.size)
      have k0 := later_block g0 _ ⟨u, rfl⟩
      have k1 := later_block g1 _ ⟨u, rfl⟩
      try rw [hxy]
      clear ne1 hb g0 g1 hxy E1 E2
      cases z with
      | true =>
        have HE : Hid (meets V M V' M' = false) := meets_no15 hlt HZ.out.symm
        go_wp2_with fail
        go_ret
        exact ⟨by rw [HE.out]; rfl, hb2⟩
      | false =>
        have HJ2 : Hid (∀ j, j < k + 1 → (bt M j && bt M' j && (bt V j != bt V' j)) = false) := by
          intro j hj
          by_cases e : j = k
          · subst e; exact HZ.out.symm
          · exact HJ.out j (by omega)
        go_wp2_with fail
        go_roundw
        case rel => exact ⟨k + 1, by omega, by go_num, HJ2, k0, k1, hb2⟩
        case measure => simp [intOf]; omega
    · have HE : Hid (meets V M V' M' = true) := meets_every15 fun j hj => HJ.out j (by omega)
      have hlt' : ¬ (k : Int) < 104 := by omega
      go_wp2_with fail
      go_ret
      exact ⟨by rw [HE.out]; rfl, hb⟩
theorem rmeet15_any (V M V' M' : List Int) (hV : Byt V) (hM : Byt M) (hV' : Byt V') (hM' : Byt M') (w : World) :
    Calls Try.prog 22 #[.agg (cv V M), .agg (cv V' M')] w fun e w' => e = .returned (.bool (meets V M V' M')) ∧ Below w.heap.size w w' := by
  have hVl := hV.1
  have hMl := hM.1
  have hVl' := hV'.1
  have hMl' := hM'.1
  have C1 : Hid (∀ W, Calls Try.prog 35 #[.agg (cv V M), .agg (cv V' M')] W fun e w' => e = .returned (.bool (meets V M V' M')) ∧ Below W.heap.size W w') := fun W => rmeets15_any V M V' M' hV hM hV' hM' W
  generalize meets V M V' M' = b at C1 ⊢
  clear hV hM hV' hM'
  go_enter Try.func22, Try.ntmps22
  go_wp2_with (first
    | (refine wl_loadC rfl _ rfl w.heap.size rfl V M (heap_past _ _ _ _ (heap_new _ _ _ rfl)) hVl hMl ?_)
    | (refine wl_loadC rfl _ rfl (w.heap.size + 1) rfl V' M' (heap_new _ _ _ (by simp)) hVl' hMl' ?_))
  refine (C1.out _).mono ?_
  rintro e w1 ⟨rfl, hb1⟩
  have B1 : Below w.heap.size w w1 := (((Below.refl _ _).alloc (Nat.le_refl _) _).alloc (by simp) _).trans (hb1.mono (by simp; omega))
  clear hb1 C1
  go_wp2_with fail
  go_ret
  exact ⟨rfl, B1⟩
/-- The code's own. -/
theorem ameets_any (V M V' M' : List Int) (hV : Byt V) (hM : Byt M) (hV' : Byt V') (hM' : Byt M') (w : World) :
    Calls Try.prog 21 #[.agg (cv V M), .agg (cv V' M')] w fun e w' => e = .returned (.bool (meets V M V' M')) ∧ Below w.heap.size w w' := by
  have hVl := hV.1
  have hMl := hM.1
  have hVl' := hV'.1
  have hMl' := hM'.1
  obtain ⟨U, N, hU, hN, hUN⟩ : ∃ U N : List Int, U.length = 13 ∧ N.length = 13 ∧ meetR V M V' M' = .tuple #[.agg (cv U N), .bool (meets V M V' M')] := by
    cases h : meets V M V' M' with
    | true => exact ⟨_, _, (meetV_byt V M V' M').1, (meetM_byt M M').1, meetR_yes _ _ _ _ h⟩
    | false => exact ⟨_, _, Z_byt.1, Z_byt.1, meetR_no _ _ _ _ h⟩
  have C1 : Hid (∀ W, Calls Try.prog 32 #[.agg (cv V M), .agg (cv V' M')] W fun e w' => e = .returned (.tuple #[.agg (cv U N), .bool (meets V M V' M')]) ∧ Below W.heap.size W w') := fun W => by
    rw [← hUN]; exact meet_any V M V' M' hV hM hV' hM' W
  generalize meets V M V' M' = b at C1 ⊢
  clear hV hM hV' hM' hUN
  go_enter Try.func21, Try.ntmps21
  go_wp2_with (first
    | (refine wl_loadC rfl _ rfl w.heap.size rfl V M (heap_past _ _ _ _ (heap_new _ _ _ rfl)) hVl hMl ?_)
    | (refine wl_loadC rfl _ rfl (w.heap.size + 1) rfl V' M' (heap_new _ _ _ (by simp)) hVl' hMl' ?_))
  refine (C1.out _).mono ?_
  rintro e w1 ⟨rfl, hb1⟩
  have B1 : Below w.heap.size w w1 := (((Below.refl _ _).alloc (Nat.le_refl _) _).alloc (by simp) _).trans (hb1.mono (by simp; omega))
  clear hb1 C1
  go_wp2_with (first
    | (refine wl_storeC rfl _ _ rfl w1.heap.size U N rfl rfl _ (heap_new _ _ _ rfl) rfl hU hN _ (setRow_new _ _ _ _ _ rfl) ?_))
  go_ret
  exact ⟨rfl, B1.alloc B1.size _⟩
/-- A header's bit as a number. -/
def vI (H : List Int) (i : Nat) : Int := if bt H i then 1 else 0
theorem value_any (H : List Int) (hH : Byt H) (i : Nat) (hi : i < 104) (w : World) :
    Calls Try.prog 30 #[.agg (hv H), .int .i64 (i : Int)] w fun e w' => e = .returned (.int .i64 (vI H i)) ∧ Below w.heap.size w w' := by
  have hHl := hH.1
  have C1 : Hid (∀ W, Calls Try.prog 33 #[.agg (hv H), .int .i64 (i : Int)] W fun e w' => e = .returned (.bool (bt H i)) ∧ Below W.heap.size W w') := fun W => rbit_nat H hH i hi W
  unfold vI
  generalize bt H i = b at C1 ⊢
  clear hH
  go_enter Try.func30, Try.ntmps30
  go_wp2_with (first
    | (refine wl_load26 rfl _ rfl w.heap.size rfl H (heap_new _ _ _ rfl) hHl ?_))
  refine (C1.out _).mono ?_
  rintro e w1 ⟨rfl, hb1⟩
  have B1 : Below w.heap.size w w1 := ((Below.refl _ _).alloc (Nat.le_refl _) _).trans (hb1.mono (by simp))
  clear hb1 C1
  cases b with
  | true =>
    go_wp2_with fail
    go_ret
    exact ⟨rfl, B1⟩
  | false =>
    go_wp2_with fail
    go_ret
    exact ⟨rfl, B1⟩
end Go.Proofs.Ytdibjhlckjjlfaa
