import Derived.Test.YthddlchkbnmcaaaGreatDoorJ46
import Derived.Test.YthddlchkbnmcaaaGreatDoorJ39
import Derived.Test.YthddlchkbnmcaaaGreatDoorJ43
import Derived.Test.YthddlchkbnmcaaaGreatDoorJ23
import Derived.Test.YthddlchkbnmcaaaGreatDoorJ29
import Derived.OwnWalk
import Derived.Test.YthddlchkbnmcaaaGreatDoorJ19
namespace Go.Proofs.YthddlchkbnmcaaaGreatDoor
open Go Go.RowKit
set_option maxRecDepth 20000

/-! How many cubes an entry has, and that they lie apart. -/
/-- The letters that aren't free lie in some places. -/
def supB (F : Nat → Bool) (c : CubeT) : Prop := ∀ i, i < 104 → bt c.2 i = true → F i = true
theorem sup_meets {F G : Nat → Bool} (hd : ∀ i, F i = true → G i = true → False) {c d : CubeT} (hc : supB F c) (hg : supB G d) : meets c.1 c.2 d.1 d.2 = true :=
  (meets_iff _ _ _ _).2 fun i hi h1 h2 => (hd i (hc i hi h1) (hg i hi h2)).elim
theorem crossR_all {F G : Nat → Bool} (hd : ∀ i, F i = true → G i = true → False) {c : CubeT} {B : List CubeT} (hc : supB F c) (hB : ∀ d ∈ B, supB G d) : crossR c B = B.map fun d => (meetV c.1 c.2 d.1 d.2, meetM c.2 d.2) := by
  unfold crossR
  rw [List.filter_eq_self.2 fun d hdB => sup_meets hd hc (hB d hdB)]
theorem crossL_many {F G : Nat → Bool} (hd : ∀ i, F i = true → G i = true → False) {B : List CubeT} (hB : ∀ d ∈ B, supB G d) : ∀ {A : List CubeT}, (∀ c ∈ A, supB F c) → (crossL A B).length = A.length * B.length
  | [], _ => by simp [crossL]
  | c :: A, hA => by
    have ih := crossL_many hd hB (A := A) fun x hx => hA x (List.mem_cons_of_mem _ hx)
    unfold crossL at ih ⊢
    rw [List.flatMap_cons, List.length_append, ih, crossR_all hd (hA c (by simp)) hB, List.length_map, List.length_cons, Nat.add_mul]
    omega
theorem crossL_sup {F G : Nat → Bool} {A B : List CubeT} (hA : ∀ c ∈ A, supB F c) (hB : ∀ d ∈ B, supB G d) : ∀ c ∈ crossL A B, supB (fun i => F i || G i) c := fun c hc => by
  unfold crossL at hc
  rw [List.mem_flatMap] at hc
  obtain ⟨a, ha, hd⟩ := hc
  unfold crossR at hd
  rw [List.mem_map] at hd
  obtain ⟨b, hb, rfl⟩ := hd
  rw [List.mem_filter] at hb
  intro i hi h
  rw [show bt (meetM a.2 b.2) i = (bt a.2 i || bt b.2 i) from mk_bt _ i hi, Bool.or_eq_true] at h
  show (F i || G i) = true
  rw [Bool.or_eq_true]
  rcases h with h | h
  · exact .inl (hA a ha i hi h)
  · exact .inr (hB b hb.1 i hi h)
theorem sup_px {F : Nat → Bool} (f : Int) (v k : Nat) (hF : ∀ i, 8 * atOf f ≤ i → i < 8 * atOf f + k → F i = true) : supB F (pxV f v k, pxM f k) := fun i hi h => by
  rw [show bt (pxM f k) i = _ from frM_bt _ _ i hi, decide_eq_true_eq] at h
  exact hF i h.1 h.2
theorem sup_all (F : Nat → Bool) : supB F allC := fun i hi h => by
  have h2 : bt Z i = false := mk_bt (fun _ => false) i hi
  rw [show allC.2 = Z from rfl, h2] at h
  cases h
/-- An entry whose numbers can be. -/
def canB (x : Ent) : Bool := isR x.slow x.shigh && isR x.dlow x.dhigh && (decide (-1 ≤ x.proto) && decide (x.proto ≤ 255))
theorem sup_pref {F : Nat → Bool} (f v n : Int) (hF : ∀ i, 8 * atOf f ≤ i → i < 8 * atOf f + 32 → F i = true) : ∀ c ∈ prefL f v n, supB F c := fun c hc => by
  have hk : clip8 n ≤ 32 := by unfold clip8; omega
  unfold prefL at hc
  rw [List.mem_singleton] at hc
  subst hc
  exact sup_px f _ _ fun i h1 h2 => hF i h1 (by omega)
theorem sup_prot {F : Nat → Bool} (n : Int) (hF : ∀ i, 96 ≤ i → i < 104 → F i = true) : ∀ c ∈ protL n, supB F c := fun c hc => by
  unfold protL at hc
  split at hc
  · rw [List.mem_singleton] at hc; subst hc; exact sup_all F
  · split at hc
    · rw [List.mem_singleton] at hc; subst hc; exact sup_px 4 _ _ fun i h1 h2 => hF i h1 h2
    · simp at hc
theorem sup_port {F : Nat → Bool} (f l h : Int) (hF : ∀ i, 8 * atOf f ≤ i → i < 8 * atOf f + 16 → F i = true) : ∀ c ∈ portP f l h, supB F c := fun c hc => by
  unfold portP at hc
  split at hc
  · unfold portC at hc
    rw [List.mem_map] at hc
    obtain ⟨p, hp, rfl⟩ := hc
    obtain ⟨k, hk⟩ := List.mem_iff_getElem?.1 hp
    have := ran_mem hk
    exact sup_px f _ _ fun i h1 h2 => hF i h1 (by omega)
  · simp at hc
theorem portP_len (f l h : Int) (hf : f = 2 ∨ f = 3) : (portP f l h).length = (ran l h).length := by
  unfold portP
  rw [show decide (f = 2 ∨ f = 3) = true from decide_eq_true hf, Bool.true_and]
  split
  · exact portC_len _ _
  · next c => rw [ran, if_neg c]; rfl
theorem ran_none {l h : Int} (c : isR l h = false) : ran l h = [] := by rw [ran, if_neg (by rw [c]; decide)]
/-- The cubes of an entry's first three clauses: at most one. -/
def baseL (x : Ent) : List CubeT := crossL (crossL (crossL [allC] (prefL 0 x.src x.srcBits)) (prefL 1 x.dst x.dstBits)) (protL x.proto)
theorem five_base (x : Ent) : meetsL (five8 x) = crossL (crossL (baseL x) (portP 2 x.slow x.shigh)) (portP 3 x.dlow x.dhigh) := by
  unfold meetsL five8 baseL
  rw [List.foldl_cons, List.foldl_cons, List.foldl_cons, List.foldl_cons, List.foldl_cons, List.foldl_nil]
def f014 (i : Nat) : Bool := decide (i < 64) || decide (96 ≤ i)
theorem base_sup (x : Ent) : ∀ c ∈ baseL x, supB f014 c := fun c hc => by
  have h1 := crossL_sup (F := fun _ => false) (G := fun i => decide (i < 32)) (A := [allC]) (B := prefL 0 x.src x.srcBits) (fun c hc => by rw [List.mem_singleton.1 hc]; exact sup_all _) (sup_pref 0 _ _ fun i h1 h2 => decide_eq_true (by rw [show 8 * atOf 0 = 0 from rfl] at h2; omega))
  have h2 := crossL_sup h1 (sup_pref (F := fun i => decide (32 ≤ i ∧ i < 64)) 1 x.dst x.dstBits fun i h1 h2 => decide_eq_true (by rw [show 8 * atOf 1 = 32 from rfl] at h1 h2; omega))
  have h3 := crossL_sup h2 (sup_prot (F := fun i => decide (96 ≤ i)) x.proto fun i h1 h2 => decide_eq_true (by omega)) c hc
  intro i hi h
  have := h3 i hi h
  unfold f014
  simp only [Bool.or_eq_true, decide_eq_true_eq, Bool.false_eq_true, false_or] at this ⊢
  omega
theorem base_len (x : Ent) : (baseL x).length = (protL x.proto).length := by
  have s0 : ∀ c ∈ [allC], supB (fun _ => false) c := fun c hc => by rw [List.mem_singleton.1 hc]; exact sup_all _
  have s1 := sup_pref (F := fun i => decide (i < 32)) 0 x.src x.srcBits fun i h1 h2 => decide_eq_true (by rw [show 8 * atOf 0 = 0 from rfl] at h2; omega)
  have s2 := sup_pref (F := fun i => decide (32 ≤ i ∧ i < 64)) 1 x.dst x.dstBits fun i h1 h2 => decide_eq_true (by rw [show 8 * atOf 1 = 32 from rfl] at h1 h2; omega)
  have s3 := sup_prot (F := fun i => decide (96 ≤ i)) x.proto fun i h1 h2 => decide_eq_true (by omega)
  have h1 := crossL_sup s0 s1
  have h2 := crossL_sup h1 s2
  unfold baseL
  rw [crossL_many (fun i a b => by simp only [Bool.or_eq_true, decide_eq_true_eq, Bool.false_eq_true, false_or] at a b; omega) s3 h2, crossL_many (fun i a b => by simp only [Bool.or_eq_true, decide_eq_true_eq, Bool.false_eq_true, false_or] at a b; omega) s2 h1, crossL_many (fun i a b => by cases a) s1 s0]
  simp [prefL]
theorem prot_len (n : Int) : (protL n).length = if -1 ≤ n ∧ n ≤ 255 then 1 else 0 := by
  unfold protL
  by_cases h : n = -1
  · rw [if_pos h, if_pos (by omega)]; rfl
  · rw [if_neg h]
    by_cases h2 : 0 ≤ n ∧ n ≤ 255
    · rw [if_pos h2, if_pos (by omega)]; rfl
    · rw [if_neg h2, if_neg (by omega)]; rfl
theorem sup_p2 (x : Ent) : ∀ c ∈ portP 2 x.slow x.shigh, supB (fun i => decide (64 ≤ i ∧ i < 80)) c := sup_port 2 _ _ fun i h1 h2 => decide_eq_true (by rw [show 8 * atOf 2 = 64 from rfl] at h1 h2; omega)
theorem sup_p3 (x : Ent) : ∀ c ∈ portP 3 x.dlow x.dhigh, supB (fun i => decide (80 ≤ i ∧ i < 96)) c := sup_port 3 _ _ fun i h1 h2 => decide_eq_true (by rw [show 8 * atOf 3 = 80 from rfl] at h1 h2; omega)
theorem base_two : ∀ i, f014 i = true → decide (64 ≤ i ∧ i < 80) = true → False := fun i a b => by unfold f014 at a; simp only [Bool.or_eq_true, decide_eq_true_eq] at a b; omega
theorem base_three : ∀ i, (f014 i || decide (64 ≤ i ∧ i < 80)) = true → decide (80 ≤ i ∧ i < 96) = true → False := fun i a b => by unfold f014 at a; simp only [Bool.or_eq_true, decide_eq_true_eq] at a b; omega
/-- How many cubes an entry has. -/
theorem cubes_len (x : Ent) : (cubesT x).length = if x.dflt then 1 else if canB x then (ran x.slow x.shigh).length * (ran x.dlow x.dhigh).length else 0 := by
  unfold cubesT
  cases hd : x.dflt with
  | true => rfl
  | false =>
    rw [if_neg (by decide), if_neg (by decide), five_base, crossL_many base_three (sup_p3 x) (crossL_sup (base_sup x) (sup_p2 x)), crossL_many base_two (sup_p2 x) (base_sup x), base_len, prot_len, portP_len 2 _ _ (.inl rfl), portP_len 3 _ _ (.inr rfl)]
    unfold canB
    by_cases h1 : isR x.slow x.shigh = true
    · by_cases h2 : isR x.dlow x.dhigh = true
      · by_cases h3 : -1 ≤ x.proto ∧ x.proto ≤ 255
        · rw [h1, h2, if_pos h3, if_pos (by simp [h3]), Nat.one_mul]
        · rw [if_neg h3, if_neg (by simp only [Bool.and_eq_true, decide_eq_true_eq]; omega), Nat.zero_mul, Nat.zero_mul]
      · have h2' : isR x.dlow x.dhigh = false := by simpa using h2
        rw [ran_none h2', h2']
        simp
    · have h1' : isR x.slow x.shigh = false := by simpa using h1
      rw [ran_none h1', h1']
      simp

end Go.Proofs.YthddlchkbnmcaaaGreatDoor
namespace Go.Proofs.YthddlchkbnmcaaaGreatDoor
open Go Go.RowKit
set_option maxRecDepth 20000

theorem rclip_any (n : Int) (w : World) : Calls Tryz.prog 35 #[.int .i64 n] w fun e w' => e = .returned (.int .i64 (clip8 n : Nat)) ∧ w' = w := by
  have h : ((clip8 n : Nat) : Int) = min (max n 0) 32 := by unfold clip8; omega
  rw [h]
  go_enter Tryz.func35, Tryz.ntmps35
  go_wp2_with fail
  go_ret
  exact ⟨rfl, rfl⟩
theorem ent_g {w : World} {b : Nat} {x : Ent} {ty : TypeId} {fr : Nat × Nat} (h : w.heap[b]? = some (.cells (entV x) ty fr)) :
    w.cell? ⟨b, 0, none⟩ = some (.bool x.dflt) ∧ w.cell? ⟨b, 2, none⟩ = some (.int .u32 x.src) ∧ w.cell? ⟨b, 3, none⟩ = some (.int .i64 x.srcBits) ∧ w.cell? ⟨b, 4, none⟩ = some (.int .u32 x.dst) ∧ w.cell? ⟨b, 5, none⟩ = some (.int .i64 x.dstBits) ∧ w.cell? ⟨b, 6, none⟩ = some (.int .i64 x.slow) ∧ w.cell? ⟨b, 7, none⟩ = some (.int .i64 x.shigh) ∧ w.cell? ⟨b, 8, none⟩ = some (.int .i64 x.dlow) ∧ w.cell? ⟨b, 9, none⟩ = some (.int .i64 x.dhigh) ∧ w.cell? ⟨b, 10, none⟩ = some (.int .i64 x.proto) ∧ w.cell? ⟨b, 11, none⟩ = some (.int .i64 x.action) := by
  refine ⟨?_, ?_, ?_, ?_, ?_, ?_, ?_, ?_, ?_, ?_, ?_⟩ <;> (rw [cell_of_row _ _ _ _ _ _ h]; rfl)
/-- How many cubes an entry has. -/
def manyN (x : Ent) : Nat := (cubesT x).length
theorem many_le (x : Ent) : manyN x ≤ 1000 := cubes_few x
set_option maxHeartbeats 8000000 in
theorem rmany_any (x : Ent) (w : World) :
    Calls Tryz.prog 18 #[.agg (entV x)] w fun e w' => e = .returned (.int .i64 (manyN x : Nat)) ∧ Below w.heap.size w w' := by
  have RG : Hid (∀ l h W, Calls Tryz.prog 33 #[.int .i64 l, .int .i64 h] W fun e w' => ∃ u, e = .returned (.tuple #[u, .int .i64 (ranE l h)]) ∧ w'.ownsRow W.heap.size 102 2 u (ran l h).length (pcells (ran l h)) ∧ Below W.heap.size W w') := fun l h W => rrange_any l h W
  have HL := cubes_len x
  have hs := ran_few x.slow x.shigh
  have hd := ran_few x.dlow x.dhigh
  obtain ⟨ns, hns⟩ : ∃ n, n = (ran x.slow x.shigh).length := ⟨_, rfl⟩
  obtain ⟨nd, hnd⟩ : ∃ n, n = (ran x.dlow x.dhigh).length := ⟨_, rfl⟩
  rw [← hns] at hs HL
  rw [← hnd] at hd HL
  have HNS : Hid (ns = (ran x.slow x.shigh).length) := hns
  have HND : Hid (nd = (ran x.dlow x.dhigh).length) := hnd
  have HM : Hid (manyN x = if x.dflt then 1 else if canB x then ns * nd else 0) := HL
  have KN : Hid ((w.alloc (.cells (entV x) 35)).heap[w.heap.size]? = some (.cells (entV x) 35 (0, 0))) := heap_new _ _ _ rfl
  have B0 : Hid (Below w.heap.size w (w.alloc (.cells (entV x) 35))) := (Below.refl _ _).alloc (Nat.le_refl _) _
  clear HL hns hnd
  obtain ⟨f0, f2, f3, f4, f5, f6, f7, f8, f9, f10, f11⟩ := ent_g KN.out
  go_enter Tryz.func18, Tryz.ntmps18
  go_wp2_with fail
  refine (RG.out _ _ _).mono ?_
  rintro e w1 ⟨u1, rfl, ho1, hb1⟩
  have K1 : Hid (w1.heap[w.heap.size]? = some (.cells (entV x) 35 (0, 0))) := (hb1.block _ (by simp)).trans KN.out
  have B1 : Hid (Below w.heap.size w w1) := B0.out.trans (hb1.mono B0.out.size)
  obtain ⟨o1, c1, rfl⟩ := gown_slice ho1
  rw [← HNS.out]
  clear ho1 hb1 f0 f2 f3 f4 f5 f6 f7 f8 f9 f10 f11
  obtain ⟨f0, f2, f3, f4, f5, f6, f7, f8, f9, f10, f11⟩ := ent_g K1.out
  go_wp2_with fail
  refine (RG.out _ _ _).mono ?_
  rintro e w2 ⟨u2, rfl, ho2, hb2⟩
  have K2 : Hid (w2.heap[w.heap.size]? = some (.cells (entV x) 35 (0, 0))) := (hb2.block _ (Array.getElem?_eq_some_iff.1 K1.out).1).trans K1.out
  have B2 : Hid (Below w.heap.size w w2) := B1.out.trans (hb2.mono B1.out.size)
  obtain ⟨o2, c2, rfl⟩ := gown_slice ho2
  rw [← HND.out]
  clear ho2 hb2 f0 f2 f3 f4 f5 f6 f7 f8 f9 f10 f11
  obtain ⟨f0, f2, f3, f4, f5, f6, f7, f8, f9, f10, f11⟩ := ent_g K2.out
  cases hdf : x.dflt with
  | true =>
    rw [hdf] at f0
    have e : manyN x = 1 := by rw [HM.out, hdf]; rfl
    go_wp2_with fail
    go_ret
    exact ⟨by rw [e]; rfl, B2.out⟩
  | false =>
    rw [hdf] at f0
    have HM2 : Hid (manyN x = if canB x then ns * nd else 0) := by show _ = _; rw [HM.out, hdf]; rfl
    by_cases h1 : isR x.slow x.shigh = true
    · by_cases h2 : isR x.dlow x.dhigh = true
      · have e1 : ranE x.slow x.shigh = 0 := by unfold ranE; rw [if_pos h1]
        have e2 : ranE x.dlow x.dhigh = 0 := by unfold ranE; rw [if_pos h2]
        rw [e1, e2]
        by_cases h3 : x.proto < -1
        · have e : manyN x = 0 := by rw [HM2.out]; unfold canB; rw [if_neg]; simp; omega
          go_wp2_with fail
          go_ret
          exact ⟨by rw [e]; rfl, B2.out⟩
        · by_cases h4 : 255 < x.proto
          · have e : manyN x = 0 := by rw [HM2.out]; unfold canB; rw [if_neg]; simp; omega
            go_wp2_with fail
            go_ret
            exact ⟨by rw [e]; rfl, B2.out⟩
          · have e : ((manyN x : Nat) : Int) = (ns : Int) * (nd : Int) := by
              rw [HM2.out, if_pos (by unfold canB; rw [h1, h2]; simp; omega)]
              simp
            have hb : (0 : Int) ≤ (ns : Int) * (nd : Int) ∧ (ns : Int) * (nd : Int) ≤ 900 := by
              have := Nat.mul_le_mul hs hd
              rw [← Int.natCast_mul]
              omega
            go_wp2_with fail
            go_ret
            exact ⟨by rw [e]; rfl, B2.out⟩
      · have e2 : ranE x.dlow x.dhigh = 10 := by unfold ranE; rw [if_neg h2]
        have e1 : ranE x.slow x.shigh = 0 := by unfold ranE; rw [if_pos h1]
        have e : manyN x = 0 := by rw [HM2.out, if_neg]; unfold canB; simp [h2]
        rw [e1, e2]
        go_wp2_with fail
        go_ret
        exact ⟨by rw [e]; rfl, B2.out⟩
    · have e1 : ranE x.slow x.shigh = 10 := by unfold ranE; rw [if_neg h1]
      have e : manyN x = 0 := by rw [HM2.out, if_neg]; unfold canB; simp [h1]
      rw [e1]
      go_wp2_with fail
      go_ret
      exact ⟨by rw [e]; rfl, B2.out⟩
end Go.Proofs.YthddlchkbnmcaaaGreatDoor
namespace Go.Proofs.YthddlchkbnmcaaaGreatDoor
open Go Go.RowKit
set_option maxRecDepth 20000

/-! The reference's rows: the best one of those that are left, again and again. -/
def encB (b : Bool) : Array Value := #[.bool b]
def doneL (n : Nat) (R : List Nat) : List Bool := (List.range n).map fun i => decide (i ∈ R)
theorem done_len (n : Nat) (R : List Nat) : (doneL n R).length = n := by simp [doneL]
theorem done_at {n k : Nat} (R : List Nat) (h : k < n) : (doneL n R)[k]? = some (decide (k ∈ R)) := by
  unfold doneL
  rw [List.getElem?_map, List.getElem?_range h]; rfl
theorem done_set {n b : Nat} (R : List Nat) (h : b < n) : doneL n (R ++ [b]) = (doneL n R).set b true := by
  apply List.ext_getElem?
  intro i
  rw [List.getElem?_set, done_len]
  by_cases hi : i < n
  · rw [done_at _ hi]
    by_cases hb : b = i
    · subst hb
      rw [if_pos rfl, if_pos h]; simp
    · rw [if_neg hb, done_at _ hi]
      congr 1
      rw [Bool.eq_iff_iff, decide_eq_true_eq, decide_eq_true_eq, List.mem_append, List.mem_singleton]
      constructor
      · rintro (h1 | h1)
        · exact h1
        · exact absurd h1.symm hb
      · exact .inl
  · rw [List.getElem?_eq_none (by rw [done_len]; omega)]
    by_cases hb : b = i
    · omega
    · rw [if_neg hb, List.getElem?_eq_none (by rw [done_len]; omega)]
theorem gcellsB (C : List Bool) : gcells encB C = C.map Value.bool := by
  induction C with
  | nil => rfl
  | cons b C ih => rw [gcells_cons, ih]; rfl
theorem made_done (n : Nat) : (madeCells (Value.bool false).cells (n * 1)).toList = gcells encB (doneL n []) := by
  rw [gcellsB]
  unfold madeCells doneL
  rw [Nat.mul_one, List.map_map]
  have : ∀ k : Nat, (Value.bool false).cells[k % (Value.bool false).cells.size]! = Value.bool false := fun k => by
    rw [show (Value.bool false).cells.size = 1 from rfl, Nat.mod_one]; rfl
  simp only [this, Array.toList_map, Array.toList_range]
  apply List.map_congr_left
  intro a _
  rfl
theorem infoB : ∃ i, Tryz.prog.info? 4 = some i ∧ i.zero = some (.bool false) ∧ i.size = 1 ∧ i.bytes = 1 := by
  cases h : Tryz.prog.info? 4 with
  | none => exact absurd (show (Tryz.prog.info? 4).isSome = true by kernel_rfl) (by rw [h]; simp)
  | some i =>
    have h1 : (Tryz.prog.info? 4).map (fun i => (i.zero, i.size, i.bytes)) = some (some (.bool false), 1, 1) := by kernel_rfl
    rw [h] at h1
    simp only [Option.map_some, Option.some.injEq, Prod.mk.injEq] at h1
    exact ⟨i, rfl, h1.1, h1.2.1, h1.2.2⟩
/-- What the search has found among the first places. -/
def BestTo (l : List Ent) (R : List Nat) (k : Nat) (b : Int) : Prop := (b = -1 ∧ ∀ j, j < k → j ∈ R) ∨ ∃ c : Nat, b = (c : Int) ∧ IsBest l R k c
set_option maxHeartbeats 16000000 in
set_option maxRecDepth 100000 in
theorem rrows_any (l : List Ent) (vl : Value) (w : World) (hl : EntsAt w vl l) (hn : l.length ≤ 100000) :
    Calls Tryz.prog 17 #[vl] w fun e w' => (∃ v R, e = .returned v ∧ IsRows l R ∧ w'.ownsRow w.heap.size 35 12 v (entsOf l R).length (gcells entV (entsOf l R))) ∧ Below w.heap.size w w' := by
  obtain ⟨o, cap, rfl, hc1, hc2⟩ := GSl.slice hl
  obtain ⟨n, hn0⟩ : ∃ n, n = l.length := ⟨_, rfl⟩
  have HN : Hid (n = l.length) := hn0
  rw [← hn0] at hl hc1 hn ⊢
  have HL : Hid (EntsAt w (.slice o n cap) l) := hl
  unfold maxLen at hc2
  obtain ⟨ib, ib1, ib2, ib3, ib4⟩ := infoB
  clear hl hn0
  go_enter Tryz.func17, Tryz.ntmps17
  go_wp2_with (first
    | (refine wl_build0R (E := EntE) EntOk rfl rfl ?_)
    | (at_make; refine of_stopT ?_))
  unfold StopT
  refine wpList_make_full _ rfl _ _ 67 rfl w.heap.size 4 ib (.bool false) 1 Tryz.underlying67 ib1 ib2 ib3 _ _ _ _ n rfl rfl rfl rfl (by rw [ib4]; omega) (by unfold maxLen; omega) (by simp) ?_
  intro w1 hd1 hg1
  have B1 : Hid (Below w.heap.size w w1) := ((Below.refl _ _).alloc (Nat.le_refl _) _).grown hg1 (by simp) (fun k hk => by cases hk)
  have D1 : Hid (w1.ownsRow w.heap.size 4 1 (.slice (some ⟨w.heap.size + 1, 0, none⟩) n n) (doneL n []).length (gcells encB (doneL n []))) := by
    have := hd1
    rw [made_done] at this
    show w1.ownsRow _ _ _ _ _ _
    rw [done_len]
    simpa using this
  have O1 : Hid (w1.ownsRow w.heap.size 35 12 (.slice (some ⟨w.heap.size, 0, none⟩) 0 0) 0 []) := own_grown hg1 (own0R w _ _) (fun g hg => by cases hg)
  clear hd1 hg1
  simp only [Act.put, List.setIfInBounds_toArray, List.set_cons_succ, List.set_cons_zero, World.size_alloc]
  go_wp2_with fail
  go_loopw [3, 5] (fun v i wr => ∃ (R : List Nat), R.length ≤ n ∧ i = .int .i64 (R.length : Int) ∧ Hid (PartRows l R) ∧ wr.ownsRow w.heap.size 35 12 v (entsOf l R).length (gcells entV (entsOf l R)) ∧ wr.ownsRow w.heap.size 4 1 (.slice (some ⟨w.heap.size + 1, 0, none⟩) n n) (doneL n R).length (gcells encB (doneL n R)) ∧ Below w.heap.size w wr) (fun _ i _ => n - (intOf i).toNat)
  case atStart => exact ⟨[], Nat.zero_le _, rfl, PartRows.nil l, O1.out, D1.out, B1.out⟩
  case round =>
    clear O1 D1 B1
    obtain ⟨R, hR, rfl, HP, ho, hd, hb⟩ := hrel
    have HO : Hid (wr.ownsRow w.heap.size 35 12 u3 (entsOf l R).length (gcells entV (entsOf l R))) := ho
    have HD : Hid (wr.ownsRow w.heap.size 4 1 (.slice (some ⟨w.heap.size + 1, 0, none⟩) n n) (doneL n R).length (gcells encB (doneL n R))) := hd
    have HB : Hid (Below w.heap.size w wr) := hb
    clear ho hd hb
    obtain ⟨m, hm⟩ : ∃ m, m = R.length := ⟨_, rfl⟩
    rw [← hm] at hR ⊢
    have HM : Hid (m = R.length) := hm
    clear hm
    by_cases hlt : m < n
    · have hlt' : (m : Int) < (n : Int) := by omega
      obtain ⟨W0, rfl⟩ : ∃ W0, W0 = wr := ⟨_, rfl⟩
      go_wp2_with fail
      go_loopw [6, 7] (fun b i wq => ∃ (k : Nat) (c : Int), k ≤ n ∧ i = .int .i64 (k : Int) ∧ b = .int .i64 c ∧ Hid (BestTo l R k c) ∧ Below W0.heap.size W0 wq) (fun _ i _ => n - (intOf i).toNat)
      case atStart => exact ⟨0, -1, Nat.zero_le _, rfl, rfl, .inl ⟨rfl, fun j hj => by omega⟩, Below.refl _ _⟩
      case round =>
        obtain ⟨k, c, hk, rfl, rfl, BT, hbq⟩ := hrel
        have BQ : Hid (Below W0.heap.size W0 wr) := hbq
        have BW : Hid (Below w.heap.size w wr) := HB.out.trans (hbq.mono HB.out.size)
        clear hbq
        by_cases hlt2 : k < n
        · have hlt2' : (k : Int) < (n : Int) := by omega
          obtain ⟨g, off, cur, ty, fr, x, rfl, K1, hc, hxk⟩ := (GSl.below HL.out BW.out).at k hlt2
          have l0 : ∀ u : Later wr, u.world.cell? ⟨g, off + k * 12, none⟩ = some (.bool x.dflt) := later_cell7 K1 (hc 0 (by decide))
          have l1 : ∀ u : Later wr, u.world.cell? ⟨g, off + k * 12 + 1, none⟩ = some (.int .i64 x.prio) := later_cell7 K1 (hc 1 (by decide))
          have ld : ∀ u : Later wr, u.world.cell? ⟨w.heap.size + 1, k, none⟩ = some (.bool (decide (k ∈ R))) := fun u => by
            have h1 := gown_below (gown_below HD.out BQ.out) u.below
            rw [done_len, gcellsB] at h1
            rw [h1.cellAt k (by omega), List.getElem?_map, done_at R hlt2]; rfl
          have HXK : Hid (l[k]? = some x) := hxk
          have ne1 := Later.ne wr
          clear hc hxk K1
          by_cases hin : k ∈ R
          · have NB : Hid (BestTo l R (k + 1) c) := by
              rcases BT.out with ⟨h1, h2⟩ | ⟨b, h1, h2⟩
              · exact .inl ⟨h1, fun j hj => by
                  by_cases e : j = k
                  · rw [e]; exact hin
                  · exact h2 j (by omega)⟩
              · exact .inr ⟨b, h1, best_done h2 hin⟩
            rw [decide_eq_true hin] at ld
            clear hin
            go_wp2_with fail
            refine wp_region_later (by kernel_rfl) (by kernel_rfl) ?_
            repeat go_big_quiet_step (fail)
            refine wpQuiet_nil ?_
            rintro w' ⟨v, rfl⟩
            have B3 : Hid (Below W0.heap.size W0 v.world) := BQ.out.trans (v.below.mono BQ.out.size)
            obtain ⟨W3, hW3⟩ : ∃ W3, W3 = v.world := ⟨_, rfl⟩
            rw [← hW3] at B3 ⊢
            clear hW3 ne1 ld l0 l1 
            go_wp2_with fail
            go_roundw
            case rel => exact ⟨k + 1, c, by omega, by go_num, rfl, NB.out, B3.out⟩
            case measure => simp [intOf]; omega
          · rcases BT.out with ⟨rfl, h2⟩ | ⟨b, rfl, h2⟩
            · have NB : Hid (BestTo l R (k + 1) (k : Int)) := .inr ⟨k, rfl, best_new h2 hin⟩
              rw [decide_eq_false hin] at ld
              clear hin h2
              go_wp2_with fail
              refine wp_region_later (by kernel_rfl) (by kernel_rfl) ?_
              repeat go_big_quiet_step (fail)
              refine wpQuiet_nil ?_
              rintro w' ⟨v, rfl⟩
              have B3 : Hid (Below W0.heap.size W0 v.world) := BQ.out.trans (v.below.mono BQ.out.size)
              obtain ⟨W3, hW3⟩ : ∃ W3, W3 = v.world := ⟨_, rfl⟩
              rw [← hW3] at B3 ⊢
              clear hW3 ne1 ld l0 l1 
              go_wp2_with fail
              go_roundw
              case rel => exact ⟨k + 1, (k : Int), by omega, by go_num, rfl, NB.out, B3.out⟩
              case measure => simp [intOf]; omega
            · have hbk : b < k := h2.1
              obtain ⟨g', off', cur', ty', fr', y, e0, hg', hc', hyj⟩ := (GSl.below HL.out BW.out).at b (by omega)
              simp only [Option.some.injEq, Addr.mk.injEq, and_true] at e0
              obtain ⟨rfl, rfl⟩ := e0
              have m0 : ∀ u : Later wr, u.world.cell? ⟨g, off + b * 12, none⟩ = some (.bool y.dflt) := later_cell7 hg' (hc' 0 (by decide))
              have m1 : ∀ u : Later wr, u.world.cell? ⟨g, off + b * 12 + 1, none⟩ = some (.int .i64 y.prio) := later_cell7 hg' (hc' 1 (by decide))
              have hb0 : decide ((b : Int) < 0) = false := by simp
              have hb1 : (b : Int) < (n : Int) := by omega
              have hbn : b < n := by omega
              have YES : Hid (better x y = true → BestTo l R (k + 1) (k : Int)) := fun h => .inr ⟨k, rfl, best_turn h2 HXK.out hyj h hin⟩
              have NO : Hid (better x y = false → BestTo l R (k + 1) (b : Int)) := fun h => .inr ⟨b, rfl, best_stay h2 HXK.out hyj h⟩
              rw [decide_eq_false hin] at ld
              clear hin h2 hyj hc' hg' BT
              cases hdy : y.dflt with
              | true =>
                rw [hdy] at m0
                cases hdx : x.dflt with
                | true =>
                  rw [hdx] at l0
                  have NB : Hid (BestTo l R (k + 1) (b : Int)) := NO.out (by unfold better; rw [hdx, hdy]; rfl)
                  clear hdx hdy
                  go_wp2_with fail
                  refine wp_region_later (by kernel_rfl) (by kernel_rfl) ?_
                  repeat go_big_quiet_step (fail)
                  refine wpQuiet_nil ?_
                  rintro w' ⟨v, rfl⟩
                  have B3 : Hid (Below W0.heap.size W0 v.world) := BQ.out.trans (v.below.mono BQ.out.size)
                  obtain ⟨W3, hW3⟩ : ∃ W3, W3 = v.world := ⟨_, rfl⟩
                  rw [← hW3] at B3 ⊢
                  clear hW3 ne1 ld l0 l1 m0 m1
                  go_wp2_with fail
                  go_roundw
                  case rel => exact ⟨k + 1, (b : Int), by omega, by go_num, rfl, NB.out, B3.out⟩
                  case measure => simp [intOf]; omega
                | false =>
                  rw [hdx] at l0
                  have NB : Hid (BestTo l R (k + 1) (k : Int)) := YES.out (by unfold better; rw [hdx, hdy]; rfl)
                  clear hdx hdy
                  go_wp2_with fail
                  refine wp_region_later (by kernel_rfl) (by kernel_rfl) ?_
                  repeat go_big_quiet_step (fail)
                  refine wpQuiet_nil ?_
                  rintro w' ⟨v, rfl⟩
                  have B3 : Hid (Below W0.heap.size W0 v.world) := BQ.out.trans (v.below.mono BQ.out.size)
                  obtain ⟨W3, hW3⟩ : ∃ W3, W3 = v.world := ⟨_, rfl⟩
                  rw [← hW3] at B3 ⊢
                  clear hW3 ne1 ld l0 l1 m0 m1
                  go_wp2_with fail
                  go_roundw
                  case rel => exact ⟨k + 1, (k : Int), by omega, by go_num, rfl, NB.out, B3.out⟩
                  case measure => simp [intOf]; omega
              | false =>
                rw [hdy] at m0
                cases hdx : x.dflt with
                | true =>
                  rw [hdx] at l0
                  have NB : Hid (BestTo l R (k + 1) (b : Int)) := NO.out (by unfold better; rw [hdx, hdy]; rfl)
                  clear hdx hdy
                  go_wp2_with fail
                  refine wp_region_later (by kernel_rfl) (by kernel_rfl) ?_
                  repeat go_big_quiet_step (fail)
                  refine wpQuiet_nil ?_
                  rintro w' ⟨v, rfl⟩
                  have B3 : Hid (Below W0.heap.size W0 v.world) := BQ.out.trans (v.below.mono BQ.out.size)
                  obtain ⟨W3, hW3⟩ : ∃ W3, W3 = v.world := ⟨_, rfl⟩
                  rw [← hW3] at B3 ⊢
                  clear hW3 ne1 ld l0 l1 m0 m1
                  go_wp2_with fail
                  go_roundw
                  case rel => exact ⟨k + 1, (b : Int), by omega, by go_num, rfl, NB.out, B3.out⟩
                  case measure => simp [intOf]; omega
                | false =>
                  rw [hdx] at l0
                  by_cases hgt : y.prio < x.prio
                  · have NB : Hid (BestTo l R (k + 1) (k : Int)) := YES.out (by unfold better; rw [hdx, hdy, decide_eq_true hgt]; rfl)
                    clear hdx hdy
                    go_wp2_with fail
                    refine wp_region_later (by kernel_rfl) (by kernel_rfl) ?_
                    repeat go_big_quiet_step (fail)
                    refine wpQuiet_nil ?_
                    rintro w' ⟨v, rfl⟩
                    have B3 : Hid (Below W0.heap.size W0 v.world) := BQ.out.trans (v.below.mono BQ.out.size)
                    obtain ⟨W3, hW3⟩ : ∃ W3, W3 = v.world := ⟨_, rfl⟩
                    rw [← hW3] at B3 ⊢
                    clear hW3 ne1 ld l0 l1 m0 m1
                    go_wp2_with fail
                    go_roundw
                    case rel => exact ⟨k + 1, (k : Int), by omega, by go_num, rfl, NB.out, B3.out⟩
                    case measure => simp [intOf]; omega
                  · have NB : Hid (BestTo l R (k + 1) (b : Int)) := NO.out (by unfold better; rw [hdx, hdy, decide_eq_false hgt]; rfl)
                    clear hdx hdy
                    go_wp2_with fail
                    refine wp_region_later (by kernel_rfl) (by kernel_rfl) ?_
                    repeat go_big_quiet_step (fail)
                    refine wpQuiet_nil ?_
                    rintro w' ⟨v, rfl⟩
                    have B3 : Hid (Below W0.heap.size W0 v.world) := BQ.out.trans (v.below.mono BQ.out.size)
                    obtain ⟨W3, hW3⟩ : ∃ W3, W3 = v.world := ⟨_, rfl⟩
                    rw [← hW3] at B3 ⊢
                    clear hW3 ne1 ld l0 l1 m0 m1
                    go_wp2_with fail
                    go_roundw
                    case rel => exact ⟨k + 1, (b : Int), by omega, by go_num, rfl, NB.out, B3.out⟩
                    case measure => simp [intOf]; omega
        · have hkn : ¬ (k : Int) < (n : Int) := by omega
          have hk2 : k = n := by omega
          subst hk2
          have hbest : ∃ b : Nat, c = (b : Int) ∧ IsBest l R k b := by
            rcases BT.out with ⟨_, h2⟩ | h2
            · obtain ⟨i, hi, hni⟩ := rows_left (L := l) (R := R) (by rw [← HM.out, ← HN.out]; exact hlt)
              exact absurd (h2 i (by rw [HN.out]; exact hi)) hni
            · exact h2
          obtain ⟨b, rfl, hbb⟩ := hbest
          have hb : b < k := hbb.1
          have hb1 : (b : Int) < (k : Int) := by omega
          have NP : Hid (PartRows l (R ++ [b])) := HP.out.snoc (by rw [← HN.out]; exact hbb)
          have DR := gown_below HD.out BQ.out
          have hcell : wr.cell? ⟨w.heap.size + 1, b, none⟩ = some (.bool (decide (b ∈ R))) := by
            have h1 := DR
            rw [done_len, gcellsB] at h1
            rw [h1.cellAt b (by omega), List.getElem?_map, done_at R hb]; rfl
          have hfr : wr.frozen? ⟨w.heap.size + 1, b, none⟩ = false := by
            have h1 := DR
            rw [done_len] at h1
            exact h1.frozenAt b
          have hblk : ∃ cs fr, wr.heap[w.heap.size + 1]? = some (.cells cs 4 fr) := by
            obtain ⟨_, ⟨h2, _⟩ | ⟨g, cap', cur, h2, hB, hcur, _⟩⟩ := id DR
            · cases h2
            · simp only [Value.slice.injEq, Option.some.injEq, Addr.mk.injEq] at h2
              obtain ⟨⟨rfl, _⟩, _⟩ := h2
              exact ⟨_, _, hcur⟩
          obtain ⟨bcs, bfr, hblk⟩ := hblk
          obtain ⟨WS, hWS⟩ : ∃ W, W = wr.setCell ⟨w.heap.size + 1, b, none⟩ (.bool true) := ⟨_, rfl⟩
          have DS : Hid (WS.ownsRow w.heap.size 4 1 (.slice (some ⟨w.heap.size + 1, 0, none⟩) k k) (doneL k (R ++ [b])).length (gcells encB (doneL k (R ++ [b])))) := by
            have h1 := own_setField (c' := true) DR (fun _ _ => rfl) (show b < (doneL k R).length by rw [done_len]; exact hb) rfl (.bool true) rfl (fun q q0 q1 => by omega)
            rw [Nat.mul_one, ← hWS] at h1
            show WS.ownsRow _ _ _ _ _ _
            rw [done_set R hb]
            exact h1
          have OS : Hid (WS.ownsRow w.heap.size 35 12 u3 (entsOf l R).length (gcells entV (entsOf l R))) := by rw [hWS]; exact own_set (gown_below HO.out BQ.out) hblk (by decide) _
          have BS : Hid (Below w.heap.size w WS) := by rw [hWS]; exact BW.out.setCell (p := ⟨w.heap.size + 1, b, none⟩) (Nat.le_succ _) _
          obtain ⟨g, off, cur, ty, fr, x, rfl, K1, hc, hxk⟩ := (GSl.below HL.out BS.out).at b hb
          have KG : Hid (WS.heap[g]? = some (.cells cur ty fr)) := K1
          have HC : Hid (∀ j, j < 12 → cur[off + b * 12 + j]? = (entV x)[j]?) := hc
          have HE : Hid (entsOf l (R ++ [b]) = entsOf l R ++ [x]) := by
            show _ = _
            unfold entsOf
            rw [List.map_append, List.map_cons, List.map_nil, List.getD_eq_getElem?_getD, hxk]; rfl
          have PS : Hid ((WS.alloc (.cells (entV x) 35)).ownsRow w.heap.size 35 12 u3 (entsOf l R).length (gcells entV (entsOf l R))) := OS.out.alloc _
          have DA : Hid ((WS.alloc (.cells (entV x) 35)).ownsRow w.heap.size 4 1 (.slice (some ⟨w.heap.size + 1, 0, none⟩) k k) (doneL k (R ++ [b])).length (gcells encB (doneL k (R ++ [b])))) := DS.out.alloc _
          have BA : Hid (Below w.heap.size w (WS.alloc (.cells (entV x) 35))) := BS.out.alloc BS.out.size _
          have HEL : Hid ((entsOf l R).length ≤ 100000) := by
            have := HM.out
            show _ ≤ _
            unfold entsOf
            rw [List.length_map]
            omega
          have hsz : WS.heap.size = wr.heap.size := by rw [hWS]; simp [World.setCell]
          clear hc K1 hxk DR hbb BT hblk
          go_wp2_with (first
            | (refine wl_loadE (E := EntE) EntOk rfl _ rfl g (off + b * 12) rfl cur ty fr (entV x) rfl (by rw [← hWS]; exact KG.out) HC.out ?_)
            | (refine wl_buildE (E := EntE) EntOk rfl _ rfl (entV x) rfl rfl ?_)
            | (at_builtin; refine of_stopT ?_))
          rw [← hWS]
          unfold StopT
          refine wl_appendE (E := EntE) EntOk entV rfl _ _ rfl w.heap.size u3 (entsOf l R) x (ent_fits _) rfl PS.out wr.heap.size 1 rfl (heap_new _ _ _ hsz.symm) (by have := HEL.out; omega) (by have := BS.out.size; simp; omega) ?_
          intro v' w3 hown3 hgr3 hv'
          have B3 : Hid (Below w.heap.size w w3) := BA.out.trans ((Below.refl _ _).grown hgr3 BA.out.size fun k hk => (PS.out.lt k hk).1)
          have O3 : Hid (w3.ownsRow w.heap.size 35 12 v' (entsOf l R ++ [x]).length (gcells entV (entsOf l R ++ [x]))) := hown3
          have D3 : Hid (w3.ownsRow w.heap.size 4 1 (.slice (some ⟨w.heap.size + 1, 0, none⟩) k k) (doneL k (R ++ [b])).length (gcells encB (doneL k (R ++ [b])))) := own_by8 PS.out hgr3 DA.out (by decide)
          clear hown3 hgr3 hv'
          simp only [Act.put, List.setIfInBounds_toArray, List.set_cons_succ, List.set_cons_zero]
          go_wp2_with fail
          go_roundw
          case rel =>
            have hm := HM.out
            exact ⟨R ++ [b], by rw [List.length_append, ← hm]; show m + 1 ≤ k; omega, by rw [List.length_append, ← hm]; go_num, NP.out, by rw [HE.out]; exact O3.out, D3.out, B3.out⟩
          case measure => simp [intOf]; omega
    · have hlt' : ¬ (m : Int) < (n : Int) := by omega
      have hR2 : R.length = l.length := by have := HM.out; have := HN.out; omega
      go_wp2_with fail
      go_ret
      first
        | exact ⟨⟨_, R, rfl, HP.out.rows hR2, HO.out⟩, HB.out⟩
        | exact ⟨⟨_, rfl, R, HP.out.rows hR2, HO.out⟩, HB.out⟩
end Go.Proofs.YthddlchkbnmcaaaGreatDoor
namespace Go.Proofs.YthddlchkbnmcaaaGreatDoor
open Go Go.RowKit
set_option maxRecDepth 20000

/-- Two cubes' common one. -/
def met (c d : CubeT) : CubeT := (meetV c.1 c.2 d.1 d.2, meetM c.2 d.2)
theorem met_all (f : Int) (v k : Nat) : met allC (pxV f v k, pxM f k) = (pxV f v k, pxM f k) := by
  have e1 : meetV Z Z (pxV f v k) (pxM f k) = pxV f v k := bt_ext _ _ (meetV_byt _ _ _ _) (pxV_byt _ _ _) fun i hi => by
    rw [show bt (meetV Z Z (pxV f v k) (pxM f k)) i = ((bt Z i && bt Z i) || (bt (pxV f v k) i && bt (pxM f k) i)) from mk_bt _ i hi, Z_bt i hi, show bt (pxV f v k) i = _ from frV_bt _ _ _ i hi, show bt (pxM f k) i = _ from frM_bt _ _ i hi]
    cases decide (8 * atOf f ≤ i ∧ i < 8 * atOf f + k) <;> simp
  have e2 : meetM Z (pxM f k) = pxM f k := bt_ext _ _ (meetM_byt _ _) (pxM_byt _ _) fun i hi => by
    rw [show bt (meetM Z (pxM f k)) i = (bt Z i || bt (pxM f k) i) from mk_bt _ i hi, Z_bt i hi, Bool.false_or]
  show (meetV Z Z (pxV f v k) (pxM f k), meetM Z (pxM f k)) = _
  rw [e1, e2]
def prefB8 (f v n : Int) : CubeT := (pxV f v.toNat (clip8 n), pxM f (clip8 n))
def protB8 (n : Int) : CubeT := if n = -1 then allC else (pxV 4 n.toNat 8, pxM 4 8)
def base1 (x : Ent) : CubeT := met (prefB8 0 x.src x.srcBits) (prefB8 1 x.dst x.dstBits)
def baseC (x : Ent) : CubeT := met (base1 x) (protB8 x.proto)
theorem sup_one {F : Nat → Bool} {c : CubeT} (h : supB F c) : ∀ d ∈ [c], supB F d := fun d hd => by rw [List.mem_singleton.1 hd]; exact h
theorem cross_one {F G : Nat → Bool} (hd : ∀ i, F i = true → G i = true → False) {c d : CubeT} (hc : supB F c) (hg : supB G d) : crossL [c] [d] = [met c d] := by
  unfold crossL
  rw [List.flatMap_cons, List.flatMap_nil, List.append_nil, crossR_all hd hc (sup_one hg)]; rfl
theorem sup_pc0 (v n : Int) : supB (fun i => decide (i < 32)) (prefB8 0 v n) := sup_pref 0 v n (fun i h1 h2 => decide_eq_true (by rw [show 8 * atOf 0 = 0 from rfl] at h2; omega)) _ (List.mem_singleton.2 rfl)
theorem sup_pc1 (v n : Int) : supB (fun i => decide (32 ≤ i ∧ i < 64)) (prefB8 1 v n) := sup_pref 1 v n (fun i h1 h2 => decide_eq_true (by rw [show 8 * atOf 1 = 32 from rfl] at h1 h2; omega)) _ (List.mem_singleton.2 rfl)
theorem sup_prc (n : Int) : supB (fun i => decide (96 ≤ i)) (protB8 n) := by
  unfold protB8
  split
  · exact sup_all _
  · exact sup_px 4 _ _ fun i h1 h2 => decide_eq_true h1
theorem sup_met {F G : Nat → Bool} {c d : CubeT} (hc : supB F c) (hg : supB G d) : supB (fun i => F i || G i) (met c d) := fun i hi h => by
  have h : bt (meetM c.2 d.2) i = true := h
  rw [show bt (meetM c.2 d.2) i = (bt c.2 i || bt d.2 i) from mk_bt _ i hi, Bool.or_eq_true] at h
  show (F i || G i) = true
  rw [Bool.or_eq_true]
  exact h.imp (hc i hi) (hg i hi)
theorem base_is {x : Ent} (hp : -1 ≤ x.proto ∧ x.proto ≤ 255) : baseL x = [baseC x] := by
  have e1 : crossL [allC] (prefL 0 x.src x.srcBits) = [prefB8 0 x.src x.srcBits] := by
    have := cross_one (c := allC) (d := prefB8 0 x.src x.srcBits) (F := fun _ => false) (fun i a b => by cases a) (sup_all _) (sup_pc0 _ _)
    rw [show met allC (prefB8 0 x.src x.srcBits) = prefB8 0 x.src x.srcBits from met_all _ _ _] at this
    exact this
  have e2 : protL x.proto = [protB8 x.proto] := by
    unfold protL protB8
    by_cases h : x.proto = -1
    · rw [if_pos h, if_pos h]
    · rw [if_neg h, if_neg h, if_pos (by omega)]
  unfold baseL
  rw [e1, e2, show prefL 1 x.dst x.dstBits = [prefB8 1 x.dst x.dstBits] from rfl, cross_one (fun i a b => by simp only [decide_eq_true_eq] at a b; omega) (sup_pc0 _ _) (sup_pc1 _ _)]
  exact cross_one (fun i a b => by simp only [Bool.or_eq_true, decide_eq_true_eq] at a b; omega) (sup_met (sup_pc0 _ _) (sup_pc1 _ _)) (sup_prc _)
/-- The rows of cubes that the two loops make. -/
def rowC (b s : CubeT) (D : List CubeT) : List CubeT := D.map fun d => met (met b s) d
def allRows (b : CubeT) (S D : List CubeT) : List CubeT := S.flatMap fun s => rowC b s D
theorem cubes_rows {x : Ent} (hd : x.dflt = false) (hp : -1 ≤ x.proto ∧ x.proto ≤ 255) : cubesT x = allRows (baseC x) (portP 2 x.slow x.shigh) (portP 3 x.dlow x.dhigh) := by
  unfold cubesT
  rw [if_neg (by rw [hd]; decide), five_base]
  have hb : supB f014 (baseC x) := base_sup x _ (by rw [base_is hp]; exact List.mem_singleton.2 rfl)
  rw [base_is hp]
  have e1 : crossL [baseC x] (portP 2 x.slow x.shigh) = (portP 2 x.slow x.shigh).map fun s => met (baseC x) s := by
    unfold crossL
    rw [List.flatMap_cons, List.flatMap_nil, List.append_nil, crossR_all base_two hb (sup_p2 x)]; rfl
  rw [e1]
  unfold crossL allRows rowC
  rw [List.flatMap_map]
  have e2 : ∀ s ∈ portP 2 x.slow x.shigh, crossR (met (baseC x) s) (portP 3 x.dlow x.dhigh) = (portP 3 x.dlow x.dhigh).map fun d => met (met (baseC x) s) d := fun s hs => crossR_all base_three (sup_met hb (sup_p2 x s hs)) (sup_p3 x)
  rw [List.flatMap_def, List.flatMap_def]
  congr 1
  exact List.map_congr_left e2
theorem rows_take {b : CubeT} {S D : List CubeT} {k : Nat} {s : CubeT} (h : S[k]? = some s) : allRows b (S.take (k + 1)) D = allRows b (S.take k) D ++ rowC b s D := by
  unfold allRows
  rw [List.take_add_one, h, List.flatMap_append]
  simp
theorem row_take {b s : CubeT} {D : List CubeT} {j : Nat} {d : CubeT} (h : D[j]? = some d) : rowC b s (D.take (j + 1)) = rowC b s (D.take j) ++ [met (met b s) d] := by
  unfold rowC
  rw [List.take_add_one, h, List.map_append]; rfl
theorem row_none (b s : CubeT) : rowC b s [] = [] := rfl
theorem met_byt (c d : CubeT) : Byt (met c d).1 ∧ Byt (met c d).2 := ⟨meetV_byt _ _ _ _, meetM_byt _ _⟩
theorem rmet_any {F G : Nat → Bool} (hd : ∀ i, F i = true → G i = true → False) {c d : CubeT} (hc : supB F c) (hg : supB G d) (bc : Byt c.1 ∧ Byt c.2) (bd : Byt d.1 ∧ Byt d.2) (W : World) :
    Calls Tryz.prog 38 #[.agg (cv c.1 c.2), .agg (cv d.1 d.2)] W fun e w' => e = .returned (.tuple #[.agg (cv (met c d).1 (met c d).2), .bool true]) ∧ Below W.heap.size W w' := by
  have := rmeet_any c.1 c.2 d.1 d.2 bc.1 bc.2 bd.1 bd.2 W
  rw [meetR_yes _ _ _ _ (sup_meets hd hc hg)] at this
  exact this
theorem protB8_byt (n : Int) : Byt (protB8 n).1 ∧ Byt (protB8 n).2 := by
  unfold protB8
  split
  · exact ⟨Z_byt, Z_byt⟩
  · exact ⟨pxV_byt _ _ _, pxM_byt _ _⟩
theorem prefB8_byt (f v n : Int) : Byt (prefB8 f v n).1 ∧ Byt (prefB8 f v n).2 := ⟨pxV_byt _ _ _, pxM_byt _ _⟩
end Go.Proofs.YthddlchkbnmcaaaGreatDoor
