import Derived.Test.YtbhnjhiecoapbaaJ13
import Derived.Test.YtbhnjhiecoapbaaJ10
namespace Go.Proofs.Ytbhnjhiecoapbaa
open Go
set_option maxRecDepth 20000

/-- Does the entry at a place stand ahead of the one at another place? -/
def aheadB (x : Ent) (i : Nat) (y : Ent) (j : Nat) : Bool :=
  if x.dflt then y.dflt && decide (i < j) else y.dflt || decide (y.prio < x.prio) || (decide (x.prio = y.prio) && decide (i < j))
def aheadAt (L : List Ent) (i j : Nat) : Prop := ∃ x y, L[i]? = some x ∧ L[j]? = some y ∧ aheadB x i y j = true
theorem aheadF_asymm {L : List Ent} {i j : Nat} (h1 : aheadAt L i j) (h2 : aheadAt L j i) : False := by
  obtain ⟨x, y, hx, hy, h⟩ := h1
  obtain ⟨y', x', hy', hx', h'⟩ := h2
  rw [hx] at hx'
  rw [hy] at hy'
  obtain rfl := Option.some.inj hx'
  obtain rfl := Option.some.inj hy'
  unfold aheadB at h h'
  cases hdx : x.dflt <;> cases hdy : y.dflt <;> simp [hdx, hdy] at h h' <;> omega
/-- The places of a list's entries in the order of the rows. -/
structure IsRows (L : List Ent) (R : List Nat) : Prop where
  sorted : R.Pairwise (aheadAt L)
  all : ∀ i, i ∈ R ↔ i < L.length

theorem pairwise_one {α : Type} {r : α → α → Prop} (ha : ∀ a b, r a b → r b a → False) : ∀ R R' : List α, R.Pairwise r → R'.Pairwise r → (∀ a, a ∈ R ↔ a ∈ R') → R = R'
  | [], [], _, _, _ => rfl
  | [], b :: R', _, _, h => absurd ((h b).2 (by simp)) (by simp)
  | a :: R, [], _, _, h => absurd ((h a).1 (by simp)) (by simp)
  | a :: R, b :: R', h1, h2, h => by
    obtain ⟨p1, q1⟩ := List.pairwise_cons.1 h1
    obtain ⟨p2, q2⟩ := List.pairwise_cons.1 h2
    have hab : a = b := by
      rcases List.mem_cons.1 ((h a).1 (by simp)) with e | e
      · exact e
      · rcases List.mem_cons.1 ((h b).2 (by simp)) with e' | e'
        · exact e'.symm
        · exact (ha a b (p1 b e') (p2 a e)).elim
    subst hab
    rw [pairwise_one ha R R' q1 q2 fun c => ?_]
    constructor
    · intro hc
      rcases List.mem_cons.1 ((h c).1 (List.mem_cons_of_mem _ hc)) with rfl | e
      · exact (ha c c (p1 c hc) (p1 c hc)).elim
      · exact e
    · intro hc
      rcases List.mem_cons.1 ((h c).2 (List.mem_cons_of_mem _ hc)) with rfl | e
      · exact (ha c c (p2 c hc) (p2 c hc)).elim
      · exact e
/-- There is one such order. -/
theorem rows_one {L : List Ent} {R R' : List Nat} (h : IsRows L R) (h' : IsRows L R') : R = R' :=
  pairwise_one (fun _ _ => aheadF_asymm) R R' h.sorted h'.sorted fun i => by rw [h.all, h'.all]
theorem find_least {α : Type} {r : α → α → Prop} (ha : ∀ a b, r a b → r b a → False) (q : α → Bool) (a : α) (hq : q a = true) : ∀ R : List α, R.Pairwise r → a ∈ R → (∀ b ∈ R, q b = true → b ≠ a → r a b) → R.find? q = some a
  | [], _, h, _ => by simp at h
  | b :: R, h1, h, hm => by
    obtain ⟨p1, q1⟩ := List.pairwise_cons.1 h1
    rw [List.find?_cons]
    cases hb : q b with
    | true =>
      by_cases e : b = a
      · rw [e]
      · rcases List.mem_cons.1 h with e' | e'
        · exact absurd e'.symm e
        · exact (ha a b (hm b (by simp) hb e) (p1 a e')).elim
    | false =>
      rcases List.mem_cons.1 h with rfl | e'
      · rw [hb] at hq; cases hq
      · exact find_least ha q a hq R q1 e' fun c hc => hm c (List.mem_cons_of_mem _ hc)

/-- Nothing that applies beats the best one. -/
theorem bestGo_max (ap : Ent → Bool) (L : List Ent) : ∀ (l : List Ent) (i : Nat) (b : Option (Nat × Int)), (∀ k, l[k]? = L[i + k]?) →
    (∀ k y, k < i → L[k]? = some y → y.dflt = false → ap y = true → ∃ j p, b = some (j, p) ∧ (y.prio < p ∨ (y.prio = p ∧ j ≤ k))) →
    (∀ j p, b = some (j, p) → j < i) →
    ∀ k y, k < i + l.length → L[k]? = some y → y.dflt = false → ap y = true → ∃ j p, bestGo ap i b l = some (j, p) ∧ (y.prio < p ∨ (y.prio = p ∧ j ≤ k))
  | [], i, b, _, hb, _, k, y, hk, hy, hd, ha => hb k y (by simpa using hk) hy hd ha
  | x :: l, i, b, hL, hb, hj, k, y, hk, hy, hd, ha => by
    rw [bestGo]
    have hx0 : L[i]? = some x := by
      have := hL 0
      simpa using this.symm
    refine bestGo_max ap L l (i + 1) _ (fun k => ?_) (fun k y hk hy hd ha => ?_) (fun j p hjp => ?_) k y (by simp at hk; omega) hy hd ha
    · have := hL (k + 1)
      rw [List.getElem?_cons_succ] at this
      rw [this]; congr 1; omega
    · by_cases hki : k = i
      · subst hki
        rw [hx0] at hy
        obtain rfl := Option.some.inj hy
        cases b with
        | none => exact ⟨k, x.prio, by simp [beats, hd, ha], .inr ⟨rfl, Nat.le_refl _⟩⟩
        | some jp =>
          obtain ⟨j, p⟩ := jp
          by_cases hlt : p < x.prio
          · exact ⟨k, x.prio, by simp [beats, hd, ha, hlt], .inr ⟨rfl, Nat.le_refl _⟩⟩
          · refine ⟨j, p, by simp [beats, hd, ha, hlt], ?_⟩
            have := hj j p rfl
            omega
      · obtain ⟨j, p, h1, h2⟩ := hb k y (by omega) hy hd ha
        subst h1
        by_cases hc : (!x.dflt && ap x && beats x.prio (some (j, p))) = true
        · rw [if_pos hc]
          simp only [Bool.and_eq_true, beats, decide_eq_true_eq] at hc
          exact ⟨i, x.prio, rfl, by left; omega⟩
        · rw [if_neg hc]
          exact ⟨j, p, rfl, h2⟩
    · split at hjp
      · obtain ⟨rfl, rfl⟩ := Prod.mk.inj (Option.some.inj hjp); omega
      · have := hj j p hjp; omega
theorem firstD_first : ∀ (l : List Ent) (i : Nat), (∃ (k : Nat) (x : Ent), firstD i l = some (i + k) ∧ l[k]? = some x ∧ x.dflt = true ∧ ∀ (k' : Nat) (y : Ent), k' < k → l[k']? = some y → y.dflt = false) ∨ (firstD i l = none ∧ ∀ (k : Nat) (y : Ent), l[k]? = some y → y.dflt = false)
  | [], i => .inr ⟨rfl, fun k y h => by simp at h⟩
  | y :: l, i => by
    rw [firstD]
    cases hy : y.dflt with
    | true => exact .inl ⟨0, y, by rw [if_pos rfl]; rfl, rfl, hy, fun k' z hk => by omega⟩
    | false =>
      rw [if_neg (by decide)]
      rcases firstD_first l (i + 1) with ⟨k, x, h1, h2, h3, h4⟩ | ⟨h1, h2⟩
      · refine .inl ⟨k + 1, x, by rw [h1]; congr 1; omega, by simpa using h2, h3, fun k' z hk hz => ?_⟩
        cases k' with
        | zero => obtain rfl : y = z := by simpa using hz
                  exact hy
        | succ k' => exact h4 k' z (by omega) (by simpa using hz)
      · refine .inr ⟨h1, fun k z hz => ?_⟩
        cases k with
        | zero => obtain rfl : y = z := by simpa using hz
                  exact hy
        | succ k => exact h2 k z (by simpa using hz)

def appliesAt (ap : Ent → Bool) (L : List Ent) (i : Nat) : Bool := match L[i]? with | some x => x.dflt || ap x | none => false
/-- THE FIRST OF THE ROWS THAT APPLIES is the entry that says what is done. -/
theorem rows_which (ap : Ent → Bool) {L : List Ent} {R : List Nat} (h : IsRows L R) : R.find? (appliesAt ap L) = whichT ap L := by
  have hin := bestGo_in ap L L 0 none (fun k => by rw [Nat.zero_add]) (fun j p hjp => by cases hjp)
  have hmax := bestGo_max ap L L 0 none (fun k => by rw [Nat.zero_add]) (fun k y hk => absurd hk (Nat.not_lt_zero _)) (fun j p hjp => by cases hjp)
  unfold whichT
  cases hb : bestGo ap 0 none L with
  | some b =>
    obtain ⟨i, p⟩ := b
    obtain ⟨x, hx, hp, hd, ha⟩ := hin i p hb
    have hi := (List.getElem?_eq_some_iff.1 hx).1
    refine find_least (fun _ _ => aheadF_asymm) _ i (by unfold appliesAt; rw [hx]; simp [ha]) R h.sorted ((h.all i).2 hi) fun j hj hq hne => ?_
    obtain ⟨y, hy⟩ : ∃ y, L[j]? = some y := ⟨_, List.getElem?_eq_getElem ((h.all j).1 hj)⟩
    refine ⟨x, y, hx, hy, ?_⟩
    have hq : (y.dflt || ap y) = true := by unfold appliesAt at hq; rw [hy] at hq; exact hq
    unfold aheadB
    rw [hd]
    cases hdy : y.dflt with
    | true => simp
    | false =>
      rw [hdy] at hq
      obtain ⟨j', p', h1, h2⟩ := hmax j y (by rw [Nat.zero_add]; exact (h.all j).1 hj) hy hdy (by simpa using hq)
      rw [hb] at h1
      obtain ⟨rfl, rfl⟩ := Prod.mk.inj (Option.some.inj h1)
      simp
      omega
  | none =>
    have hno : ∀ j y, L[j]? = some y → y.dflt = false → ap y = false := fun j y hy hd => by
      cases ha : ap y with
      | false => rfl
      | true =>
        obtain ⟨j', p', h1, _⟩ := hmax j y (by rw [Nat.zero_add]; exact (List.getElem?_eq_some_iff.1 hy).1) hy hd ha
        rw [hb] at h1; cases h1
    rcases firstD_first L 0 with ⟨k, x, h1, h2, h3, h4⟩ | ⟨h1, h2⟩
    · rw [Nat.zero_add] at h1
      show _ = firstD 0 L
      rw [h1]
      refine find_least (fun _ _ => aheadF_asymm) _ k (by unfold appliesAt; rw [h2]; simp [h3]) R h.sorted ((h.all k).2 (List.getElem?_eq_some_iff.1 h2).1) fun j hj hq hne => ?_
      obtain ⟨y, hy⟩ : ∃ y, L[j]? = some y := ⟨_, List.getElem?_eq_getElem ((h.all j).1 hj)⟩
      refine ⟨x, y, h2, hy, ?_⟩
      have hq : (y.dflt || ap y) = true := by unfold appliesAt at hq; rw [hy] at hq; exact hq
      unfold aheadB
      rw [h3]
      cases hdy : y.dflt with
      | false =>
        rw [hdy, hno j y hy hdy] at hq
        cases hq
      | true =>
        have : ¬ j < k := fun hlt => by
          have := h4 j y hlt hy
          rw [hdy] at this; cases this
        simp
        omega
    · show _ = firstD 0 L
      rw [h1, List.find?_eq_none]
      intro j hj
      obtain ⟨y, hy⟩ : ∃ y, L[j]? = some y := ⟨_, List.getElem?_eq_getElem ((h.all j).1 hj)⟩
      unfold appliesAt
      rw [hy]
      simp [h2 j y hy, hno j y hy (h2 j y hy)]

/-- Rules that lie within one ahead are left out. -/
def trimGo {α : Type} (within : α → α → Bool) : List α → List α → List α
  | _, [] => []
  | A, r :: l => if A.any (within r) then trimGo within (A ++ [r]) l else r :: trimGo within (A ++ [r]) l
def trimL {α : Type} (within : α → α → Bool) (l : List α) : List α := trimGo within [] l
/-- No header's first rule is another one by it. -/
theorem trim_look {α : Type} (within : α → α → Bool) (has : α → Bool) (hw : ∀ a b, within a b = true → has a = true → has b = true) : ∀ (l A : List α), (∀ a ∈ A, has a = false) → (trimGo within A l).find? has = l.find? has
  | [], _, _ => rfl
  | r :: l, A, hA => by
    rw [trimGo]
    by_cases hr : has r = true
    · have hn : A.any (within r) = false := by
        rw [Bool.eq_false_iff]
        intro h
        obtain ⟨a, ha, h2⟩ := List.any_eq_true.1 h
        have := hw r a h2 hr
        rw [hA a ha] at this; cases this
      rw [if_neg (by rw [hn]; decide), List.find?_cons, List.find?_cons, hr]
    · have hr' : has r = false := by simpa using hr
      have ih := trim_look within has hw l (A ++ [r]) fun a ha => by
        rcases List.mem_append.1 ha with h | h
        · exact hA a h
        · obtain rfl : a = r := by simpa using h
          exact hr'
      split
      · rw [List.find?_cons, hr', ih]
      · rw [List.find?_cons, List.find?_cons, hr', ih]
/-- Trimmed again, it is the same. -/
theorem trim_again {α : Type} (within : α → α → Bool) : ∀ (l A A' : List α), (∀ a ∈ A', a ∈ A) → trimGo within A' (trimGo within A l) = trimGo within A l
  | [], _, _, _ => rfl
  | r :: l, A, A', hs => by
    rw [trimGo]
    by_cases h : A.any (within r) = true
    · rw [if_pos h]
      exact trim_again within l (A ++ [r]) A' fun a ha => List.mem_append_left _ (hs a ha)
    · rw [if_neg h, trimGo, if_neg, trim_again within l (A ++ [r]) (A' ++ [r]) fun a ha => ?_]
      · rcases List.mem_append.1 ha with h1 | h1
        · exact List.mem_append_left _ (hs a h1)
        · exact List.mem_append_right _ h1
      · intro h'
        obtain ⟨a, ha, h2⟩ := List.any_eq_true.1 h'
        exact h (List.any_eq_true.2 ⟨a, hs a ha, h2⟩)
/-- The first rule of what the rows are expanded to. -/
theorem look_expand {α β : Type} (cubes : α → List β) (has : β → Bool) : ∀ rows : List α, ((rows.flatMap fun x => (cubes x).map fun c => (c, x)).find? fun r => has r.1).map (·.2) = rows.find? fun x => (cubes x).any has
  | [] => rfl
  | x :: rows => by
    rw [List.flatMap_cons, List.find?_append, List.find?_cons]
    have ih := look_expand cubes has rows
    cases h : (cubes x).any has with
    | true =>
      obtain ⟨c, hc, h2⟩ := List.any_eq_true.1 h
      cases hf : ((cubes x).map fun c => (c, x)).find? fun r => has r.1 with
      | none =>
        rw [List.find?_eq_none] at hf
        exact absurd h2 (hf (c, x) (List.mem_map.2 ⟨c, hc, rfl⟩))
      | some r =>
        have hm := List.mem_of_find?_eq_some hf
        obtain ⟨c', _, rfl⟩ := List.mem_map.1 hm
        rfl
    | false =>
      have hf : (((cubes x).map fun c => (c, x)).find? fun r => has r.1) = none := by
        rw [List.find?_eq_none]
        intro r hr
        obtain ⟨c, hc, rfl⟩ := List.mem_map.1 hr
        intro h3
        rw [Bool.eq_false_iff] at h
        exact h (List.any_eq_true.2 ⟨c, hc, h3⟩)
      rw [hf]
      exact ih
end Go.Proofs.Ytbhnjhiecoapbaa
namespace Go.Proofs.Ytbhnjhiecoapbaa
open Go Go.RowKit
set_option maxRecDepth 20000

theorem wl_build0R {ops : Array Oper} {rest : List Oper} {o : Oper} {a : Act} {w : World} {Q : Exit → Act → World → Prop} {E : El} (H : E.Ok) (hg : o.guard = none) (ho : o.op = .buildSlice E.slice 0 #[])
    (h : wpList Try.prog ops Q rest (a.put o.dst (.slice (some ⟨w.heap.size, 0, none⟩) 0 0)) (w.alloc (.cells #[] E.elem))) : wpList Try.prog ops Q (o :: rest) a w := by
  obtain ⟨ie, hie, hz, hs, _⟩ := H.info
  refine wpList_plain hg fun _ hK => ?_
  unfold Oper.wp execOp
  have hrun : (Instr.buildSlice E.slice 0 #[]).run Try.prog w = .ok (.slice (some ⟨w.heap.size, 0, none⟩) 0 0) (w.alloc (.cells #[] E.elem)) := by
    have h0 : Array.range 0 = #[] := Array.eq_empty_of_size_eq_zero (by simp)
    simp [Instr.buildSlice, run_underlying H.hs, sizeOf, typeInfo, hie, Instr.fill, newRow, h0]
  simp only [ho, Sem.run_bind, List.map_toArray, List.map_nil, hrun, Result.andThen_ok]
  exact hK _ _ h
theorem own0R (w : World) (e : TypeId) (s : Nat) : (w.alloc (.cells #[] e)).ownsRow w.heap.size e s (.slice (some ⟨w.heap.size, 0, none⟩) 0 0) 0 [] := ⟨by simp, .inr ⟨_, 0, #[], rfl, Nat.le_refl _, heap_new _ _ _ rfl, Nat.le_refl _, Nat.zero_le _, by simp, by simp⟩⟩


set_option maxHeartbeats 8000000 in
/-- Two lists alike. -/
theorem rsame8_any (C : List RuleM) (hC : ∀ r ∈ C, okR8 r) (va vb : Value) (w : World) (ha : RulesAt w va C) (hb : RulesAt w vb C) :
    Calls Try.prog 12 #[va, vb] w fun e w' => e = .returned (.bool true) ∧ Below w.heap.size w w' := by
  obtain ⟨oa, capa, rfl, hca, hma⟩ := GSl.slice ha
  obtain ⟨ob, capb, rfl, hcb, hmb⟩ := GSl.slice hb
  obtain ⟨n, hn⟩ : ∃ n, n = C.length := ⟨_, rfl⟩
  rw [← hn] at ha hb hca hcb ⊢
  have HA : Hid (RulesAt w (.slice oa n capa) C) := ha
  have HBB : Hid (RulesAt w (.slice ob n capb) C) := hb
  have HOK : Hid (∀ r ∈ C, okR8 r) := hC
  unfold maxLen at hma hmb
  clear ha hb hn hC
  go_enter Try.func12, Try.ntmps12
  go_wp2_with fail
  go_loopw [5] (fun i wr => ∃ k : Nat, k ≤ n ∧ i = .int .i64 (k : Int) ∧ Below w.heap.size w wr) (fun i _ => n - (intOf i).toNat)
  case atStart => exact ⟨0, Nat.zero_le _, rfl, Below.refl _ _⟩
  case round =>
    obtain ⟨k, hk, rfl, hb⟩ := hrel
    have HB : Hid (Below w.heap.size w wr) := hb
    clear hb
    by_cases hlt : k < n
    · have hlt' : (k : Int) < (n : Int) := by omega
      obtain ⟨g, off, cur, ty, fr, x, rfl, hg, hc, hxk⟩ := (GSl.below HA.out HB.out).at k hlt
      obtain ⟨g2, off2, cur2, ty2, fr2, y, rfl, hg2, hc2, hyk⟩ := (GSl.below HBB.out HB.out).at k hlt
      rw [hxk] at hyk
      obtain rfl := Option.some.inj hyk
      have hx : okR8 x := HOK.out x (List.mem_of_getElem? hxk)
      have e1 : ∀ w, (Op.equalIn 10000 30 (.agg (ruleV x)) (.agg (ruleV x))).run Try.prog w = .ok true w := eqR_same hx
      have e2 : ∀ op p q w, (eqGuard op 30 p q (.agg (ruleV x)) (.agg (ruleV x))).run Try.prog w = .ok () w := fun op p q w => egR op p q _ _ w
      have hsz := ruleV_size hx
      have K1 : Hid (wr.heap[g]? = some (.cells cur ty fr)) := hg
      have K2 : Hid (wr.heap[g2]? = some (.cells cur2 ty2 fr2)) := hg2
      have H1 : Hid (∀ i, i < 28 → cur[off + k * 28 + i]? = (ruleV x)[i]?) := hc
      have H2 : Hid (∀ i, i < 28 → cur2[off2 + k * 28 + i]? = (ruleV x)[i]?) := hc2
      clear hg hg2 hc hc2 hxk hyk hx
      go_wp2_with fail
      have ne1 := Later.ne wr
      refine wp_region_later (by kernel_rfl) (by kernel_rfl) ?_
      go_big_quiet_step (fail)
      go_big_quiet_step (fail)
      go_big_quiet_step (fail)
      refine qlE (E := RuleE) RuleOk rfl _ rfl g (off + k * 28) rfl cur ty fr (ruleV x) hsz (later_block K1.out) H1.out ?_
      simp only [Act.put, List.setIfInBounds_toArray, List.set_cons_succ, List.set_cons_zero]
      go_big_quiet_step (fail)
      go_big_quiet_step (fail)
      go_big_quiet_step (fail)
      refine qlE (E := RuleE) RuleOk rfl _ rfl g2 (off2 + k * 28) rfl cur2 ty2 fr2 (ruleV x) hsz (later_block K2.out) H2.out ?_
      simp only [Act.put, List.setIfInBounds_toArray, List.set_cons_succ, List.set_cons_zero]
      go_big_quiet_step (fail)
      refine wpQuiet_nil ?_
      rintro w1 ⟨v5, rfl⟩
      have B1 : Hid (Below w.heap.size w v5.world) := HB.out.trans (v5.below.mono HB.out.size)
      go_wp2_with fail
      go_roundw
      case rel => exact ⟨k + 1, by omega, by go_num, B1.out⟩
      case measure => simp [intOf]; omega
    · have hlt' : ¬ (k : Int) < (n : Int) := by omega
      go_wp2_with fail
      go_ret
      exact ⟨rfl, HB.out⟩
/-! The reference's trimming is the same. -/
theorem trimGo_snoc {α : Type} (q : α → α → Bool) : ∀ (t A : List α) (x : α), trimGo q A (t ++ [x]) = trimGo q A t ++ (if (A ++ t).any (q x) then [] else [x])
  | [], A, x => by
    rw [List.nil_append, trimGo, trimGo, trimGo, List.append_nil, List.nil_append]
  | y :: t, A, x => by
    rw [List.cons_append, trimGo, trimGo]
    have e : A ++ y :: t = (A ++ [y]) ++ t := by simp
    split
    · rw [trimGo_snoc q t (A ++ [y]) x, e]
    · rw [trimGo_snoc q t (A ++ [y]) x, e]
      rfl
theorem trim_same {α : Type} (q : α → α → Bool) (hr : ∀ a, q a a = true) (ht : ∀ a b c, q a b = true → q b c = true → q a c = true) : ∀ (l A out : List α), (∀ a ∈ A, ∃ b ∈ out, q a b = true) → (∀ b ∈ out, b ∈ A) → trimO q out l = out ++ trimGo q A l
  | [], A, out, _, _ => by simp [trimO, trimGo]
  | x :: l, A, out, h1, h2 => by
    have e : A.any (q x) = out.any (q x) := by
      rw [Bool.eq_iff_iff, List.any_eq_true, List.any_eq_true]
      constructor
      · rintro ⟨a, ha, hq⟩
        obtain ⟨b, hb, hq2⟩ := h1 a ha
        exact ⟨b, hb, ht _ _ _ hq hq2⟩
      · rintro ⟨b, hb, hq⟩
        exact ⟨b, h2 b hb, hq⟩
    rw [trimO, trimGo, e]
    split
    · rename_i hc
      refine trim_same q hr ht l (A ++ [x]) out (fun a ha => ?_) (fun b hb => List.mem_append_left _ (h2 b hb))
      rcases List.mem_append.1 ha with ha | ha
      · exact h1 a ha
      · obtain rfl : a = x := by simpa using ha
        obtain ⟨b, hb, hq⟩ := List.any_eq_true.1 hc
        exact ⟨b, hb, hq⟩
    · rw [trim_same q hr ht l (A ++ [x]) (out ++ [x]) (fun a ha => ?_) (fun b hb => ?_), List.append_assoc]
      · rfl
      · rcases List.mem_append.1 ha with ha | ha
        · obtain ⟨b, hb, hq⟩ := h1 a ha
          exact ⟨b, List.mem_append_left _ hb, hq⟩
        · obtain rfl : a = x := by simpa using ha
          exact ⟨a, by simp, hr a⟩
      · rcases List.mem_append.1 hb with hb | hb
        · exact List.mem_append_left _ (h2 b hb)
        · exact List.mem_append_right _ hb
theorem withinR_refl (a : RuleM) : withinR a a = true := (within_iff _ _ _ _).2 fun _ _ h => ⟨h, rfl⟩
theorem withinR_trans (a b c : RuleM) (h1 : withinR a b = true) (h2 : withinR b c = true) : withinR a c = true := by
  unfold withinR at h1 h2 ⊢
  rw [within_iff] at h1 h2 ⊢
  intro i hi h
  obtain ⟨k1, k2⟩ := h2 i hi h
  obtain ⟨k3, k4⟩ := h1 i hi k1
  exact ⟨k3, k4.trans k2⟩
theorem trimT_go (l : List RuleM) : trimT l = trimGo withinR [] l := by
  unfold trimT
  rw [trim_same withinR withinR_refl withinR_trans l [] [] (fun a ha => by simp at ha) (fun b hb => by simp at hb)]
  rfl
theorem trimT_take {l : List RuleM} {k : Nat} {r : RuleM} (h : l[k]? = some r) : trimT (l.take (k + 1)) = trimT (l.take k) ++ (if (l.take k).any (withinR r) then [] else [r]) := by
  rw [trimT_go, trimT_go, List.take_add_one, h]
  exact trimGo_snoc withinR _ [] r

set_option maxHeartbeats 8000000 in
set_option maxRecDepth 100000 in
theorem rshut_any (l : List RuleM) (hl0 : ∀ r ∈ l, okR8 r) (vl : Value) (i : Nat) (r : RuleM) (hi : l[i]? = some r) (w : World) (hl : RulesAt w vl l) :
    Calls Try.prog 43 #[vl, .int .i64 (i : Int)] w fun e w' => e = .returned (.bool ((l.take i).any (withinR r))) ∧ Below w.heap.size w w' := by
  have WI : Hid (∀ (V M V' M' : List Int) W, Byt V → Byt M → Byt V' → Byt M' → Calls Try.prog 49 #[.agg (cv V M), .agg (cv V' M')] W fun e w' => e = .returned (.bool (within V M V' M')) ∧ Below W.heap.size W w') := fun V M V' M' W h1 h2 h3 h4 => rwithin_any V M V' M' h1 h2 h3 h4 W
  obtain ⟨o, cap, rfl, hc1, hc2⟩ := GSl.slice hl
  obtain ⟨n, hn0⟩ : ∃ n, n = l.length := ⟨_, rfl⟩
  have hin : i < n := by rw [hn0]; exact (List.getElem?_eq_some_iff.1 hi).1
  rw [← hn0] at hl hc1 ⊢
  have hr : okR8 r := hl0 r (List.mem_of_getElem? hi)
  have HR : Hid (okR8 r) := hr
  obtain ⟨g, off, cur, ty, fr, r', rfl, hg, hc, hxi⟩ := hl.at i hin
  obtain rfl : r' = r := by rw [hi] at hxi; exact (Option.some.inj hxi).symm
  have KG : Hid (w.heap[g]? = some (.cells cur ty fr)) := hg
  have HL : Hid (RulesAt w (.slice (some ⟨g, off, none⟩) n cap) l) := hl
  have HI : Hid (∀ j, j < 26 → cur[off + i * 28 + 1 + j]? = (cv r'.cube.1 r'.cube.2)[j]?) := fun j hj => by
    have h3 := hc (1 + j) (by show 1 + j < 28; omega)
    rw [(rule_at hr).2.1 j hj] at h3
    rw [← h3]
    congr 1
    show off + i * 28 + 1 + j = off + i * 28 + (1 + j)
    omega
  have HOK : Hid (∀ r ∈ l, okR8 r) := hl0
  unfold maxLen at hc2
  obtain ⟨b, hb⟩ : ∃ b, b = (l.take i).any (withinR r') := ⟨_, rfl⟩
  have HBE : Hid (b = (l.take i).any (withinR r')) := hb
  rw [← hb]
  have iz : (i : Int) < (n : Int) := by omega
  clear hl hn0 hl0 hg hc hxi hr hb hi
  go_enter Try.func43, Try.ntmps43
  go_wp2_with fail
  go_loopw [5] (fun s wr => ∃ k : Nat, k ≤ i ∧ s = .int .i64 (k : Int) ∧ Hid ((l.take k).any (withinR r') = false) ∧ Below w.heap.size w wr) (fun s _ => i - (intOf s).toNat)
  case atStart => exact ⟨0, Nat.zero_le _, rfl, rfl, Below.refl _ _⟩
  case round =>
    obtain ⟨k, hk, rfl, HF, hb⟩ := hrel
    have HB : Hid (Below w.heap.size w wr) := hb
    clear hb
    by_cases hlt : k < i
    · have hlt' : (k : Int) < (i : Int) := by omega
      have kz : (k : Int) < (n : Int) := by omega
      obtain ⟨g2, off2, cur2, ty2, fr2, a, hadr, hg2, hc2', hak⟩ := (GSl.below HL.out HB.out).at k (by omega)
      simp only [Option.some.injEq, Addr.mk.injEq] at hadr
      obtain ⟨rfl, rfl, _⟩ := hadr
      have ha : okR8 a := HOK.out a (List.mem_of_getElem? hak)
      have HAO : Hid (okR8 a) := ha
      have K2 : Hid (wr.heap[g]? = some (.cells cur2 ty2 fr2)) := hg2
      have K1 : Hid (wr.heap[g]? = some (.cells cur ty fr)) := (HB.out.block _ (Array.getElem?_eq_some_iff.1 KG.out).1).trans KG.out
      have H2 : Hid (∀ j, j < 26 → cur2[off + k * 28 + 1 + j]? = (cv a.cube.1 a.cube.2)[j]?) := fun j hj => by
        have h3 := hc2' (1 + j) (by show 1 + j < 28; omega)
        rw [(rule_at ha).2.1 j hj] at h3
        rw [← h3]
        congr 1
        show off + k * 28 + 1 + j = off + k * 28 + (1 + j)
        omega
      have HAK : Hid (l[k]? = some a) := hak
      clear hg2 hc2' hak ha
      go_wp2_with fail
      have ne1 := Later.ne wr
      refine wp_region_later (by kernel_rfl) (by kernel_rfl) ?_
      go_big_quiet_step (fail)
      go_big_quiet_step (fail)
      go_big_quiet_step (fail)
      go_big_quiet_step (fail)
      refine qlCw rfl _ rfl g (off + i * 28 + 1) rfl cur ty fr r'.cube.1 r'.cube.2 HR.out.1.1 HR.out.2.1 (later_block K1.out) HI.out ?_
      simp only [Act.put, List.setIfInBounds_toArray, List.set_cons_succ, List.set_cons_zero]
      go_big_quiet_step (fail)
      go_big_quiet_step (fail)
      go_big_quiet_step (fail)
      go_big_quiet_step (fail)
      refine qlCw rfl _ rfl g (off + k * 28 + 1) rfl cur2 ty2 fr2 a.cube.1 a.cube.2 HAO.out.1.1 HAO.out.2.1 (later_block K2.out) H2.out ?_
      simp only [Act.put, List.setIfInBounds_toArray, List.set_cons_succ, List.set_cons_zero]
      go_big_quiet_want; go_big_quiet_op
      refine ⟨_, fun u => Calls.later_of (WI.out _ _ _ _ u.world HR.out.1 HR.out.2 HAO.out.1 HAO.out.2), ?_⟩
      go_big_quiet_on
      refine wpQuiet_nil ?_
      rintro w1 ⟨v5, rfl⟩
      have B1 : Hid (Below w.heap.size w v5.world) := HB.out.trans (v5.below.mono HB.out.size)
      cases hwi : within r'.cube.1 r'.cube.2 a.cube.1 a.cube.2 with
      | true =>
        have HE : Hid (b = true) := by
          show _ = _
          rw [HBE.out]
          exact any_take_yes (l := l.take i) (k := k) (x := a) (by rw [List.getElem?_take_of_lt hlt]; exact HAK.out) hwi
        clear hwi
        go_wp2_with fail
        go_ret
        exact ⟨by rw [HE.out]; rfl, B1.out⟩
      | false =>
        have HF2 : Hid ((l.take (k + 1)).any (withinR r') = false) := any_take_no HF.out HAK.out hwi
        clear hwi
        go_wp2_with fail
        go_roundw
        case rel => exact ⟨k + 1, by omega, by go_num, HF2, B1.out⟩
        case measure => simp [intOf]; omega
    · have hlt' : ¬ (k : Int) < (i : Int) := by omega
      have HE : Hid (b = false) := by
        show _ = _
        rw [HBE.out]
        have := HF.out
        rwa [show k = i by omega] at this
      go_wp2_with fail
      go_ret
      exact ⟨by rw [HE.out]; rfl, HB.out⟩

set_option maxHeartbeats 8000000 in
set_option maxRecDepth 100000 in
theorem rtrim_any (l : List RuleM) (hl0 : ∀ r ∈ l, okR8 r) (hn1 : l.length ≤ 100000) (vl : Value) (w : World) (hl : RulesAt w vl l) :
    Calls Try.prog 25 #[vl] w fun e w' => (∃ v, e = .returned v ∧ w'.ownsRow w.heap.size 30 28 v (trimT l).length (gcells ruleV (trimT l))) ∧ Below w.heap.size w w' := by
  obtain ⟨o, cap, rfl, hc1, hc2⟩ := GSl.slice hl
  obtain ⟨n, hn0⟩ : ∃ n, n = l.length := ⟨_, rfl⟩
  have HN : Hid (n = l.length) := hn0
  rw [← hn0] at hl hc1 hn1 ⊢
  have SH : Hid (∀ (i : Nat) (r : RuleM) W, l[i]? = some r → Below w.heap.size w W → Calls Try.prog 43 #[.slice o n cap, .int .i64 (i : Int)] W fun e w' => e = .returned (.bool ((l.take i).any (withinR r))) ∧ Below W.heap.size W w') := fun i r W h1 h2 => rshut_any l hl0 _ i r h1 W (GSl.below hl h2)
  have HL : Hid (RulesAt w (.slice o n cap) l) := hl
  have HOK : Hid (∀ r ∈ l, okR8 r) := hl0
  unfold maxLen at hc2
  clear hl hn0 hl0
  go_enter Try.func25, Try.ntmps25
  go_wp2_with (refine wl_build0R (E := RuleE) RuleOk rfl rfl ?_)
  go_loopw [3, 4] (fun v i wr => ∃ (k : Nat) (T : List RuleM), k ≤ n ∧ i = .int .i64 (k : Int) ∧ Hid (T = trimT (l.take k)) ∧ T.length ≤ k ∧ wr.ownsRow w.heap.size 30 28 v T.length (gcells ruleV T) ∧ Below w.heap.size w wr) (fun _ i _ => n - (intOf i).toNat)
  case atStart => exact ⟨0, [], Nat.zero_le _, rfl, rfl, Nat.le_refl _, own0R _ _ _, (Below.refl _ _).alloc (Nat.le_refl _) _⟩
  case round =>
    obtain ⟨k, T, hk, rfl, HT, hTk, hown, hb⟩ := hrel
    have HO : Hid (wr.ownsRow w.heap.size 30 28 u3 T.length (gcells ruleV T)) := hown
    have HB : Hid (Below w.heap.size w wr) := hb
    clear hown hb
    by_cases hlt : k < n
    · have hlt' : (k : Int) < (n : Int) := by omega
      obtain ⟨r, hr0⟩ : ∃ r, l[k]? = some r := ⟨_, List.getElem?_eq_getElem (by rw [← HN.out]; exact hlt)⟩
      have hr : okR8 r := HOK.out r (List.mem_of_getElem? hr0)
      have HR : Hid (okR8 r) := hr
      have hsz := ruleV_size hr
      have HNX := trimT_take hr0
      obtain ⟨g, off, cur, ty, fr, r', rfl, hg, hc, hxi⟩ := (GSl.below HL.out HB.out).at k hlt
      obtain rfl : r' = r := by rw [hr0] at hxi; exact (Option.some.inj hxi).symm
      have KG : Hid (wr.heap[g]? = some (.cells cur ty fr)) := hg
      have H1 : Hid (∀ j, j < 28 → cur[off + k * 28 + j]? = (ruleV r')[j]?) := hc
      have HR0 : Hid (l[k]? = some r') := hr0
      obtain ⟨b, hbe⟩ : ∃ b, b = (l.take k).any (withinR r') := ⟨_, rfl⟩
      have HBE : Hid (b = (l.take k).any (withinR r')) := hbe
      rw [← hbe, ← HT.out] at HNX
      have HX : Hid (trimT (l.take (k + 1)) = T ++ (if b = true then [] else [r'])) := HNX
      clear hg hc hxi hr hr0 hbe HNX
      go_wp2_with fail
      refine (SH.out k r' _ HR0.out HB.out).mono ?_
      rw [← HBE.out]
      rintro e w1 ⟨rfl, hb1⟩
      have B1 : Hid (Below w.heap.size w w1) := HB.out.trans (hb1.mono HB.out.size)
      have K1 : Hid (w1.heap[g]? = some (.cells cur ty fr)) := (hb1.block _ (Array.getElem?_eq_some_iff.1 KG.out).1).trans KG.out
      have O1 : Hid (w1.ownsRow w.heap.size 30 28 u3 T.length (gcells ruleV T)) := gown_below HO.out hb1
      clear hb1
      cases b with
      | true =>
        go_wp2_with fail
        go_roundw
        case rel => exact ⟨k + 1, T, by omega, by go_num, by show _ = _; rw [HX.out]; simp, by omega, O1.out, B1.out⟩
        case measure => simp [intOf]; omega
      | false =>
        have ON2 : Hid ((w1.alloc (.cells (ruleV r') 30)).ownsRow w.heap.size 30 28 u3 T.length (gcells ruleV T)) := O1.out.alloc _
        go_wp2_with (first
          | (refine wl_loadE (E := RuleE) RuleOk rfl _ rfl g (off + k * 28) rfl cur ty fr (ruleV r') hsz K1.out H1.out ?_)
          | (refine wl_buildE (E := RuleE) RuleOk rfl _ rfl (ruleV r') hsz rfl ?_)
          | (at_builtin; refine of_stopT ?_))
        unfold StopT
        refine wl_appendE (E := RuleE) RuleOk ruleV rfl _ _ rfl w.heap.size u3 T r' (rule_fits HR.out) rfl ON2.out w1.heap.size 1 rfl (heap_new _ _ _ rfl) (by omega) (by have := B1.out.size; simp; omega) ?_
        intro v' w3 hown3 hgr3 _
        have B3 : Hid (Below w.heap.size w w3) := (B1.out.alloc B1.out.size _).trans ((Below.refl _ _).grown hgr3 (B1.out.alloc B1.out.size _).size fun k hk => (ON2.out.lt k hk).1)
        have O3 : Hid (w3.ownsRow w.heap.size 30 28 v' (T ++ [r']).length (gcells ruleV (T ++ [r']))) := hown3
        clear hown3 hgr3
        simp only [Act.put, List.setIfInBounds_toArray, List.set_cons_succ, List.set_cons_zero]
        go_wp2_with fail
        go_roundw
        case rel => exact ⟨k + 1, T ++ [r'], by omega, by go_num, by show _ = _; rw [HX.out]; simp, by simp; omega, O3.out, B3.out⟩
        case measure => simp [intOf]; omega
    · have hlt' : ¬ (k : Int) < (n : Int) := by omega
      have HE : Hid (T = trimT l) := by
        have e := HN.out
        show _ = _
        rw [HT.out, List.take_of_length_le (by omega)]
      go_wp2_with fail
      go_ret
      exact ⟨⟨_, rfl, by rw [← HE.out]; exact HO.out⟩, HB.out⟩
end Go.Proofs.Ytbhnjhiecoapbaa
