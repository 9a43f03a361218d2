import Derived.Test.YtbhnjhiecoapbabJ13
import Derived.Test.YtbhnjhiecoapbabJ9
import Derived.Test.YtbhnjhiecoapbabJ3
namespace Go.Proofs.Ytbhnjhiecoapbab
open Go
set_option maxRecDepth 20000

/-- Does the entry at a place stand ahead of the one at another place? -/
def aheadB (x : Ent) (i : Nat) (y : Ent) (j : Nat) : Bool :=
  if x.dflt then y.dflt && decide (i < j) else y.dflt || decide (y.prio < x.prio) || (decide (x.prio = y.prio) && decide (i < j))
def aheadAt (L : List Ent) (i j : Nat) : Prop := ∃ x y, L[i]? = some x ∧ L[j]? = some y ∧ aheadB x i y j = true
theorem aheadF_asymm {L : List Ent} {i j : Nat} (h1 : aheadAt L i j) (h2 : aheadAt L j i) : False := by
  obtain ⟨x, y, hx, hy, h⟩ := h1
  obtain ⟨y', x', hy', hx', h'⟩ := h2
  rw [hx] at hx'
  rw [hy] at hy'
  obtain rfl := Option.some.inj hx'
  obtain rfl := Option.some.inj hy'
  unfold aheadB at h h'
  cases hdx : x.dflt <;> cases hdy : y.dflt <;> simp [hdx, hdy] at h h' <;> omega
/-- The places of a list's entries in the order of the rows. -/
structure IsRows (L : List Ent) (R : List Nat) : Prop where
  sorted : R.Pairwise (aheadAt L)
  all : ∀ i, i ∈ R ↔ i < L.length

theorem pairwise_one {α : Type} {r : α → α → Prop} (ha : ∀ a b, r a b → r b a → False) : ∀ R R' : List α, R.Pairwise r → R'.Pairwise r → (∀ a, a ∈ R ↔ a ∈ R') → R = R'
  | [], [], _, _, _ => rfl
  | [], b :: R', _, _, h => absurd ((h b).2 (by simp)) (by simp)
  | a :: R, [], _, _, h => absurd ((h a).1 (by simp)) (by simp)
  | a :: R, b :: R', h1, h2, h => by
    obtain ⟨p1, q1⟩ := List.pairwise_cons.1 h1
    obtain ⟨p2, q2⟩ := List.pairwise_cons.1 h2
    have hab : a = b := by
      rcases List.mem_cons.1 ((h a).1 (by simp)) with e | e
      · exact e
      · rcases List.mem_cons.1 ((h b).2 (by simp)) with e' | e'
        · exact e'.symm
        · exact (ha a b (p1 b e') (p2 a e)).elim
    subst hab
    rw [pairwise_one ha R R' q1 q2 fun c => ?_]
    constructor
    · intro hc
      rcases List.mem_cons.1 ((h c).1 (List.mem_cons_of_mem _ hc)) with rfl | e
      · exact (ha c c (p1 c hc) (p1 c hc)).elim
      · exact e
    · intro hc
      rcases List.mem_cons.1 ((h c).2 (List.mem_cons_of_mem _ hc)) with rfl | e
      · exact (ha c c (p2 c hc) (p2 c hc)).elim
      · exact e
/-- There is one such order. -/
theorem rows_one {L : List Ent} {R R' : List Nat} (h : IsRows L R) (h' : IsRows L R') : R = R' :=
  pairwise_one (fun _ _ => aheadF_asymm) R R' h.sorted h'.sorted fun i => by rw [h.all, h'.all]
theorem find_least {α : Type} {r : α → α → Prop} (ha : ∀ a b, r a b → r b a → False) (q : α → Bool) (a : α) (hq : q a = true) : ∀ R : List α, R.Pairwise r → a ∈ R → (∀ b ∈ R, q b = true → b ≠ a → r a b) → R.find? q = some a
  | [], _, h, _ => by simp at h
  | b :: R, h1, h, hm => by
    obtain ⟨p1, q1⟩ := List.pairwise_cons.1 h1
    rw [List.find?_cons]
    cases hb : q b with
    | true =>
      by_cases e : b = a
      · rw [e]
      · rcases List.mem_cons.1 h with e' | e'
        · exact absurd e'.symm e
        · exact (ha a b (hm b (by simp) hb e) (p1 a e')).elim
    | false =>
      rcases List.mem_cons.1 h with rfl | e'
      · rw [hb] at hq; cases hq
      · exact find_least ha q a hq R q1 e' fun c hc => hm c (List.mem_cons_of_mem _ hc)

/-- Nothing that applies beats the best one. -/
theorem bestGo_max (ap : Ent → Bool) (L : List Ent) : ∀ (l : List Ent) (i : Nat) (b : Option (Nat × Int)), (∀ k, l[k]? = L[i + k]?) →
    (∀ k y, k < i → L[k]? = some y → y.dflt = false → ap y = true → ∃ j p, b = some (j, p) ∧ (y.prio < p ∨ (y.prio = p ∧ j ≤ k))) →
    (∀ j p, b = some (j, p) → j < i) →
    ∀ k y, k < i + l.length → L[k]? = some y → y.dflt = false → ap y = true → ∃ j p, bestGo ap i b l = some (j, p) ∧ (y.prio < p ∨ (y.prio = p ∧ j ≤ k))
  | [], i, b, _, hb, _, k, y, hk, hy, hd, ha => hb k y (by simpa using hk) hy hd ha
  | x :: l, i, b, hL, hb, hj, k, y, hk, hy, hd, ha => by
    rw [bestGo]
    have hx0 : L[i]? = some x := by
      have := hL 0
      simpa using this.symm
    refine bestGo_max ap L l (i + 1) _ (fun k => ?_) (fun k y hk hy hd ha => ?_) (fun j p hjp => ?_) k y (by simp at hk; omega) hy hd ha
    · have := hL (k + 1)
      rw [List.getElem?_cons_succ] at this
      rw [this]; congr 1; omega
    · by_cases hki : k = i
      · subst hki
        rw [hx0] at hy
        obtain rfl := Option.some.inj hy
        cases b with
        | none => exact ⟨k, x.prio, by simp [beats, hd, ha], .inr ⟨rfl, Nat.le_refl _⟩⟩
        | some jp =>
          obtain ⟨j, p⟩ := jp
          by_cases hlt : p < x.prio
          · exact ⟨k, x.prio, by simp [beats, hd, ha, hlt], .inr ⟨rfl, Nat.le_refl _⟩⟩
          · refine ⟨j, p, by simp [beats, hd, ha, hlt], ?_⟩
            have := hj j p rfl
            omega
      · obtain ⟨j, p, h1, h2⟩ := hb k y (by omega) hy hd ha
        subst h1
        by_cases hc : (!x.dflt && ap x && beats x.prio (some (j, p))) = true
        · rw [if_pos hc]
          simp only [Bool.and_eq_true, beats, decide_eq_true_eq] at hc
          exact ⟨i, x.prio, rfl, by left; omega⟩
        · rw [if_neg hc]
          exact ⟨j, p, rfl, h2⟩
    · split at hjp
      · obtain ⟨rfl, rfl⟩ := Prod.mk.inj (Option.some.inj hjp); omega
      · have := hj j p hjp; omega
theorem firstD_first : ∀ (l : List Ent) (i : Nat), (∃ (k : Nat) (x : Ent), firstD i l = some (i + k) ∧ l[k]? = some x ∧ x.dflt = true ∧ ∀ (k' : Nat) (y : Ent), k' < k → l[k']? = some y → y.dflt = false) ∨ (firstD i l = none ∧ ∀ (k : Nat) (y : Ent), l[k]? = some y → y.dflt = false)
  | [], i => .inr ⟨rfl, fun k y h => by simp at h⟩
  | y :: l, i => by
    rw [firstD]
    cases hy : y.dflt with
    | true => exact .inl ⟨0, y, by rw [if_pos rfl]; rfl, rfl, hy, fun k' z hk => by omega⟩
    | false =>
      rw [if_neg (by decide)]
      rcases firstD_first l (i + 1) with ⟨k, x, h1, h2, h3, h4⟩ | ⟨h1, h2⟩
      · refine .inl ⟨k + 1, x, by rw [h1]; congr 1; omega, by simpa using h2, h3, fun k' z hk hz => ?_⟩
        cases k' with
        | zero => obtain rfl : y = z := by simpa using hz
                  exact hy
        | succ k' => exact h4 k' z (by omega) (by simpa using hz)
      · refine .inr ⟨h1, fun k z hz => ?_⟩
        cases k with
        | zero => obtain rfl : y = z := by simpa using hz
                  exact hy
        | succ k => exact h2 k z (by simpa using hz)

def appliesAt (ap : Ent → Bool) (L : List Ent) (i : Nat) : Bool := match L[i]? with | some x => x.dflt || ap x | none => false
/-- THE FIRST OF THE ROWS THAT APPLIES is the entry that says what is done. -/
theorem rows_which (ap : Ent → Bool) {L : List Ent} {R : List Nat} (h : IsRows L R) : R.find? (appliesAt ap L) = whichT ap L := by
  have hin := bestGo_in ap L L 0 none (fun k => by rw [Nat.zero_add]) (fun j p hjp => by cases hjp)
  have hmax := bestGo_max ap L L 0 none (fun k => by rw [Nat.zero_add]) (fun k y hk => absurd hk (Nat.not_lt_zero _)) (fun j p hjp => by cases hjp)
  unfold whichT
  cases hb : bestGo ap 0 none L with
  | some b =>
    obtain ⟨i, p⟩ := b
    obtain ⟨x, hx, hp, hd, ha⟩ := hin i p hb
    have hi := (List.getElem?_eq_some_iff.1 hx).1
    refine find_least (fun _ _ => aheadF_asymm) _ i (by unfold appliesAt; rw [hx]; simp [ha]) R h.sorted ((h.all i).2 hi) fun j hj hq hne => ?_
    obtain ⟨y, hy⟩ : ∃ y, L[j]? = some y := ⟨_, List.getElem?_eq_getElem ((h.all j).1 hj)⟩
    refine ⟨x, y, hx, hy, ?_⟩
    have hq : (y.dflt || ap y) = true := by unfold appliesAt at hq; rw [hy] at hq; exact hq
    unfold aheadB
    rw [hd]
    cases hdy : y.dflt with
    | true => simp
    | false =>
      rw [hdy] at hq
      obtain ⟨j', p', h1, h2⟩ := hmax j y (by rw [Nat.zero_add]; exact (h.all j).1 hj) hy hdy (by simpa using hq)
      rw [hb] at h1
      obtain ⟨rfl, rfl⟩ := Prod.mk.inj (Option.some.inj h1)
      simp
      omega
  | none =>
    have hno : ∀ j y, L[j]? = some y → y.dflt = false → ap y = false := fun j y hy hd => by
      cases ha : ap y with
      | false => rfl
      | true =>
        obtain ⟨j', p', h1, _⟩ := hmax j y (by rw [Nat.zero_add]; exact (List.getElem?_eq_some_iff.1 hy).1) hy hd ha
        rw [hb] at h1; cases h1
    rcases firstD_first L 0 with ⟨k, x, h1, h2, h3, h4⟩ | ⟨h1, h2⟩
    · rw [Nat.zero_add] at h1
      show _ = firstD 0 L
      rw [h1]
      refine find_least (fun _ _ => aheadF_asymm) _ k (by unfold appliesAt; rw [h2]; simp [h3]) R h.sorted ((h.all k).2 (List.getElem?_eq_some_iff.1 h2).1) fun j hj hq hne => ?_
      obtain ⟨y, hy⟩ : ∃ y, L[j]? = some y := ⟨_, List.getElem?_eq_getElem ((h.all j).1 hj)⟩
      refine ⟨x, y, h2, hy, ?_⟩
      have hq : (y.dflt || ap y) = true := by unfold appliesAt at hq; rw [hy] at hq; exact hq
      unfold aheadB
      rw [h3]
      cases hdy : y.dflt with
      | false =>
        rw [hdy, hno j y hy hdy] at hq
        cases hq
      | true =>
        have : ¬ j < k := fun hlt => by
          have := h4 j y hlt hy
          rw [hdy] at this; cases this
        simp
        omega
    · show _ = firstD 0 L
      rw [h1, List.find?_eq_none]
      intro j hj
      obtain ⟨y, hy⟩ : ∃ y, L[j]? = some y := ⟨_, List.getElem?_eq_getElem ((h.all j).1 hj)⟩
      unfold appliesAt
      rw [hy]
      simp [h2 j y hy, hno j y hy (h2 j y hy)]

/-- Rules that lie within one ahead are left out. -/
def trimGo {α : Type} (within : α → α → Bool) : List α → List α → List α
  | _, [] => []
  | A, r :: l => if A.any (within r) then trimGo within (A ++ [r]) l else r :: trimGo within (A ++ [r]) l
def trimL {α : Type} (within : α → α → Bool) (l : List α) : List α := trimGo within [] l
/-- No header's first rule is another one by it. -/
theorem trim_look {α : Type} (within : α → α → Bool) (has : α → Bool) (hw : ∀ a b, within a b = true → has a = true → has b = true) : ∀ (l A : List α), (∀ a ∈ A, has a = false) → (trimGo within A l).find? has = l.find? has
  | [], _, _ => rfl
  | r :: l, A, hA => by
    rw [trimGo]
    by_cases hr : has r = true
    · have hn : A.any (within r) = false := by
        rw [Bool.eq_false_iff]
        intro h
        obtain ⟨a, ha, h2⟩ := List.any_eq_true.1 h
        have := hw r a h2 hr
        rw [hA a ha] at this; cases this
      rw [if_neg (by rw [hn]; decide), List.find?_cons, List.find?_cons, hr]
    · have hr' : has r = false := by simpa using hr
      have ih := trim_look within has hw l (A ++ [r]) fun a ha => by
        rcases List.mem_append.1 ha with h | h
        · exact hA a h
        · obtain rfl : a = r := by simpa using h
          exact hr'
      split
      · rw [List.find?_cons, hr', ih]
      · rw [List.find?_cons, List.find?_cons, hr', ih]
/-- Trimmed again, it is the same. -/
theorem trim_again {α : Type} (within : α → α → Bool) : ∀ (l A A' : List α), (∀ a ∈ A', a ∈ A) → trimGo within A' (trimGo within A l) = trimGo within A l
  | [], _, _, _ => rfl
  | r :: l, A, A', hs => by
    rw [trimGo]
    by_cases h : A.any (within r) = true
    · rw [if_pos h]
      exact trim_again within l (A ++ [r]) A' fun a ha => List.mem_append_left _ (hs a ha)
    · rw [if_neg h, trimGo, if_neg, trim_again within l (A ++ [r]) (A' ++ [r]) fun a ha => ?_]
      · rcases List.mem_append.1 ha with h1 | h1
        · exact List.mem_append_left _ (hs a h1)
        · exact List.mem_append_right _ h1
      · intro h'
        obtain ⟨a, ha, h2⟩ := List.any_eq_true.1 h'
        exact h (List.any_eq_true.2 ⟨a, hs a ha, h2⟩)
/-- The first rule of what the rows are expanded to. -/
theorem look_expand {α β : Type} (cubes : α → List β) (has : β → Bool) : ∀ rows : List α, ((rows.flatMap fun x => (cubes x).map fun c => (c, x)).find? fun r => has r.1).map (·.2) = rows.find? fun x => (cubes x).any has
  | [] => rfl
  | x :: rows => by
    rw [List.flatMap_cons, List.find?_append, List.find?_cons]
    have ih := look_expand cubes has rows
    cases h : (cubes x).any has with
    | true =>
      obtain ⟨c, hc, h2⟩ := List.any_eq_true.1 h
      cases hf : ((cubes x).map fun c => (c, x)).find? fun r => has r.1 with
      | none =>
        rw [List.find?_eq_none] at hf
        exact absurd h2 (hf (c, x) (List.mem_map.2 ⟨c, hc, rfl⟩))
      | some r =>
        have hm := List.mem_of_find?_eq_some hf
        obtain ⟨c', _, rfl⟩ := List.mem_map.1 hm
        rfl
    | false =>
      have hf : (((cubes x).map fun c => (c, x)).find? fun r => has r.1) = none := by
        rw [List.find?_eq_none]
        intro r hr
        obtain ⟨c, hc, rfl⟩ := List.mem_map.1 hr
        intro h3
        rw [Bool.eq_false_iff] at h
        exact h (List.any_eq_true.2 ⟨c, hc, h3⟩)
      rw [hf]
      exact ih
end Go.Proofs.Ytbhnjhiecoapbab
namespace Go.Proofs.Ytbhnjhiecoapbab
open Go Go.RowKit
set_option maxRecDepth 20000

theorem wl_build0R {ops : Array Oper} {rest : List Oper} {o : Oper} {a : Act} {w : World} {Q : Exit → Act → World → Prop} {E : El} (H : E.Ok) (hg : o.guard = none) (ho : o.op = .buildSlice E.slice 0 #[])
    (h : wpList Try.prog ops Q rest (a.put o.dst (.slice (some ⟨w.heap.size, 0, none⟩) 0 0)) (w.alloc (.cells #[] E.elem))) : wpList Try.prog ops Q (o :: rest) a w := by
  obtain ⟨ie, hie, hz, hs, _⟩ := H.info
  refine wpList_plain hg fun _ hK => ?_
  unfold Oper.wp execOp
  have hrun : (Instr.buildSlice E.slice 0 #[]).run Try.prog w = .ok (.slice (some ⟨w.heap.size, 0, none⟩) 0 0) (w.alloc (.cells #[] E.elem)) := by
    have h0 : Array.range 0 = #[] := Array.eq_empty_of_size_eq_zero (by simp)
    simp [Instr.buildSlice, run_underlying H.hs, sizeOf, typeInfo, hie, Instr.fill, newRow, h0]
  simp only [ho, Sem.run_bind, List.map_toArray, List.map_nil, hrun, Result.andThen_ok]
  exact hK _ _ h
theorem own0R (w : World) (e : TypeId) (s : Nat) : (w.alloc (.cells #[] e)).ownsRow w.heap.size e s (.slice (some ⟨w.heap.size, 0, none⟩) 0 0) 0 [] := ⟨by simp, .inr ⟨_, 0, #[], rfl, Nat.le_refl _, heap_new _ _ _ rfl, Nat.le_refl _, Nat.zero_le _, by simp, by simp⟩⟩


theorem trimGo_snoc {α : Type} (q : α → α → Bool) : ∀ (t A : List α) (x : α), trimGo q A (t ++ [x]) = trimGo q A t ++ (if (A ++ t).any (q x) then [] else [x])
  | [], A, x => by
    rw [List.nil_append, trimGo, trimGo, trimGo, List.append_nil, List.nil_append]
  | y :: t, A, x => by
    rw [List.cons_append, trimGo, trimGo]
    have e : A ++ y :: t = (A ++ [y]) ++ t := by simp
    split
    · rw [trimGo_snoc q t (A ++ [y]) x, e]
    · rw [trimGo_snoc q t (A ++ [y]) x, e]
      rfl
theorem trim_same {α : Type} (q : α → α → Bool) (hr : ∀ a, q a a = true) (ht : ∀ a b c, q a b = true → q b c = true → q a c = true) : ∀ (l A out : List α), (∀ a ∈ A, ∃ b ∈ out, q a b = true) → (∀ b ∈ out, b ∈ A) → trimO q out l = out ++ trimGo q A l
  | [], A, out, _, _ => by simp [trimO, trimGo]
  | x :: l, A, out, h1, h2 => by
    have e : A.any (q x) = out.any (q x) := by
      rw [Bool.eq_iff_iff, List.any_eq_true, List.any_eq_true]
      constructor
      · rintro ⟨a, ha, hq⟩
        obtain ⟨b, hb, hq2⟩ := h1 a ha
        exact ⟨b, hb, ht _ _ _ hq hq2⟩
      · rintro ⟨b, hb, hq⟩
        exact ⟨b, h2 b hb, hq⟩
    rw [trimO, trimGo, e]
    split
    · rename_i hc
      refine trim_same q hr ht l (A ++ [x]) out (fun a ha => ?_) (fun b hb => List.mem_append_left _ (h2 b hb))
      rcases List.mem_append.1 ha with ha | ha
      · exact h1 a ha
      · obtain rfl : a = x := by simpa using ha
        obtain ⟨b, hb, hq⟩ := List.any_eq_true.1 hc
        exact ⟨b, hb, hq⟩
    · rw [trim_same q hr ht l (A ++ [x]) (out ++ [x]) (fun a ha => ?_) (fun b hb => ?_), List.append_assoc]
      · rfl
      · rcases List.mem_append.1 ha with ha | ha
        · obtain ⟨b, hb, hq⟩ := h1 a ha
          exact ⟨b, List.mem_append_left _ hb, hq⟩
        · obtain rfl : a = x := by simpa using ha
          exact ⟨a, by simp, hr a⟩
      · rcases List.mem_append.1 hb with hb | hb
        · exact List.mem_append_left _ (h2 b hb)
        · exact List.mem_append_right _ hb
theorem withinR_refl (a : RuleM) : withinR a a = true := (within_iff _ _ _ _).2 fun _ _ h => ⟨h, rfl⟩
theorem withinR_trans (a b c : RuleM) (h1 : withinR a b = true) (h2 : withinR b c = true) : withinR a c = true := by
  unfold withinR at h1 h2 ⊢
  rw [within_iff] at h1 h2 ⊢
  intro i hi h
  obtain ⟨k1, k2⟩ := h2 i hi h
  obtain ⟨k3, k4⟩ := h1 i hi k1
  exact ⟨k3, k4.trans k2⟩
theorem trimT_go (l : List RuleM) : trimT l = trimGo withinR [] l := by
  unfold trimT
  rw [trim_same withinR withinR_refl withinR_trans l [] [] (fun a ha => by simp at ha) (fun b hb => by simp at hb)]
  rfl
theorem trimT_take {l : List RuleM} {k : Nat} {r : RuleM} (h : l[k]? = some r) : trimT (l.take (k + 1)) = trimT (l.take k) ++ (if (l.take k).any (withinR r) then [] else [r]) := by
  rw [trimT_go, trimT_go, List.take_add_one, h]
  exact trimGo_snoc withinR _ [] r

end Go.Proofs.Ytbhnjhiecoapbab
namespace Go.Proofs.Ytbhnjhiecoapbab
open Go Go.RowKit
set_option maxRecDepth 20000

/-- A rule's part within a cube. -/
def cutR (V M : List Int) (r : RuleM) : Option RuleM := if meets r.cube.1 r.cube.2 V M then some ⟨r.order, (meetV r.cube.1 r.cube.2 V M, meetM r.cube.2 M), r.action⟩ else none
def meetL (V M : List Int) (l : List RuleM) : List RuleM := l.filterMap (cutR V M)
def clipT (V M : List Int) (l : List RuleM) : List RuleM := trimT (meetL V M l)
theorem cutR_yes {V M : List Int} {r : RuleM} (h : meets r.cube.1 r.cube.2 V M = true) : cutR V M r = some ⟨r.order, (meetV r.cube.1 r.cube.2 V M, meetM r.cube.2 M), r.action⟩ := by unfold cutR; rw [if_pos h]
theorem cutR_no {V M : List Int} {r : RuleM} (h : meets r.cube.1 r.cube.2 V M = false) : cutR V M r = none := by unfold cutR; rw [h]; rfl
theorem meet_ok (V M V' M' : List Int) (n a : Int) : okR8 ⟨n, (meetV V M V' M', meetM M M'), a⟩ := by
  constructor
  · show Byt (meetV V M V' M')
    unfold meetV
    exact mk_byt _
  · show Byt (meetM M M')
    unfold meetM
    exact mk_byt _
theorem cutR_ok {V M : List Int} {r s : RuleM} (h : cutR V M r = some s) : okR8 s := by
  rcases Bool.eq_false_or_eq_true (meets r.cube.1 r.cube.2 V M) with hm | hm
  · rw [cutR_yes hm] at h
    obtain rfl := Option.some.inj h
    exact meet_ok _ _ _ _ _ _
  · rw [cutR_no hm] at h
    exact absurd h (by simp)
theorem meetL_ok {V M : List Int} {l : List RuleM} : ∀ r ∈ meetL V M l, okR8 r := fun r hr => by
  obtain ⟨a, _, h⟩ := List.mem_filterMap.1 hr
  exact cutR_ok h
theorem meetL_len (V M : List Int) (l : List RuleM) : (meetL V M l).length ≤ l.length := List.length_filterMap_le _ _
theorem meetL_take {V M : List Int} {l : List RuleM} {k : Nat} {r : RuleM} (h : l[k]? = some r) : meetL V M (l.take (k + 1)) = meetL V M (l.take k) ++ (cutR V M r).toList := by
  unfold meetL
  rw [List.take_add_one, h, List.filterMap_append]
  cases hc : cutR V M r <;> simp [hc]
theorem clipT_ok {V M : List Int} {l : List RuleM} : ∀ r ∈ clipT V M l, okR8 r := fun r hr => by
  rcases trimO_sub withinR _ _ r hr with h | h
  · simp at h
  · exact meetL_ok r h
theorem clipT_len (V M : List Int) (l : List RuleM) : (clipT V M l).length ≤ l.length := by
  have h1 := trimO_len withinR (meetL V M l) []
  have h2 := meetL_len V M l
  unfold clipT trimT
  simp at h1
  omega
theorem below_stepR {B : Nat} {w wr w' : World} (hb : Below B w wr) (hB : B ≤ wr.heap.size) (h : Below wr.heap.size wr w') : Below B w w' := hb.trans (h.mono hB)
theorem wl_gC12 {P : Program} {ops : Array Oper} {Q : Exit → Act → World → Prop} {o : Oper} {rest : List Oper} {a : Act} {w : World} (x : Operand) (_ : o.op = .load 30 x) (h : wpList P ops Q (o :: rest) a w) : wpList P ops Q (o :: rest) a w := h
theorem wl_gR12 {P : Program} {ops : Array Oper} {Q : Exit → Act → World → Prop} {o : Oper} {rest : List Oper} {a : Act} {w : World} (x : Operand) (_ : o.op = .load 37 x) (h : wpList P ops Q (o :: rest) a w) : wpList P ops Q (o :: rest) a w := h
theorem wl_gSC12 {P : Program} {ops : Array Oper} {Q : Exit → Act → World → Prop} {o : Oper} {rest : List Oper} {a : Act} {w : World} (x y : Operand) (_ : o.op = .store 30 x y) (h : wpList P ops Q (o :: rest) a w) : wpList P ops Q (o :: rest) a w := h
theorem wl_gSR12 {P : Program} {ops : Array Oper} {Q : Exit → Act → World → Prop} {o : Oper} {rest : List Oper} {a : Act} {w : World} (x y : Operand) (_ : o.op = .store 37 x y) (h : wpList P ops Q (o :: rest) a w) : wpList P ops Q (o :: rest) a w := h
theorem wl_gBS12 {P : Program} {ops : Array Oper} {Q : Exit → Act → World → Prop} {o : Oper} {rest : List Oper} {a : Act} {w : World} (x : Operand) (_ : o.op = .buildSlice 38 1 #[(0, x)]) (h : wpList P ops Q (o :: rest) a w) : wpList P ops Q (o :: rest) a w := h
theorem own_setRow12 {w : World} {B : Nat} {e : TypeId} {s : Nat} {v : Value} {n : Nat} {xs : List Value} {q : Nat} (h : w.ownsRow B e s v n xs) (hq : ∀ j, v.ownBlock = some j → j ≠ q) (cs : Array Value) : (w.setRow q cs).ownsRow B e s v n xs := by
  obtain ⟨h1, h2 | ⟨g, cap, cur, rfl, hB, hcur, h3⟩⟩ := h
  · exact ⟨h1, .inl h2⟩
  · exact ⟨h1, .inr ⟨g, cap, cur, rfl, hB, (setRow_other _ _ _ _ (hq g rfl)).trans hcur, h3⟩⟩
/-- A rule's cube is stored. -/
theorem storeCubR_run {w : World} {q : Nat} {r : RuleM} (hr : okR8 r) {V M : List Int} (hV : V.length = 13) (hM : M.length = 13) (hg : w.heap[q]? = some (.cells (ruleV r) 37 (0, 0))) :
    (Instr.storeAt 30 (.pointer (some ⟨q, 1, none⟩)) (.agg (cv V M))).run Try.prog w = .ok () (w.setRow q (ruleV ⟨r.order, (V, M), r.action⟩)) := by
  have hl : (cv V M).toList.length = 26 := by rw [Array.length_toList, cv_size _ _ hV hM]
  have hst := run_storeCells_at Try.prog q 1 37 (cv V M).toList 0 (ruleV r) w hg (by rw [hl, ruleV_size hr]; decide) (fun u hu => (Array.all_eq_true_iff_forall_mem.1 (cv_one _ _)) u (by simpa using hu))
  rw [Nat.add_zero, hl] at hst
  have hl2 : (cv r.cube.1 r.cube.2).toList.length = 26 := by rw [Array.length_toList, cv_size _ _ hr.1.1 hr.2.1]
  have hz : ∀ w, (sizeOf 30).run Try.prog w = .ok 26 w := fun w => by kernel_rfl
  have e : ((ruleV r).toList.take 1 ++ (cv V M).toList ++ (ruleV r).toList.drop (1 + 26)).toArray = ruleV ⟨r.order, (V, M), r.action⟩ := by
    apply Array.ext'
    unfold ruleV
    simp only [Array.toList_append]
    rw [List.take_append_of_le_length (by simp), List.append_assoc, List.drop_append, List.drop_of_length_le (by simp), List.nil_append]
    have e1 : (1 + 26 - #[Value.int .i64 r.order].toList.length) = 26 := rfl
    rw [e1, List.drop_append, List.drop_of_length_le (by omega), hl2]
    simp
  rw [e] at hst
  simp [Instr.storeAt, Instr.sureAddr, storeVar, Sem.run_bind, Value.cells, hst, hz, cv_size _ _ hV hM]
theorem wl_storeCubR {ops : Array Oper} {rest : List Oper} {o : Oper} {a : Act} {w : World} {Q : Exit → Act → World → Prop} (hgd : o.guard = none) (x y : Operand) (ho : o.op = .store 30 x y)
    (q : Nat) (r : RuleM) (hr : okR8 r) (V M : List Int) (hV : V.length = 13) (hM : M.length = 13) (hx : a.eval x = .pointer (some ⟨q, 1, none⟩)) (hy : a.eval y = .agg (cv V M)) (hg : w.heap[q]? = some (.cells (ruleV r) 37 (0, 0))) (w4 : World) (hw4 : w.setRow q (ruleV ⟨r.order, (V, M), r.action⟩) = w4)
    (h : wpList Try.prog ops Q rest (a.put o.dst undef) w4) : wpList Try.prog ops Q (o :: rest) a w := by
  subst hw4
  refine wpList_plain hgd fun K hK => ?_
  unfold Oper.wp execOp
  simp only [ho, hx, hy, Sem.run_bind, Sem.run_pure, Result.andThen_ok, storeCubR_run hr hV hM hg]
  exact hK _ _ h
theorem RulesAt.own {B : Nat} {w : World} {v : Value} {T : List RuleM} (hT : ∀ r ∈ T, okR8 r) (h : w.ownsRow B 37 28 v T.length (gcells ruleV T)) : RulesAt w v T := gsl_of (E := RuleE) h fun c hc => ruleV_size (hT c hc)
set_option maxHeartbeats 16000000 in
theorem clip_any (l : List RuleM) (hl0 : ∀ r ∈ l, okR8 r) (hn1 : l.length ≤ 100000) (vl : Value) (V M : List Int) (hV : Byt V) (hM : Byt M) (w : World) (hl : RulesAt w vl l) :
    Calls Try.prog 24 #[vl, .agg (cv V M)] w fun e w' => (∃ v, e = .returned v ∧ w'.ownsRow w.heap.size 37 28 v (clipT V M l).length (gcells ruleV (clipT V M l))) ∧ Below w.heap.size w w' := by
  have ME : Hid (∀ (r : RuleM) W, okR8 r → Calls Try.prog 27 #[.agg (cv r.cube.1 r.cube.2), .agg (cv V M)] W fun e w' => e = .returned (meetR r.cube.1 r.cube.2 V M) ∧ Below W.heap.size W w') := fun r W hr => meet_any r.cube.1 r.cube.2 V M hr.1 hr.2 hV hM W
  have TR : Hid (∀ (T : List RuleM) v W, (∀ r ∈ T, okR8 r) → T.length ≤ 100000 → RulesAt W v T → Calls Try.prog 28 #[v] W fun e w' => (∃ v, e = .returned v ∧ w'.ownsRow W.heap.size 37 28 v (trimT T).length (gcells ruleV (trimT T))) ∧ Below W.heap.size W w') := fun T v W h1 h2 h3 => trim_any T h1 h2 v W h3
  have hVl := hV.1
  have hMl := hM.1
  obtain ⟨o, cap, rfl, hc1, hc2⟩ := GSl.slice hl
  obtain ⟨n, hn0⟩ : ∃ n, n = l.length := ⟨_, rfl⟩
  have HN : Hid (n = l.length) := hn0
  rw [← hn0] at hl hc1 hn1 ⊢
  have HL : Hid (RulesAt w (.slice o n cap) l) := hl
  have HOK : Hid (∀ r ∈ l, okR8 r) := hl0
  unfold maxLen at hc2
  clear hl hn0 hl0 hV hM
  go_enter Try.func24, Try.ntmps24
  go_wp2_with fail
  go_loopw [5, 12] (fun v i wr => ∃ (k : Nat) (T : List RuleM), k ≤ n ∧ i = .int .i64 (k : Int) ∧ Hid (T = meetL V M (l.take k)) ∧ T.length ≤ k ∧ Hid (wr.ownsRow w.heap.size 37 28 v T.length (gcells ruleV T)) ∧ Hid (wr.heap[w.heap.size]? = some (.cells (cv V M) 30 (0, 0))) ∧ Hid (∀ j, v.ownBlock = some j → j ≠ w.heap.size) ∧ Hid (Below w.heap.size w wr)) (fun _ i _ => n - (intOf i).toNat)
  case atStart => exact ⟨0, [], Nat.zero_le _, rfl, rfl, Nat.le_refl _, World.ownsRow_nil _ _ _ _, heap_new _ _ _ rfl, fun j hj => (by cases hj), (Below.refl _ _).alloc (Nat.le_refl _) _⟩
  case round =>
    obtain ⟨k, T, hk, rfl, HT, hTk, HO, HC, HX, HB⟩ := hrel
    by_cases hlt : k < n
    · have hlt' : (k : Int) < (n : Int) := by omega
      obtain ⟨g, off, cur, ty, fr, r, rfl, hg, hc, hxk⟩ := (GSl.below HL.out HB.out).at k hlt
      have hr : okR8 r := HOK.out r (List.mem_of_getElem? hxk)
      have HR : Hid (okR8 r) := hr
      have hsz := ruleV_size hr
      have K1 : Hid (wr.heap[g]? = some (.cells cur ty fr)) := hg
      have H1 : Hid (∀ j, j < 28 → cur[off + k * 28 + j]? = (ruleV r)[j]?) := hc
      have HNX : Hid (meetL V M (l.take (k + 1)) = T ++ (cutR V M r).toList) := by show _ = _; rw [HT.out]; exact meetL_take hxk
      obtain ⟨w1, hw1⟩ : ∃ w1, w1 = wr.alloc (.cells (ruleV r) 37) := ⟨_, rfl⟩
      have B1 : Hid (Below wr.heap.size wr w1) := by show Below _ _ _; rw [hw1]; exact (Below.refl _ _).alloc (Nat.le_refl _) _
      have X1 : Hid (w1.heap[wr.heap.size]? = some (.cells (ruleV r) 37 (0, 0))) := by show _ = _; rw [hw1]; exact heap_new _ _ _ rfl
      have C1 : Hid (w1.heap[w.heap.size]? = some (.cells (cv V M) 30 (0, 0))) := (B1.out.block _ (Array.getElem?_eq_some_iff.1 HC.out).1).trans HC.out
      have hme := ME.out r w1 hr
      clear hg hc hxk hr
      go_wp2_with (first | ((with_reducible refine wl_gR12 _ rfl ?_); refine wl_loadE (E := RuleE) RuleOk rfl _ rfl g (off + k * 28) rfl cur ty fr (ruleV r) hsz K1.out H1.out ?_) | ((with_reducible refine wl_gSR12 _ _ rfl ?_); refine wl_storeE (E := RuleE) RuleOk rfl _ _ rfl wr.heap.size (ruleV r) (rule_fits HR.out) rfl rfl _ (heap_new _ _ _ rfl) rfl _ (setRow_new _ _ _ _ _ rfl) ?_; refine of_stopT ?_))
      unfold StopT
      rw [← hw1]
      clear hw1
      obtain ⟨q, hq⟩ : ∃ q, q = wr.heap.size := ⟨_, rfl⟩
      rw [← hq] at X1
      rw [← hq]
      have NQ : Hid (w.heap.size < q) := by show _ < _; rw [hq]; exact (Array.getElem?_eq_some_iff.1 HC.out).1
      have OQ : Hid (∀ j, u5.ownBlock = some j → j < q) := fun j hj => by rw [hq]; exact (World.ownsRow.lt HO.out j hj).2
      clear hq
      go_wp2_with (first | ((with_reducible refine wl_gC12 _ rfl ?_); (first | refine wl_loadCw rfl _ rfl q 1 rfl _ _ _ r.cube.1 r.cube.2 HR.out.1.1 HR.out.2.1 X1.out (rule_at HR.out).2.1 ?_ | refine wl_loadCw rfl _ rfl w.heap.size 0 rfl _ _ _ V M hVl hMl C1.out (own_cells _ _) ?_)) | (go_at_call 27; refine hme.mono ?_; rintro e w2 ⟨rfl, hb2⟩; refine of_stopT ?_))
      unfold StopT
      have BR2 : Hid (Below wr.heap.size wr w2) := below_stepR B1.out B1.out.size hb2
      have X2 : Hid (w2.heap[q]? = some (.cells (ruleV r) 37 (0, 0))) := (hb2.block _ (Array.getElem?_eq_some_iff.1 X1.out).1).trans X1.out
      clear hb2 hme
      rcases Bool.eq_false_or_eq_true (meets r.cube.1 r.cube.2 V M) with hm | hm
      · have ECU : Hid (cutR V M r = some ⟨r.order, (meetV r.cube.1 r.cube.2 V M, meetM r.cube.2 M), r.action⟩) := cutR_yes hm
        rw [meetR_yes _ _ _ _ hm]
        have hok := meet_ok r.cube.1 r.cube.2 V M r.order r.action
        obtain ⟨V2, hV2⟩ : ∃ V2, V2 = meetV r.cube.1 r.cube.2 V M := ⟨_, rfl⟩
        obtain ⟨M2, hM2⟩ : ∃ M2, M2 = meetM r.cube.2 M := ⟨_, rfl⟩
        rw [← hV2, ← hM2] at ECU hok
        rw [← hV2, ← hM2]
        have HOK2 : Hid (okR8 ⟨r.order, (V2, M2), r.action⟩) := hok
        have lv : V2.length = 13 := hok.1.1
        have lm : M2.length = 13 := hok.2.1
        clear hV2 hM2 hm hok
        obtain ⟨w3, hw3⟩ : ∃ w3, w3 = w2.alloc (.cells (cv V2 M2) 30) := ⟨_, rfl⟩
        have B3 : Hid (Below w2.heap.size w2 w3) := by show Below _ _ _; rw [hw3]; exact (Below.refl _ _).alloc (Nat.le_refl _) _
        have Y3 : Hid (w3.heap[w2.heap.size]? = some (.cells (cv V2 M2) 30 (0, 0))) := by show _ = _; rw [hw3]; exact heap_new _ _ _ rfl
        have X3 : Hid (w3.heap[q]? = some (.cells (ruleV r) 37 (0, 0))) := (B3.out.block _ (Array.getElem?_eq_some_iff.1 X2.out).1).trans X2.out
        go_wp2_with (first | ((with_reducible refine wl_gSC12 _ _ rfl ?_); refine wl_storeC rfl _ _ rfl w2.heap.size V2 M2 rfl rfl _ (heap_new _ _ _ rfl) rfl lv lm _ (setRow_new _ _ _ _ _ rfl) ?_; refine of_stopT ?_))
        unfold StopT
        rw [← hw3]
        clear hw3
        obtain ⟨w4, hw4⟩ : ∃ w4, w3.setRow q (ruleV ⟨r.order, (V2, M2), r.action⟩) = w4 := ⟨_, rfl⟩
        have X4 : Hid (w4.heap[q]? = some (.cells (ruleV ⟨r.order, (V2, M2), r.action⟩) 37 (0, 0))) := by show _ = _; rw [← hw4]; exact setRow_heap _ _ _ _ _ _ X3.out
        have BR3 : Hid (Below wr.heap.size wr w3) := below_stepR BR2.out BR2.out.size B3.out
        have HW4 : Hid (_ = w4) := hw4
        have BW4 : Hid (Below w.heap.size w w4) := by show Below _ _ _; rw [← hw4]; exact below_setRow (below_stepR HB.out HB.out.size BR3.out) (Nat.le_of_lt NQ.out) _
        have C4 : Hid (w4.heap[w.heap.size]? = some (.cells (cv V M) 30 (0, 0))) := by show _ = _; rw [← hw4]; exact (setRow_other _ _ _ _ (by have := NQ.out; omega)).trans ((BR3.out.block _ (Array.getElem?_eq_some_iff.1 HC.out).1).trans HC.out)
        have O4 : Hid (w4.ownsRow w.heap.size 37 28 u5 T.length (gcells ruleV T)) := by
          show World.ownsRow _ _ _ _ _ _ _
          have h1 := gown_below HO.out BR3.out
          rw [← hw4]
          exact own_setRow12 h1 (fun j hj => by have := OQ.out j hj; omega) _
        clear hw4
        obtain ⟨r2, hr2⟩ : ∃ r2 : RuleM, r2 = ⟨r.order, (V2, M2), r.action⟩ := ⟨_, rfl⟩
        rw [← hr2] at X4 ECU HOK2
        have hs2 := ruleV_size HOK2.out
        have HW4' : Hid (w3.setRow q (ruleV ⟨r.order, (V2, M2), r.action⟩) = w4) := HW4.out
        clear hr2 HW4
        have O5 : Hid ((w4.alloc (.cells (ruleV r2) 37)).ownsRow w.heap.size 37 28 u5 T.length (gcells ruleV T)) := O4.out.alloc _
        have BW5 : Hid (Below w.heap.size w (w4.alloc (.cells (ruleV r2) 37))) := BW4.out.alloc BW4.out.size _
        go_wp2_with (first | ((with_reducible refine wl_gC12 _ rfl ?_); refine wl_loadCw rfl _ rfl w2.heap.size 0 rfl _ _ _ V2 M2 lv lm Y3.out (own_cells _ _) ?_) | ((with_reducible refine wl_gSC12 _ _ rfl ?_); refine wl_storeCubR rfl _ _ rfl q r HR.out V2 M2 lv lm rfl rfl X3.out w4 HW4'.out ?_) | ((with_reducible refine wl_gR12 _ rfl ?_); refine wl_loadE (E := RuleE) RuleOk rfl _ rfl q 0 rfl _ _ _ (ruleV r2) hs2 X4.out (own_cells _ _) ?_) | ((with_reducible refine wl_gBS12 _ rfl ?_); refine wl_buildE (E := RuleE) RuleOk rfl _ rfl (ruleV r2) hs2 rfl ?_) | (at_builtin; refine of_stopT ?_))
        unfold StopT
        refine wl_appendE (E := RuleE) RuleOk ruleV rfl _ _ rfl w.heap.size u5 T r2 (rule_fits HOK2.out) rfl O5.out w4.heap.size 1 rfl (heap_new _ _ _ rfl) (by omega) (by have := BW4.out.size; simp; omega) ?_
        intro v' w6 hown6 hgr6 hat6
        have B6 : Hid (Below w.heap.size w w6) := BW5.out.trans ((Below.refl _ _).grown hgr6 BW5.out.size fun k hk => (O5.out.lt k hk).1)
        have O6 : Hid (w6.ownsRow w.heap.size 37 28 v' (T ++ [r2]).length (gcells ruleV (T ++ [r2]))) := hown6
        have C6 : Hid (w6.heap[w.heap.size]? = some (.cells (cv V M) 30 (0, 0))) := by
          have h1 := heap_past w4 (.cells (ruleV r2) 37) _ _ C4.out
          have h2 := (Array.getElem?_eq_some_iff.1 h1).1
          exact (hgr6.block _ h2 (fun e => HX.out _ e.symm rfl)).trans h1
        have X6 : Hid (∀ j, v'.ownBlock = some j → j ≠ w.heap.size) := by
          intro j hj
          rcases hat6 with e | e
          · rw [e] at hj; exact HX.out j hj
          · rw [e] at hj
            simp only [Option.some.injEq] at hj
            have h3 := BW5.out.size
            have h4 := (Array.getElem?_eq_some_iff.1 C4.out).1
            simp at hj
            omega
        have HT6 : Hid (T ++ [r2] = meetL V M (l.take (k + 1))) := by show _ = _; rw [HNX.out, ECU.out]; rfl
        clear hown6 hgr6 hat6
        simp only [Act.put, List.setIfInBounds_toArray, List.set_cons_succ, List.set_cons_zero]
        go_wp2_with fail
        go_roundw
        case rel => exact ⟨k + 1, T ++ [r2], by omega, by go_num, HT6, by simp; omega, O6, C6, X6, B6⟩
        case measure => simp [intOf]; omega
      · have ECU : Hid (cutR V M r = none) := cutR_no hm
        rw [meetR_no _ _ _ _ hm]
        clear hm
        have BW2 : Hid (Below w.heap.size w w2) := below_stepR HB.out HB.out.size BR2.out
        have C2 : Hid (w2.heap[w.heap.size]? = some (.cells (cv V M) 30 (0, 0))) := (BR2.out.block _ (Array.getElem?_eq_some_iff.1 HC.out).1).trans HC.out
        have O2 : Hid (w2.ownsRow w.heap.size 37 28 u5 T.length (gcells ruleV T)) := gown_below HO.out BR2.out
        have HT2 : Hid (T = meetL V M (l.take (k + 1))) := by show _ = _; rw [HNX.out, ECU.out]; simp
        go_wp2_with (first | ((with_reducible refine wl_gSC12 _ _ rfl ?_); refine wl_storeC rfl _ _ rfl w2.heap.size Z Z rfl rfl _ (heap_new _ _ _ rfl) rfl Z_byt.1 Z_byt.1 _ (setRow_new _ _ _ _ _ rfl) ?_))
        go_roundw
        case rel => exact ⟨k + 1, T, by omega, by go_num, HT2, by omega, O2.out.alloc _, heap_past _ _ _ _ C2.out, HX, BW2.out.alloc BW2.out.size _⟩
        case measure => simp [intOf]; omega
    · have hlt' : ¬ (k : Int) < (n : Int) := by omega
      have HE : Hid (T = meetL V M l) := by
        have e := HN.out
        show _ = _
        rw [HT.out, List.take_of_length_le (by omega)]
      have OKT : Hid (∀ r ∈ T, okR8 r) := by intro r hr; rw [HE.out] at hr; exact meetL_ok r hr
      have htr := TR.out T u5 wr OKT.out (by omega) (RulesAt.own OKT.out HO.out)
      go_wp2_with (go_at_call 28; refine htr.mono ?_; rintro e w2 ⟨⟨v2, rfl, hv2⟩, hb2⟩; refine of_stopT ?_)
      unfold StopT
      have O2 : Hid (w2.ownsRow wr.heap.size 37 28 v2 (trimT T).length (gcells ruleV (trimT T))) := hv2
      have B2 : Hid (Below w.heap.size w w2) := below_stepR HB.out HB.out.size hb2
      have SZ : Hid (w.heap.size ≤ wr.heap.size) := HB.out.size
      clear hv2 hb2 htr
      go_wp2_with fail
      go_ret
      refine ⟨⟨_, rfl, ?_⟩, B2.out⟩
      have h9 := gown_base O2.out SZ.out
      rw [HE.out] at h9
      exact h9
end Go.Proofs.Ytbhnjhiecoapbab
