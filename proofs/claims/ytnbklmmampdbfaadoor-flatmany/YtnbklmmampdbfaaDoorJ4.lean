import Derived.Test.YtnbklmmampdbfaaDoorJ1
import Derived.Test.YtnbklmmampdbfaaDoorJ3
import Derived.Laws.AppendOwnNone
import Derived.Laws.ResultCell
import Derived.LaidMore
import Derived.Lib.OthersKept
import Derived.Lib.LaidTab
import Derived.Lib.ItoaNum
import Derived.WalkMore
import Derived.Test.YtnbklmmampdbfaaDoorJ2
namespace Go.Proofs.YtnbklmmampdbfaaDoor
open Go Go.RowKit
set_option maxRecDepth 20000

/-- How many numbers a piece of so many bits has. -/
def sz (b : Nat) : Nat := 2 ^ (16 - b)
theorem sz_pos (b : Nat) : 0 < sz b := Nat.pow_pos (by decide)
theorem sz_le (b : Nat) : sz b ≤ 65536 := by
  unfold sz
  exact Nat.le_trans (Nat.pow_le_pow_right (by decide) (Nat.sub_le 16 b)) (by decide)
theorem sz_half (b : Nat) (h : b < 16) : sz b = 2 * sz (b + 1) := by
  unfold sz
  rw [show 16 - b = (16 - (b + 1)) + 1 by omega, Nat.pow_succ]; omega
theorem sz_16 : sz 16 = 1 := rfl
theorem sz_0 : sz 0 = 65536 := rfl

/-- A piece of so many bits begins at n and has no number beyond h. -/
def okP (n h b : Nat) : Bool := n % sz b == 0 && decide (n + sz b ≤ h + 1)
theorem okP_iff (n h b : Nat) : okP n h b = true ↔ n % sz b = 0 ∧ n + sz b ≤ h + 1 := by simp [okP]
theorem okP_16 (n h : Nat) (hn : n ≤ h) : okP n h 16 = true := by rw [okP_iff, sz_16]; omega

/-- The fewest bits. -/
def gr (n h : Nat) : Nat := ((List.range 17).find? (okP n h)).getD 16
def IsGr (n h b : Nat) : Prop := b ≤ 16 ∧ okP n h b = true ∧ ∀ c, c < b → okP n h c = false
theorem IsGr.eq {n h b c : Nat} (h1 : IsGr n h b) (h2 : IsGr n h c) : b = c := by
  rcases Nat.lt_trichotomy b c with h3 | h3 | h3
  · exact absurd h1.2.1 (by rw [h2.2.2 b h3]; decide)
  · exact h3
  · exact absurd h2.2.1 (by rw [h1.2.2 c h3]; decide)
theorem gr_is (n h : Nat) (hn : n ≤ h) : IsGr n h (gr n h) := by
  unfold gr
  cases e : (List.range 17).find? (okP n h) with
  | none =>
    rw [List.find?_eq_none] at e
    exact absurd (okP_16 n h hn) (e 16 (by simp))
  | some b =>
    rw [List.find?_range_eq_some] at e
    obtain ⟨h1, h2, h3⟩ := e
    refine ⟨by simp at h2; simp; omega, h1, fun c hc => by simpa using h3 c hc⟩
theorem gr_eq {n h b : Nat} (hn : n ≤ h) (hb : IsGr n h b) : gr n h = b := (gr_is n h hn).eq hb

/-- The pieces from n on, up to h, so many at most. -/
def rngF (h : Nat) : Nat → Nat → List (Nat × Nat)
  | 0, _ => []
  | f + 1, n => if n ≤ h then (n, gr n h) :: rngF h f (n + sz (gr n h)) else []
/-- The pieces from n on, up to h. -/
def rng (h n : Nat) : List (Nat × Nat) := rngF h (h + 1 - n) n
theorem rngF_more (h : Nat) : ∀ f g n, h + 1 - n ≤ f → h + 1 - n ≤ g → rngF h f n = rngF h g n
  | 0, 0, _, _, _ => rfl
  | 0, g + 1, n, hf, _ => by rw [rngF, rngF, if_neg (by omega)]
  | f + 1, 0, n, _, hg => by rw [rngF, rngF, if_neg (by omega)]
  | f + 1, g + 1, n, hf, hg => by
    rw [rngF, rngF]
    by_cases hn : n ≤ h
    · have := sz_pos (gr n h)
      rw [if_pos hn, if_pos hn, rngF_more h f g (n + sz (gr n h)) (by omega) (by omega)]
    · rw [if_neg hn, if_neg hn]
theorem rng_cons {h n : Nat} (hn : n ≤ h) : rng h n = (n, gr n h) :: rng h (n + sz (gr n h)) := by
  have := sz_pos (gr n h)
  unfold rng
  rw [show h + 1 - n = (h - n) + 1 by omega, rngF, if_pos hn, rngF_more h (h - n) (h + 1 - (n + sz (gr n h))) (n + sz (gr n h)) (by omega) (by omega)]
theorem rng_nil {h n : Nat} (hn : h < n) : rng h n = [] := by
  unfold rng
  rw [show h + 1 - n = 0 by omega, rngF]
theorem rng_next {h n : Nat} (hn : n ≤ h) : n < n + sz (gr n h) ∧ n + sz (gr n h) ≤ h + 1 := by
  have := sz_pos (gr n h)
  have := ((okP_iff _ _ _).1 (gr_is n h hn).2.1).2
  omega

theorem rng_induct (h : Nat) (P : Nat → Prop) (h0 : ∀ n, h < n → P n) (h1 : ∀ n, n ≤ h → P (n + sz (gr n h)) → P n) : ∀ n, P n := by
  have key : ∀ d n, h + 1 - n ≤ d → P n := by
    intro d
    induction d with
    | zero => intro n hn; exact h0 n (by omega)
    | succ d ih =>
      intro n hn
      by_cases hl : n ≤ h
      · exact h1 n hl (ih _ (by have := rng_next hl; omega))
      · exact h0 n (by omega)
  exact fun n => key _ n (Nat.le_refl _)

theorem rng_mem (h : Nat) (n : Nat) : ∀ p ∈ rng h n, n ≤ p.1 ∧ p.1 ≤ h ∧ p.2 = gr p.1 h := by
  refine rng_induct h (fun n => ∀ p ∈ rng h n, n ≤ p.1 ∧ p.1 ≤ h ∧ p.2 = gr p.1 h) (fun n hn => by rw [rng_nil hn]; simp) (fun n hn ih => ?_) n
  rw [rng_cons hn]
  intro p hp
  rcases List.mem_cons.1 hp with rfl | hp
  · exact ⟨Nat.le_refl _, hn, rfl⟩
  · have := ih p hp
    have := rng_next hn
    omega
theorem rng_bits {h n : Nat} {p : Nat × Nat} (hp : p ∈ rng h n) : p.2 ≤ 16 := by
  obtain ⟨_, h2, h3⟩ := rng_mem h n p hp
  rw [h3]; exact (gr_is _ _ h2).1

/-- Has a piece a number? -/
def inP (p : Nat × Nat) (x : Nat) : Bool := decide (p.1 ≤ x) && decide (x < p.1 + sz p.2)
theorem cnt_rng (h x : Nat) : ∀ n, ((rng h n).filter fun p => inP p x).length = if n ≤ x ∧ x ≤ h then 1 else 0 := by
  refine rng_induct h _ (fun n hn => ?_) (fun n hn ih => ?_)
  · rw [rng_nil hn, if_neg (by omega)]; rfl
  · have hx := rng_next hn
    rw [rng_cons hn, List.filter_cons]
    by_cases c : n ≤ x ∧ x < n + sz (gr n h)
    · rw [if_pos (by simp [inP, c]), List.length_cons, ih, if_neg (by omega), if_pos (by omega)]
    · rw [if_neg (by simp only [inP, Bool.and_eq_true, decide_eq_true_eq]; exact c), ih]
      by_cases d : n + sz (gr n h) ≤ x ∧ x ≤ h
      · rw [if_pos d, if_pos (by omega)]
      · rw [if_neg d, if_neg (by omega)]

/-- Neighbours rise, and are no two halves of one piece. -/
theorem rng_near (h : Nat) : ∀ n, ∀ k a b, (rng h n)[k]? = some a → (rng h n)[k + 1]? = some b → b.1 = a.1 + sz a.2 ∧ ¬ (a.2 = b.2 ∧ 0 < a.2 ∧ a.1 / sz a.2 % 2 = 0) := by
  refine rng_induct h _ (fun n hn => ?_) (fun n hn ih => ?_)
  · rw [rng_nil hn]; intro k a b ha; simp at ha
  · intro k a b ha hb
    rw [rng_cons hn] at ha hb
    cases k with
    | succ k => exact ih k a b (by simpa using ha) (by simpa using hb)
    | zero =>
      obtain rfl : a = (n, gr n h) := by simpa using ha.symm
      rw [List.getElem?_cons_succ] at hb
      by_cases hl : n + sz (gr n h) ≤ h
      · rw [rng_cons hl] at hb
        obtain rfl : b = (n + sz (gr n h), gr (n + sz (gr n h)) h) := by simpa using hb.symm
        refine ⟨rfl, ?_⟩
        rintro ⟨e1, e2, e3⟩
        have g1 := gr_is n h hn
        have g2 := ((okP_iff _ _ _).1 (gr_is _ h hl).2.1).2
        have g0 := ((okP_iff _ _ _).1 g1.2.1).1
        simp only at e1 e2 e3
        rw [← e1] at g2
        have no := g1.2.2 (gr n h - 1) (by omega)
        have hs : sz (gr n h - 1) = 2 * sz (gr n h) := by
          have := sz_half (gr n h - 1) (by have := g1.1; omega)
          rwa [show gr n h - 1 + 1 = gr n h by omega] at this
        have yes : okP n h (gr n h - 1) = true := by
          rw [okP_iff, hs]
          refine ⟨?_, by omega⟩
          have h1 := Nat.div_add_mod n (sz (gr n h))
          rw [g0] at h1
          have h2 : n / sz (gr n h) = 2 * (n / sz (gr n h) / 2) := by omega
          have h3 : n = 2 * sz (gr n h) * (n / sz (gr n h) / 2) := by
            rw [Nat.mul_comm 2 (sz _), Nat.mul_assoc, ← h2]; omega
          exact Nat.mod_eq_zero_of_dvd ⟨_, h3⟩
        rw [yes] at no
        exact absurd no (by decide)
      · rw [rng_nil (by omega)] at hb; simp at hb

/-- The down-going half: so many pieces at most. -/
theorem rng_down (h : Nat) : ∀ k n, k ≤ 16 → n % 2 ^ k = 0 → h + 1 < n + 2 ^ k → (rng h n).length ≤ k
  | 0, n, _, _, hr => by rw [rng_nil (by simpa using hr)]; exact Nat.le_refl _
  | k + 1, n, hk, hd, hr => by
    have e1 : 2 ^ (k + 1) = 2 * 2 ^ k := by rw [Nat.pow_succ]; omega
    have hdk : n % 2 ^ k = 0 := by
      rw [e1] at hd
      have := Nat.div_add_mod n (2 * 2 ^ k)
      rw [hd] at this
      rw [← this, Nat.add_zero, Nat.mul_comm 2, Nat.mul_assoc]
      exact Nat.mul_mod_right _ _
    by_cases hs : h + 1 < n + 2 ^ k
    · exact Nat.le_succ_of_le (rng_down h k n (by omega) hdk hs)
    · have hp : 0 < 2 ^ k := Nat.pow_pos (by decide)
      have hn : n ≤ h := by omega
      have hg : gr n h = 16 - k := by
        refine gr_eq hn ⟨by omega, ?_, fun c hc => ?_⟩
        · rw [okP_iff, sz, show 16 - (16 - k) = k by omega]; exact ⟨hdk, by omega⟩
        · cases e : okP n h c with
          | false => rfl
          | true =>
            have h2 := ((okP_iff _ _ _).1 e).2
            have : 2 ^ (k + 1) ≤ sz c := Nat.pow_le_pow_right (by decide) (by omega)
            omega
      have hz : sz (gr n h) = 2 ^ k := by rw [hg, sz, show 16 - (16 - k) = k by omega]
      rw [rng_cons hn, List.length_cons, hz]
      have := rng_down h k (n + 2 ^ k) (by omega) (by rw [Nat.add_mod_right]; exact hdk) (by omega)
      omega

/-- The up-going half. -/
theorem rng_up (h : Nat) (hh : h ≤ 65535) : ∀ d n, d ≤ 15 → 0 < n → n ≤ 65536 → n % 2 ^ (15 - d) = 0 → (rng h n).length ≤ 15 + d
  | 0, n, _, h0, h1, hd => by
    have hd' : n % 32768 = 0 := hd
    rcases (show n = 32768 ∨ n = 65536 by omega) with rfl | rfl
    · by_cases hr : h + 1 < 32768 + 32768
      · exact rng_down h 15 32768 (by decide) (by decide) hr
      · obtain rfl : h = 65535 := by omega
        have hg : gr 32768 65535 = 1 := by decide
        rw [rng_cons (by decide), hg, rng_nil (by decide)]
        decide
    · rw [rng_nil (by omega)]; exact Nat.zero_le _
  | d + 1, n, hd1, h0, h1, hd => by
    obtain ⟨j, hj⟩ : ∃ j, j = 15 - (d + 1) := ⟨_, rfl⟩
    have hj1 : 15 - d = j + 1 := by omega
    rw [← hj] at hd
    have e1 : 2 ^ (j + 1) = 2 * 2 ^ j := by rw [Nat.pow_succ]; omega
    have hp : 0 < 2 ^ j := Nat.pow_pos (by decide)
    by_cases he : n % 2 ^ (j + 1) = 0
    · exact Nat.le_succ_of_le (rng_up h hh d n (by omega) h0 h1 (by rw [hj1]; exact he))
    · by_cases hr : h + 1 < n + 2 ^ j
      · have := rng_down h j n (by omega) hd hr
        omega
      · have hn : n ≤ h := by omega
        have hg : gr n h = 16 - j := by
          refine gr_eq hn ⟨by omega, ?_, fun c hc => ?_⟩
          · rw [okP_iff, sz, show 16 - (16 - j) = j by omega]; exact ⟨hd, by omega⟩
          · cases e : okP n h c with
            | false => rfl
            | true =>
              have h2 := ((okP_iff _ _ _).1 e).1
              refine absurd ?_ he
              have : 2 ^ (j + 1) ∣ sz c := Nat.pow_dvd_pow 2 (by omega)
              exact Nat.mod_eq_zero_of_dvd (Nat.dvd_trans this (Nat.dvd_of_mod_eq_zero h2))
        have hz : sz (gr n h) = 2 ^ j := by rw [hg, sz, show 16 - (16 - j) = j by omega]
        rw [rng_cons hn, List.length_cons, hz]
        have hm : (n + 2 ^ j) % 2 ^ (j + 1) = 0 := by
          rw [e1] at he ⊢
          have h2 := Nat.div_add_mod n (2 ^ j)
          rw [hd] at h2
          have h3 : ¬ (n / 2 ^ j) % 2 = 0 := fun h4 => he (by
            have h5 : n / 2 ^ j = 2 * (n / 2 ^ j / 2) := by omega
            have h6 : n = 2 * 2 ^ j * (n / 2 ^ j / 2) := by
              rw [Nat.mul_comm 2 (2 ^ j), Nat.mul_assoc, ← h5]; omega
            rw [h6]; exact Nat.mul_mod_right _ _)
          have h5 : n / 2 ^ j + 1 = 2 * ((n / 2 ^ j + 1) / 2) := by omega
          have h6 : n + 2 ^ j = 2 * 2 ^ j * ((n / 2 ^ j + 1) / 2) := by
            rw [Nat.mul_comm 2 (2 ^ j), Nat.mul_assoc, ← h5, Nat.mul_add]; omega
          rw [h6]; exact Nat.mul_mod_right _ _
        have := rng_up h hh d (n + 2 ^ j) (by omega) (by omega) (by omega) (by rw [hj1]; exact hm)
        omega

theorem rng_few (h n : Nat) (hh : h ≤ 65535) (hn : n ≤ 65536) : (rng h n).length ≤ 30 := by
  by_cases h0 : n = 0
  · subst h0
    by_cases hr : h + 1 < 0 + 2 ^ 16
    · have := rng_down h 16 0 (by decide) (by decide) hr
      omega
    · obtain rfl : h = 65535 := by omega
      have hg : gr 0 65535 = 0 := by decide
      rw [rng_cons (by decide), hg, rng_nil (by decide)]
      decide
  · exact rng_up h hh 15 n (by decide) (by omega) hn (by rw [show 15 - 15 = 0 from rfl, Nat.pow_zero]; exact Nat.mod_one n)

theorem rng_16 : rng 6 1 = [(1, 16), (2, 15), (4, 15), (6, 16)] := by
  rw [rng_cons (by decide), show gr 1 6 = 16 by decide, show 1 + sz 16 = 2 by decide, rng_cons (by decide), show gr 2 6 = 15 by decide, show 2 + sz 15 = 4 by decide, rng_cons (by decide), show gr 4 6 = 15 by decide, show 4 + sz 15 = 6 by decide, rng_cons (by decide), show gr 6 6 = 16 by decide, show 6 + sz 16 = 7 by decide, rng_nil (by decide)]
end Go.Proofs.YtnbklmmampdbfaaDoor
namespace Go.Proofs.YtnbklmmampdbfaaDoor
open Go Go.RowKit
set_option maxRecDepth 20000

/-- The cells of a piece. -/
abbrev pv (n b : Int) : Array Value := #[.int .i64 n, .int .i64 b]

set_option maxHeartbeats 1000000 in
theorem size_any (n : Int) (b : Nat) (hb : b ≤ 16) (w : World) :
    Calls Tryd.prog 90 #[.agg (pv n (b : Int))] w fun e w' => e = .returned (.int .i64 ((sz b : Nat) : Int)) ∧ Below w.heap.size w w' := by
  have h : b = 0 ∨ b = 1 ∨ b = 2 ∨ b = 3 ∨ b = 4 ∨ b = 5 ∨ b = 6 ∨ b = 7 ∨ b = 8 ∨ b = 9 ∨ b = 10 ∨ b = 11 ∨ b = 12 ∨ b = 13 ∨ b = 14 ∨ b = 15 ∨ b = 16 := by omega
  clear hb
  rcases h with h | h | h | h | h | h | h | h | h | h | h | h | h | h | h | h | h
  all_goals
    subst h
    go_enter Tryd.func90, Tryd.ntmps90
    go_wp2
    go_ret
    exact ⟨rfl, (Below.refl _ _).alloc (Nat.le_refl _) _⟩

theorem infoP : ∃ i, Tryd.prog.info? 137 = some i ∧ i.zero = some (.agg (pv 0 0)) ∧ i.size = 2 ∧ i.bytes = 16 := by
  cases h : Tryd.prog.info? 137 with
  | none => exact absurd (show (Tryd.prog.info? 137).isSome = true by kernel_rfl) (by rw [h]; simp)
  | some i =>
    have h1 : (Tryd.prog.info? 137).map (fun i => (i.zero, i.size, i.bytes)) = some (some (.agg (pv 0 0)), 2, 16) := by kernel_rfl
    rw [h] at h1
    simp only [Option.map_some, Option.some.injEq, Prod.mk.injEq] at h1
    exact ⟨i, rfl, h1.1, h1.2.1, h1.2.2⟩
theorem sizeP (n b : Int) : (Tryd.prog.info? 137).map (·.size) = some (pv n b).size := by kernel_rfl
theorem oneP (n b : Int) : (pv n b).all (·.oneCell') = true := by simp [pv, Value.oneCell']

/-- A piece that lies within a block, from a place on. -/
theorem load_piece (w : World) (g off : Nat) (cs : Array Value) (t : TypeId) (fr : Nat × Nat) (n b : Int) (hg : w.heap[g]? = some (.cells cs t fr)) (hc : ∀ j, j < 2 → cs[off + j]? = (pv n b)[j]?) :
    (loadVar 137 ⟨g, off, none⟩).run Tryd.prog w = .ok (.agg (pv n b)) w := by
  have hl : (loadCells ⟨g, off, none⟩ (pv n b).toList.length).run Tryd.prog w = .ok (pv n b).toList.toArray w :=
    run_loadCells_list (P := Tryd.prog) w ⟨g, off, none⟩ (pv n b).toList (fun j v hv => by
      have hadd : (⟨g, off, none⟩ : Addr).add j = ⟨g, off + j, none⟩ := by unfold Addr.add; split <;> simp_all
      have hj : j < 2 := by
        have := (List.getElem?_eq_some_iff.1 hv).1
        simpa using this
      rw [hadd, cell_of_row w g (off + j) cs t fr hg, hc j hj]
      simpa using hv)
  obtain ⟨i, hq, _, hs, _⟩ := infoP
  have hagg : (isAgg 137).run Tryd.prog w = .ok true w := by
    unfold isAgg
    rw [Sem.run_bind, run_underlying Tryd.underlying137 w]
    rfl
  rw [Array.length_toList, Array.toArray_toList] at hl
  have hl' : (loadCells ⟨g, off, none⟩ 2).run Tryd.prog w = .ok (pv n b) w := hl
  simp [loadVar, Sem.run_bind, hagg, sizeOf, typeInfo, hq, hs, hl']
theorem wl_loadP {ops : Array Oper} {rest : List Oper} {o : Oper} {a : Act} {w : World} {Q : Exit → Act → World → Prop} (hw : Region.wanted o (yielded ops a.tmps) = true) (x : Operand) (ho : o.op = .load 137 x)
    (g off : Nat) (hx : a.eval x = .pointer (some ⟨g, off, none⟩)) (cs : Array Value) (t : TypeId) (fr : Nat × Nat) (n b : Int) (hg : w.heap[g]? = some (.cells cs t fr)) (hc : ∀ j, j < 2 → cs[off + j]? = (pv n b)[j]?)
    (h : wpList Tryd.prog ops Q rest (a.put o.dst (.agg (pv n b))) w) : wpList Tryd.prog ops Q (o :: rest) a w := by
  refine wpList_step fun K hK => ?_
  rw [if_pos hw]
  unfold Oper.wp execOp
  simp only [ho, hx, Instr.loadAt, Instr.sureAddr, Sem.run_bind, Sem.run_pure, Result.andThen_ok, load_piece w g off cs t fr n b hg hc]
  exact hK _ _ h
theorem own_piece (n b : Int) : ∀ j, j < 2 → (pv n b)[0 + j]? = (pv n b)[j]? := fun j _ => by rw [Nat.zero_add]
/-- A whole piece is stored into a block that holds one. -/
theorem wl_storeP {ops : Array Oper} {rest : List Oper} {o : Oper} {a : Act} {w : World} {Q : Exit → Act → World → Prop} (hgd : o.guard = none) (x y : Operand) (ho : o.op = .store 137 x y)
    (g : Nat) (n b : Int) (hx : a.eval x = .pointer (some ⟨g, 0, none⟩)) (hy : a.eval y = .agg (pv n b)) (n0 b0 : Int) (hg : w.heap[g]? = some (.cells (pv n0 b0) 137 (0, 0)))
    (w' : World) (hw' : w.setRow g (pv n b) = w')
    (h : wpList Tryd.prog ops Q rest (a.put o.dst undef) w') : wpList Tryd.prog ops Q (o :: rest) a w :=
  wpList_store_row hgd 137 x y ho g (pv n b) hx hy 137 (pv n0 b0) hg (sizeP n b) rfl (oneP n b) (by rw [hw']; exact h)
/-- The end of a function whose one result is a piece in memory. -/
theorem retP {fn : Func} {R : Ending → World → Prop} {a : Act} {w : World} {p : Tmp} (hr : fn.results = #[.cell p 137]) (hd : a.defers = []) (g : Nat) (hp : a.tmps.getD p undef = .pointer (some ⟨g, 0, none⟩)) (n b : Int)
    (hg : w.heap[g]? = some (.cells (pv n b) 137 (0, 0))) (h : R (.returned (.agg (pv n b))) w) : bodyPost Tryd.prog fn R .ret a w :=
  bodyPost_ret (v := .agg (pv n b)) (results_cell_row hr _ _ g 137 (pv n b) (0, 0) _ hp hg Tryd.underlying137 rfl (sizeP n b)) hd h

theorem setCell_row {w : World} {g k : Nat} {cs : Array Value} {t : TypeId} {fr : Nat × Nat} (h : w.heap[g]? = some (.cells cs t fr)) (v : Value) : (w.setCell ⟨g, k, none⟩ v).heap[g]? = some (.cells (cs.setIfInBounds k v) t fr) := by
  simp [World.setCell, Array.getElem?_modify, h]
theorem setCell_far {w : World} {g g' k : Nat} (h : g ≠ g') (v : Value) : (w.setCell ⟨g, k, none⟩ v).heap[g']? = w.heap[g']? := by
  simp [World.setCell, Array.getElem?_modify, h]
theorem below_setCell {B : Nat} {a w : World} (h : Below B a w) {g : Nat} (hg : B ≤ g) (k : Nat) (v : Value) : Below B a (w.setCell ⟨g, k, none⟩ v) :=
  ⟨h.os, h.tape, h.output, by simpa [World.setCell] using h.size, fun j hj => (setCell_far (by omega) v).trans (h.block j hj)⟩
theorem frozen_row {w : World} {g k : Nat} {cs : Array Value} {t : TypeId} {fr : Nat × Nat} (h : w.heap[g]? = some (.cells cs t fr)) (hf : fr = (0, 0)) : w.frozen? ⟨g, k, none⟩ = false := by
  subst hf
  simp [World.frozen?, h]

/-- A piece's bits, as they lie in memory. -/
def bitsAt (w : World) (g : Nat) : Nat := match w.heap[g]? with
  | some (.cells cs _ _) => (intOf (cs.getD 1 undef)).toNat
  | _ => 0
theorem bitsAt_eq {w : World} {g : Nat} {n : Int} {b : Nat} {t : TypeId} {fr : Nat × Nat} (h : w.heap[g]? = some (.cells (pv n (b : Int)) t fr)) : bitsAt w g = b := by
  unfold bitsAt
  rw [h]
  simp [intOf]

theorem next_no {n h b : Nat} (h1 : ∀ c, c < b → okP n h c = false) (h2 : ¬ n % sz b = 0 ∨ h + 1 < n + sz b) : ∀ c, c < b + 1 → okP n h c = false := fun c hc => by
  rcases Nat.lt_or_ge c b with hl | hl
  · exact h1 c hl
  · obtain rfl : c = b := by omega
    cases e : okP n h c with
    | false => rfl
    | true =>
      have := (okP_iff _ _ _).1 e
      omega

set_option maxHeartbeats 1000000 in
theorem greatest_any (n h : Nat) (hn : n ≤ h) (hh : h ≤ 65535) (w : World) :
    Calls Tryd.prog 89 #[.int .i64 (n : Int), .int .i64 (h : Int)] w fun e w' => e = .returned (.agg (pv (n : Int) ((gr n h : Nat) : Int))) ∧ Below w.heap.size w w' := by
  have SZ : Hid (∀ b : Nat, b ≤ 16 → ∀ W, Calls Tryd.prog 90 #[.agg (pv (n : Int) (b : Int))] W fun e w' => e = .returned (.int .i64 ((sz b : Nat) : Int)) ∧ Below W.heap.size W w') := fun b hb W => size_any (n : Int) b hb W
  go_enter Tryd.func89, Tryd.ntmps89
  go_wp2
  go_loopw [] (fun wr => ∃ b : Nat, b ≤ 16 ∧ (∀ c, c < b → okP n h c = false) ∧ wr.heap[w.heap.size]? = some (.cells (pv 0 0) 137 (0, 0)) ∧ wr.heap[w.heap.size + 1]? = some (.cells (pv (n : Int) (b : Int)) 137 (0, 0)) ∧ Below w.heap.size w wr) (fun wr => 16 - bitsAt wr (w.heap.size + 1))
  case atStart => exact ⟨0, Nat.zero_le _, fun c hc => by omega, heap_past _ _ _ _ (heap_new _ _ _ rfl), heap_new _ _ _ (by simp), ((Below.refl _ _).alloc (Nat.le_refl _) _).alloc (by simp) _⟩
  case round =>
    obtain ⟨b, hb, hno, g0, g1, hbw⟩ := hrel
    have D : Hid (∀ W, Calls Tryd.prog 90 #[.agg (pv (n : Int) (b : Int))] W fun e w' => e = .returned (.int .i64 ((sz b : Nat) : Int)) ∧ Below W.heap.size W w') := SZ.out b hb
    have HNO : Hid (∀ c, c < b → okP n h c = false) := hno
    have hs0 := sz_pos b
    have hs1 := sz_le b
    obtain ⟨s, hs⟩ : ∃ s, s = sz b := ⟨_, rfl⟩
    rw [← hs] at D hs0 hs1
    have HS : Hid (s = sz b) := hs
    clear hno hs
    have c0 : wr.cell? ⟨w.heap.size + 1, 0, none⟩ = some (.int .i64 (n : Int)) := by rw [cell_of_row _ _ _ _ _ _ g1]; rfl
    have c1 : wr.cell? ⟨w.heap.size + 1, 1, none⟩ = some (.int .i64 (b : Int)) := by rw [cell_of_row _ _ _ _ _ _ g1]; rfl
    go_wp2_with fail
    refine (D.out _).mono ?_
    rintro e w1 ⟨rfl, hb1⟩
    have k1 : w1.heap[w.heap.size + 1]? = some (.cells (pv (n : Int) (b : Int)) 137 (0, 0)) := by rw [hb1.block _ (Array.getElem?_eq_some_iff.1 g1).1]; exact g1
    have k0 : w1.heap[w.heap.size]? = some (.cells (pv 0 0) 137 (0, 0)) := by rw [hb1.block _ (Array.getElem?_eq_some_iff.1 g0).1]; exact g0
    have c2 : w1.cell? ⟨w.heap.size + 1, 0, none⟩ = some (.int .i64 (n : Int)) := by rw [cell_of_row _ _ _ _ _ _ k1]; rfl
    have c3 : w1.cell? ⟨w.heap.size + 1, 1, none⟩ = some (.int .i64 (b : Int)) := by rw [cell_of_row _ _ _ _ _ _ k1]; rfl
    have B1 := hbw.trans (hb1.mono hbw.size)
    clear c0 c1 hb1 hbw
    by_cases hm : (n : Int) % (s : Int) = 0
    · go_wp2_with fail
      refine (D.out _).mono ?_
      rintro e w2 ⟨rfl, hb2⟩
      have k3 : w2.heap[w.heap.size + 1]? = some (.cells (pv (n : Int) (b : Int)) 137 (0, 0)) := by rw [hb2.block _ (Array.getElem?_eq_some_iff.1 k1).1]; exact k1
      have k2 : w2.heap[w.heap.size]? = some (.cells (pv 0 0) 137 (0, 0)) := by rw [hb2.block _ (Array.getElem?_eq_some_iff.1 k0).1]; exact k0
      have c4 : w2.cell? ⟨w.heap.size + 1, 0, none⟩ = some (.int .i64 (n : Int)) := by rw [cell_of_row _ _ _ _ _ _ k3]; rfl
      have c5 : w2.cell? ⟨w.heap.size + 1, 1, none⟩ = some (.int .i64 (b : Int)) := by rw [cell_of_row _ _ _ _ _ _ k3]; rfl
      have B2 := B1.trans (hb2.mono B1.size)
      clear c2 c3 hb2 B1
      have f5 := frozen_row (k := 1) k3 rfl
      by_cases hf : (n : Int) + (s : Int) - 1 > (h : Int)
      · go_wp2_with fail
        refine ⟨⟨b + 1, ?_, ?_, (setCell_far (by omega) _).trans k2, setCell_row k3 _, below_setCell B2 (by omega) _ _⟩, ?_⟩
        · rcases Nat.lt_or_ge b 16 with h16 | h16
          · omega
          · obtain rfl : b = 16 := by omega
            have := HS.out
            rw [sz_16] at this
            omega
        · exact next_no HNO.out (by rw [← HS.out]; exact .inr (by omega))
        · rw [bitsAt_eq (n := (n : Int)) (b := b + 1) (setCell_row k3 _), bitsAt_eq g1]
          rcases Nat.lt_or_ge b 16 with h16 | h16
          · omega
          · obtain rfl : b = 16 := by omega
            have := HS.out
            rw [sz_16] at this
            omega
      · go_wp2_with (first
          | (refine wl_loadP rfl _ rfl (w.heap.size + 1) 0 rfl _ _ _ (n : Int) (b : Int) k3 (own_piece _ _) ?_)
          | (refine wl_storeP rfl _ _ rfl w.heap.size (n : Int) (b : Int) rfl rfl 0 0 k2 _ rfl ?_))
        refine retP (p := 4) rfl rfl w.heap.size rfl (n : Int) (b : Int) (setRow_heap _ _ _ _ _ _ k2) ⟨?_, below_setRow B2 (Nat.le_refl _) _⟩
        rw [gr_eq hn ⟨hb, (okP_iff _ _ _).2 ?_, HNO.out⟩]
        rw [← HS.out]
        exact ⟨by omega, by omega⟩
    · have f3 := frozen_row (k := 1) k1 rfl
      go_wp2_with fail
      refine ⟨⟨b + 1, ?_, ?_, (setCell_far (by omega) _).trans k0, setCell_row k1 _, below_setCell B1 (by omega) _ _⟩, ?_⟩
      · rcases Nat.lt_or_ge b 16 with h16 | h16
        · omega
        · obtain rfl : b = 16 := by omega
          have := HS.out
          rw [sz_16] at this
          subst this
          omega
      · exact next_no HNO.out (by rw [← HS.out]; exact .inl (by omega))
      · rw [bitsAt_eq (n := (n : Int)) (b := b + 1) (setCell_row k1 _), bitsAt_eq g1]
        rcases Nat.lt_or_ge b 16 with h16 | h16
        · omega
        · obtain rfl : b = 16 := by omega
          have := HS.out
          rw [sz_16] at this
          subst this
          omega
end Go.Proofs.YtnbklmmampdbfaaDoor
namespace Go.Proofs.YtnbklmmampdbfaaDoor
open Go Go.RowKit
set_option maxRecDepth 20000

theorem own_slice {w : World} {B : Nat} {e : TypeId} {s : Nat} {v : Value} {n : Nat} {xs : List Value} (h : w.ownsRow B e s v n xs) : ∃ o cap, v = .slice o n cap := by
  obtain ⟨_, ⟨rfl, rfl⟩ | ⟨g, cap, cur, rfl, _⟩⟩ := h
  · exact ⟨none, 0, rfl⟩
  · exact ⟨_, cap, rfl⟩
theorem ccells_len (C : List (List Int × List Int)) (hC : Byts C) : (ccells C).length = C.length * 26 := by
  induction C with
  | nil => rfl
  | cons c C ih =>
    have h1 := hC c (by simp)
    rw [show ccells (c :: C) = (cv c.1 c.2).toList ++ ccells C by simp [ccells], List.length_append, ih (fun d hd => hC d (by simp [hd])), Array.length_toList, cv_size _ _ h1.1.1 h1.2.1, List.length_cons]
    omega
theorem ccells_one' (C : List (List Int × List Int)) : ∀ u ∈ ccells C, u.oneCell' = true := fun u hu => by
  unfold ccells at hu
  rw [List.mem_flatMap] at hu
  obtain ⟨c, _, hc⟩ := hu
  exact (Array.all_eq_true_iff_forall_mem.1 (cv_one c.1 c.2)) u (by simpa using hc)

/-- Cubes of one's own row appended to another one's. -/
theorem wl_appendC {ops : Array Oper} {rest : List Oper} {o : Oper} {a : Act} {w : World} {Q : Exit → Act → World → Prop} (hgd : o.guard = none) (s x : Operand) (ho : o.op = .call { callee := .builtin .append, args := #[s, x], argTypes := #[78, 78] })
    (base base' : Nat) (v u : Value) (C D : List (List Int × List Int)) (hs : a.eval s = v) (hown : w.ownsRow base 33 26 v C.length (ccells C)) (hx : a.eval x = u) (hu : w.ownsRow base' 33 26 u D.length (ccells D)) (hD : Byts D)
    (hn : C.length + D.length ≤ 1000000) (hbase : base ≤ w.heap.size)
    (h : ∀ v' w', w'.ownsRow base 33 26 v' (C ++ D).length (ccells (C ++ D)) → w.grownBy w' v.ownBlock → wpList Tryd.prog ops Q rest (a.put o.dst v') w') : wpList Tryd.prog ops Q (o :: rest) a w := by
  obtain ⟨i0, hi, hz0, hz1, hz2⟩ := infoC
  have hu0 := hu
  obtain ⟨_, ⟨rfl, h0⟩ | ⟨g, cap, cur, rfl, hB, hcur, h1, h2, h3, h4⟩⟩ := hu
  · have hD0 : D = [] := List.eq_nil_of_length_eq_zero h0
    subst hD0
    refine wpList_append_own_none hgd s x 78 ho base 33 i0 26 Tryd.underlying78 hi v _ _ hs hown hx (h v w ?_ ?_)
    · rw [List.append_nil]; exact hown
    · exact ⟨rfl, rfl, rfl, Nat.le_refl _, fun k _ _ => rfl⟩
  · refine wpList_append_own w hgd s x 78 ho base 33 i0 (.agg zeroC) 26 26 Tryd.underlying78 hi hz0 hz1 hz2 rfl (by decide) v _ _ hs hown ⟨g, 0, none⟩ D.length cap (ccells D) hx (ccells_len D hD) (fun j y hy => ?_) (ccells_one' D) (by unfold maxLen; omega) (by omega) hbase ?_
    · have hj : j < D.length * 26 := by rw [← ccells_len D hD]; exact (List.getElem?_eq_some_iff.1 hy).1
      have hadd : (⟨g, 0, none⟩ : Addr).add j = ⟨g, j, none⟩ := by unfold Addr.add; split <;> simp_all
      rw [hadd, hu0.cellAt j hj]; exact hy
    · intro v' w' h5 h6 _
      refine h v' w' ?_ h6
      rw [List.length_append, ccells_append]; exact h5
end Go.Proofs.YtnbklmmampdbfaaDoor
namespace Go.Proofs.YtnbklmmampdbfaaDoor
open Go Go.RowKit
set_option maxRecDepth 20000

/-- The cells of a list of pieces. -/
def pcells (P : List (Nat × Nat)) : List Value := P.flatMap fun p => (pv (p.1 : Int) (p.2 : Int)).toList
theorem pcells_append (P Q : List (Nat × Nat)) : pcells (P ++ Q) = pcells P ++ pcells Q := by simp [pcells]
theorem pcells_one (p : Nat × Nat) : pcells [p] = (pv (p.1 : Int) (p.2 : Int)).toList := by simp [pcells]
theorem pcells_len (P : List (Nat × Nat)) : (pcells P).length = P.length * 2 := by
  induction P with
  | nil => rfl
  | cons p P ih =>
    rw [show pcells (p :: P) = (pv (p.1 : Int) (p.2 : Int)).toList ++ pcells P by simp [pcells], List.length_append, ih, List.length_cons]
    simp; omega
theorem pcells_at : ∀ (P : List (Nat × Nat)) (i : Nat) (hi : i < P.length) (j : Nat), j < 2 → (pcells P)[2 * i + j]? = (pv (P[i].1 : Int) (P[i].2 : Int))[j]?
  | [], i, hi, _, _ => absurd hi (by simp)
  | p :: P, 0, _, j, hj => by
    rw [show pcells (p :: P) = (pv (p.1 : Int) (p.2 : Int)).toList ++ pcells P by simp [pcells], Nat.mul_zero, Nat.zero_add, List.getElem?_append_left (by simpa using hj)]
    simp
  | p :: P, i + 1, hi, j, hj => by
    have ih := pcells_at P i (by simpa using hi) j hj
    rw [show pcells (p :: P) = (pv (p.1 : Int) (p.2 : Int)).toList ++ pcells P by simp [pcells], show 2 * (i + 1) + j = 2 + (2 * i + j) by omega, List.getElem?_append_right (by simp)]
    simpa using ih

/-- A slice of one piece. -/
theorem wl_buildP {ops : Array Oper} {rest : List Oper} {o : Oper} {a : Act} {w : World} {Q : Exit → Act → World → Prop} (hg : o.guard = none) (x : Operand) (ho : o.op = .buildSlice 133 1 #[(0, x)]) (n b : Int) (hx : a.eval x = .agg (pv n b))
    (h : wpList Tryd.prog ops Q rest (a.put o.dst (.slice (some ⟨w.heap.size, 0, none⟩) 1 1)) (w.alloc (.cells (pv n b) 137))) : wpList Tryd.prog ops Q (o :: rest) a w := by
  obtain ⟨ie, hie, hz, hs, _⟩ := infoP
  refine wpList_buildSlice hg 133 137 1 _ ho (pv n b) ie (.agg (pv 0 0)) Tryd.underlying133 hie hz (by rw [hs]; decide) (by rw [hs]; decide) ?_ h
  simp only [List.map_toArray, List.map_cons, List.map_nil, hx, Instr.fill, hs, Nat.zero_mul, Value.cells]
  rw [if_neg (by simp)]
  congr 1
  exact fold_all _ _ (by simp)

/-- One piece appended to one's own row of them. -/
theorem wl_appendP {ops : Array Oper} {rest : List Oper} {o : Oper} {a : Act} {w : World} {Q : Exit → Act → World → Prop} (hgd : o.guard = none) (s x : Operand) (ho : o.op = .call { callee := .builtin .append, args := #[s, x], argTypes := #[133, 133] })
    (base : Nat) (v : Value) (P : List (Nat × Nat)) (p : Nat × Nat) (hs : a.eval s = v) (hown : w.ownsRow base 137 2 v P.length (pcells P)) (g cap : Nat) (hx : a.eval x = .slice (some ⟨g, 0, none⟩) 1 cap) (hg : w.heap[g]? = some (.cells (pv (p.1 : Int) (p.2 : Int)) 137 (0, 0)))
    (hn : P.length ≤ 1000000) (hbase : base ≤ w.heap.size)
    (h : ∀ v' w', w'.ownsRow base 137 2 v' (P ++ [p]).length (pcells (P ++ [p])) → w.grownBy w' v.ownBlock → wpList Tryd.prog ops Q rest (a.put o.dst v') w') : wpList Tryd.prog ops Q (o :: rest) a w := by
  obtain ⟨i0, hi, hz0, hz1, hz2⟩ := infoP
  refine wpList_append_own w hgd s x 133 ho base 137 i0 (.agg (pv 0 0)) 2 16 Tryd.underlying133 hi hz0 hz1 hz2 rfl (by decide) v _ _ hs hown ⟨g, 0, none⟩ 1 cap (pcells [p]) hx (by rw [pcells_len]; rfl) (fun j y hy => ?_) (fun u hu => ?_) (by unfold maxLen; omega) (by omega) hbase ?_
  · have hadd : (⟨g, 0, none⟩ : Addr).add j = ⟨g, j, none⟩ := by unfold Addr.add; split <;> simp_all
    rw [hadd, cell_of_row w g j _ _ _ hg, ← hy, pcells_one]
    simp
  · rw [pcells_one] at hu
    exact (Array.all_eq_true_iff_forall_mem.1 (oneP _ _)) u (by simpa using hu)
  · intro v' w' h5 h6 _
    refine h v' w' ?_ h6
    rw [List.length_append, pcells_append]; exact h5

/-- A slice, wherever it lies, whose elements are these pieces. -/
def Sp (w : World) (v : Value) (P : List (Nat × Nat)) : Prop :=
  ∃ (o : Option Addr) (cap : Nat), v = .slice o P.length cap ∧ P.length ≤ cap ∧ cap ≤ maxLen ∧ ∀ (i : Nat) (hi : i < P.length), ∃ g off cur t fr, o = some ⟨g, off, none⟩ ∧ w.heap[g]? = some (.cells cur t fr) ∧ ∀ j, j < 2 → cur[off + i * 2 + j]? = (pv (P[i].1 : Int) (P[i].2 : Int))[j]?
theorem Sp.below {w w' : World} {v : Value} {P : List (Nat × Nat)} (h : Sp w v P) (hb : Below w.heap.size w w') : Sp w' v P := by
  obtain ⟨o, cap, rfl, h1, h2, h3⟩ := h
  refine ⟨o, cap, rfl, h1, h2, fun i hi => ?_⟩
  obtain ⟨g, off, cur, t, fr, h4, h5, h6⟩ := h3 i hi
  exact ⟨g, off, cur, t, fr, h4, (hb.block g (Array.getElem?_eq_some_iff.1 h5).1).trans h5, h6⟩
theorem Sp.slice {w : World} {v : Value} {P : List (Nat × Nat)} (h : Sp w v P) : ∃ (o : Option Addr) (cap : Nat), v = .slice o P.length cap ∧ P.length ≤ cap ∧ cap ≤ maxLen := by
  obtain ⟨o, cap, h1, h2, h3, _⟩ := h
  exact ⟨o, cap, h1, h2, h3⟩
theorem Sp.at {w : World} {o : Option Addr} {n cap : Nat} {P : List (Nat × Nat)} (h : Sp w (.slice o n cap) P) (k : Nat) (hk : k < n) :
    ∃ g off cur t fr, ∃ p : Nat × Nat, o = some ⟨g, off, none⟩ ∧ w.heap[g]? = some (.cells cur t fr) ∧ (∀ j, j < 2 → cur[off + k * 2 + j]? = (pv (p.1 : Int) (p.2 : Int))[j]?) ∧ P[k]? = some p := by
  obtain ⟨o', cap', h1, _, _, h3⟩ := h
  simp only [Value.slice.injEq] at h1
  obtain ⟨rfl, rfl, rfl⟩ := h1
  obtain ⟨g, off, cur, t, fr, h4, h5, h6⟩ := h3 k hk
  exact ⟨g, off, cur, t, fr, P[k], h4, h5, h6, List.getElem?_eq_getElem hk⟩
theorem sp_of {w : World} {B : Nat} {v : Value} {P : List (Nat × Nat)} (h : w.ownsRow B 137 2 v P.length (pcells P)) : Sp w v P := by
  obtain ⟨h1, ⟨rfl, h2⟩ | ⟨g, cap, cur, rfl, hB, hcur, h5, h6, _, h4⟩⟩ := h
  · exact ⟨none, 0, by rw [h2], by omega, Nat.zero_le _, fun i hi => by omega⟩
  · refine ⟨_, cap, rfl, h5, h6, fun i hi => ⟨g, 0, cur, _, _, rfl, hcur, fun j hj => ?_⟩⟩
    rw [← pcells_at P i hi j hj, ← h4, List.getElem?_take_of_lt (by omega), Nat.zero_add, Nat.mul_comm]
    simp

theorem qlP {W : World} {ops : Array Oper} {Q : Act → Prop} {rest : List Oper} {o : Oper} {a : Act} (hw : Region.wanted o (yielded ops a.tmps) = true) (x : Operand) (ho : o.op = .load 137 x)
    (g off : Nat) (hx : a.eval x = .pointer (some ⟨g, off, none⟩)) (cs : Array Value) (t : TypeId) (fr : Nat × Nat) (n b : Int) (hg : W.heap[g]? = some (.cells cs t fr)) (hc : ∀ j, j < 2 → cs[off + j]? = (pv n b)[j]?)
    (h : wpQuiet Tryd.prog ops (fun w' => ∃ u : Later W, w' = u.world) Q rest (a.put o.dst (.agg (pv n b)))) : wpQuiet Tryd.prog ops (fun w' => ∃ u : Later W, w' = u.world) Q (o :: rest) a := by
  refine BigFrame.wpQuiet_want hw fun K hK => ⟨.agg (pv n b), fun w hC => ?_, hK _ h⟩
  unfold Oper.quietAt execOp
  simp only [ho, hx, Instr.loadAt, Instr.sureAddr, Sem.run_bind, Sem.run_pure, Result.andThen_ok, load_piece w g off cs t fr n b (later_block hg w hC) hc]
  exact ⟨rfl, rfl⟩
end Go.Proofs.YtnbklmmampdbfaaDoor
namespace Go.Proofs.YtnbklmmampdbfaaDoor
open Go Go.RowKit
set_option maxRecDepth 20000

/-- Is this a range? -/
def isR (l h : Int) : Bool := decide (0 ≤ l) && decide (l ≤ h) && decide (h ≤ 65535)
theorem isR_iff (l h : Int) : isR l h = true ↔ 0 ≤ l ∧ l ≤ h ∧ h ≤ 65535 := by simp [isR, and_assoc]
/-- The pieces of a range, none where there is no range. -/
def ran (l h : Int) : List (Nat × Nat) := if isR l h then rng h.toNat l.toNat else []
def ranE (l h : Int) : Int := if isR l h then 0 else 10

theorem rng_le (h n : Nat) : (rng h n).length ≤ h + 1 - n := by
  refine rng_induct h (fun n => (rng h n).length ≤ h + 1 - n) (fun n hn => by rw [rng_nil hn]; exact Nat.zero_le _) (fun n hn ih => ?_) n
  rw [rng_cons hn, List.length_cons]
  have := rng_next hn
  omega

set_option maxHeartbeats 1000000 in
theorem range_ok (l h : Nat) (hl : l ≤ h) (hh : h ≤ 65535) (w : World) :
    Calls Tryd.prog 74 #[.int .i64 (l : Int), .int .i64 (h : Int)] w fun e w' => ∃ u, e = .returned (.tuple #[u, .int .i64 0]) ∧ w'.ownsRow w.heap.size 137 2 u (rng h l).length (pcells (rng h l)) ∧ Below w.heap.size w w' := by
  have GR : Hid (∀ n : Nat, n ≤ h → ∀ W, Calls Tryd.prog 89 #[.int .i64 (n : Int), .int .i64 (h : Int)] W fun e w' => e = .returned (.agg (pv (n : Int) ((gr n h : Nat) : Int))) ∧ Below W.heap.size W w') := fun n hn W => greatest_any n h hn hh W
  have HL : Hid ((rng h l).length ≤ 65536) := Nat.le_trans (rng_le h l) (by omega)
  have q0 : ¬ h < l := by omega
  have q1 : ¬ (65535 : Int) < (h : Int) := by omega
  have q2 : ¬ (l : Int) < 0 := by omega
  go_enter Tryd.func74, Tryd.ntmps74
  go_wp2_with fail
  clear q0 q1 q2
  go_loopw [0, 6] (fun i out wr => ∃ n : Nat, n ≤ h + 1 ∧ i = .int .i64 (n : Int) ∧ ∃ P : List (Nat × Nat), P ++ rng h n = rng h l ∧ wr.ownsRow w.heap.size 137 2 out P.length (pcells P) ∧ Below w.heap.size w wr) (fun i _ _ => h + 1 - (intOf i).toNat)
  case atStart => exact ⟨l, by omega, rfl, [], rfl, World.ownsRow_nil _ _ _ _, Below.refl _ _⟩
  case round =>
    obtain ⟨n, hn, rfl, P, hP, hown, hb⟩ := hrel
    have HP : Hid (P ++ rng h n = rng h l) := hP
    have hPl : P.length ≤ 65536 := by
      have := HL.out
      rw [← hP, List.length_append] at this
      omega
    have OWN : Hid (wr.ownsRow w.heap.size 137 2 u6 P.length (pcells P)) := hown
    clear hP hown
    by_cases hlt : n ≤ h
    · have D : Hid (∀ W, Calls Tryd.prog 89 #[.int .i64 (n : Int), .int .i64 (h : Int)] W fun e w' => e = .returned (.agg (pv (n : Int) ((gr n h : Nat) : Int))) ∧ Below W.heap.size W w') := GR.out n hlt
      have hg16 := (gr_is n h hlt).1
      have HC : Hid (rng h n = (n, gr n h) :: rng h (n + sz (gr n h))) := rng_cons hlt
      have hnx := rng_next hlt
      obtain ⟨b, hbb⟩ : ∃ b, b = gr n h := ⟨_, rfl⟩
      rw [← hbb] at D hg16 HC hnx
      have D2 : Hid (∀ W, Calls Tryd.prog 90 #[.agg (pv (n : Int) (b : Int))] W fun e w' => e = .returned (.int .i64 ((sz b : Nat) : Int)) ∧ Below W.heap.size W w') := fun W => size_any (n : Int) b hg16 W
      obtain ⟨s, hs⟩ : ∃ s, s = sz b := ⟨_, rfl⟩
      rw [← hs] at D2 HC hnx
      clear hbb hs
      go_wp2_with fail
      refine (D.out _).mono ?_
      rintro e w1 ⟨rfl, hb1⟩
      have B1 := hb.trans (hb1.mono hb.size)
      have OWN1 : Hid (w1.ownsRow w.heap.size 137 2 u6 P.length (pcells P)) := own_below OWN.out hb1
      clear OWN hb hb1
      go_wp2_with (first
        | (refine wl_loadP rfl _ rfl w1.heap.size 0 rfl _ _ _ (n : Int) (b : Int) (heap_new _ _ _ rfl) (own_piece _ _) ?_)
        | (refine wl_buildP rfl _ rfl (n : Int) (b : Int) rfl ?_)
        | (at_builtin; refine of_stopped ?_))
      unfold Stopped
      have a0 := heap_past (w1.alloc (.cells (pv (n : Int) (b : Int)) 137)) (.cells (pv (n : Int) (b : Int)) 137) _ _ (heap_new w1 (.cells (pv (n : Int) (b : Int)) 137) _ rfl)
      have a1 := heap_new (w1.alloc (.cells (pv (n : Int) (b : Int)) 137)) (.cells (pv (n : Int) (b : Int)) 137) (w1.heap.size + 1) (by simp)
      have OWN3 : Hid (((w1.alloc (.cells (pv (n : Int) (b : Int)) 137)).alloc (.cells (pv (n : Int) (b : Int)) 137)).ownsRow w.heap.size 137 2 u6 P.length (pcells P)) := (OWN1.out.alloc _).alloc _
      have B3 := (B1.alloc B1.size (.cells (pv (n : Int) (b : Int)) 137)).alloc (by simp; have := B1.size; omega) (.cells (pv (n : Int) (b : Int)) 137)
      refine wl_appendP rfl _ _ rfl w.heap.size _ P (n, b) rfl OWN3.out _ 1 rfl a1 (by omega) (by simp; have := B1.size; omega) ?_
      intro v' w2 hown2 hgr
      have B4 : Below w.heap.size w w2 := B3.grown hgr (by simp; have := B1.size; omega) (fun q hq => (OWN3.out.lt q hq).1)
      have g2 : w2.heap[w1.heap.size]? = some (.cells (pv (n : Int) (b : Int)) 137 (0, 0)) := by
        rw [hgr.block w1.heap.size (by simp; omega) (fun hq => absurd (OWN1.out.lt w1.heap.size hq.symm).2 (by omega))]
        exact a0
      obtain ⟨o2, cap2, rfl⟩ := own_slice hown2
      obtain ⟨v2, hv2⟩ : ∃ v2, v2 = Value.slice o2 (P ++ [(n, b)]).length cap2 := ⟨_, rfl⟩
      rw [← hv2] at hown2 ⊢
      have OWN4 : Hid (w2.ownsRow w.heap.size 137 2 v2 (P ++ [(n, b)]).length (pcells (P ++ [(n, b)]))) := hown2
      simp only [Act.put, List.setIfInBounds_toArray, List.set_cons_succ, List.set_cons_zero]
      clear hown2 hgr a0 a1 OWN3 B3 B1 OWN1 hv2
      go_wp2_with (first
        | (refine wl_loadP rfl _ rfl w1.heap.size 0 rfl _ _ _ (n : Int) (b : Int) g2 (own_piece _ _) ?_))
      refine (D2.out _).mono ?_
      rintro e w3 ⟨rfl, hb3⟩
      go_wp2_with fail
      go_roundw
      case rel => exact ⟨n + s, by omega, by go_num, P ++ [(n, b)], by rw [List.append_assoc, List.singleton_append, ← HC.out]; exact HP.out, own_below OWN4.out hb3, B4.trans (hb3.mono B4.size)⟩
      case measure => simp [intOf]; omega
    · have HE : Hid (rng h n = []) := rng_nil (by omega)
      go_wp2_with fail
      go_ret2
      refine ⟨u6, rfl, ?_, hb⟩
      have := HP.out
      rw [HE.out, List.append_nil] at this
      rw [← this]; exact OWN.out

set_option maxHeartbeats 400000 in
theorem range_no (l h : Int) (hl : ¬ (0 ≤ l ∧ l ≤ h ∧ h ≤ 65535)) (w : World) :
    Calls Tryd.prog 74 #[.int .i64 l, .int .i64 h] w fun e w' => e = .returned (.tuple #[.slice none 0 0, .int .i64 10]) ∧ w' = w := by
  by_cases h0 : l < 0
  · go_enter Tryd.func74, Tryd.ntmps74
    go_wp2_with fail
    go_ret2
    exact ⟨rfl, rfl⟩
  · by_cases h1 : l > h
    · go_enter Tryd.func74, Tryd.ntmps74
      go_wp2_with fail
      go_ret2
      exact ⟨rfl, rfl⟩
    · have h2 : h > 65535 := by omega
      clear hl
      go_enter Tryd.func74, Tryd.ntmps74
      go_wp2_with fail
      go_ret2
      exact ⟨rfl, rfl⟩

theorem range_any (l h : Int) (w : World) :
    Calls Tryd.prog 74 #[.int .i64 l, .int .i64 h] w fun e w' => ∃ u, e = .returned (.tuple #[u, .int .i64 (ranE l h)]) ∧ w'.ownsRow w.heap.size 137 2 u (ran l h).length (pcells (ran l h)) ∧ Below w.heap.size w w' := by
  unfold ran ranE
  by_cases c : isR l h = true
  · simp only [c, if_true]
    have := (isR_iff l h).1 c
    obtain ⟨l', rfl⟩ := Int.eq_ofNat_of_zero_le this.1
    obtain ⟨h', rfl⟩ := Int.eq_ofNat_of_zero_le (Int.le_trans this.1 this.2.1)
    exact range_ok l' h' (by omega) (by omega) w
  · have c' : isR l h = false := by simpa using c
    simp only [c', Bool.false_eq_true, if_false]
    refine (range_no l h (fun hc => c ((isR_iff l h).2 hc)) w).mono ?_
    rintro e w' ⟨rfl, rfl⟩
    exact ⟨_, rfl, World.ownsRow_nil _ _ _ _, Below.refl _ _⟩
end Go.Proofs.YtnbklmmampdbfaaDoor
namespace Go.Proofs.YtnbklmmampdbfaaDoor
open Go Go.RowKit
set_option maxRecDepth 20000

theorem load_num (w : World) (g k : Nat) (cs : Array Value) (t : TypeId) (fr : Nat × Nat) (n : Int) (hg : w.heap[g]? = some (.cells cs t fr)) (hc : cs[k]? = some (.int .i64 n)) :
    (loadVar 3 ⟨g, k, none⟩).run Tryd.prog w = .ok (.int .i64 n) w := by
  have hagg : (isAgg 3).run Tryd.prog w = .ok false w := by kernel_rfl
  have h1 : w.cell? ⟨g, k, none⟩ = some (.int .i64 n) := by rw [cell_of_row w g k cs t fr hg, hc]
  simp [loadVar, Sem.run_bind, hagg, h1]
theorem qlN {W : World} {ops : Array Oper} {Q : Act → Prop} {rest : List Oper} {o : Oper} {a : Act} (hw : Region.wanted o (yielded ops a.tmps) = true) (x : Operand) (ho : o.op = .load 3 x)
    (g k : Nat) (hx : a.eval x = .pointer (some ⟨g, k, none⟩)) (cs : Array Value) (t : TypeId) (fr : Nat × Nat) (n : Int) (hg : W.heap[g]? = some (.cells cs t fr)) (hc : cs[k]? = some (.int .i64 n))
    (h : wpQuiet Tryd.prog ops (fun w' => ∃ u : Later W, w' = u.world) Q rest (a.put o.dst (.int .i64 n))) : wpQuiet Tryd.prog ops (fun w' => ∃ u : Later W, w' = u.world) Q (o :: rest) a := by
  refine BigFrame.wpQuiet_want hw fun K hK => ⟨.int .i64 n, fun w hC => ?_, hK _ h⟩
  unfold Oper.quietAt execOp
  simp only [ho, hx, Instr.loadAt, Instr.sureAddr, Sem.run_bind, Sem.run_pure, Result.andThen_ok, load_num w g k cs t fr n (later_block hg w hC) hc]
  exact ⟨rfl, rfl⟩
theorem Calls.later_same {P : Program} {f : FuncId} {args : Array Value} {W : World} {u : Later W} {v : Value}
    (h : Calls P f args u.world fun e w' => e = .returned v ∧ w' = u.world) : Calls P f args u.world fun e w'' => e = .returned v ∧ ∃ u' : Later W, w'' = u'.world :=
  h.mono fun _ _ ⟨he, hb⟩ => ⟨he, u, hb⟩

end Go.Proofs.YtnbklmmampdbfaaDoor
namespace Go.Proofs.YtnbklmmampdbfaaDoor
open Go Go.RowKit
set_option maxRecDepth 20000

theorem hbit_in (A : List Int) (k j : Nat) (hk : k < 13) (hj : j < 8) : bitB A ((8 * k + j : Nat) : Int) = (A.getD k 0 / 2 ^ (7 - j) % 2 == 1) := by
  unfold bitB byteAt
  rw [decide_eq_true (by omega), Bool.true_and, show (((8 * k + j : Nat) : Int) / 8).toNat = k by omega, show (7 - ((8 * k + j : Nat) : Int) % 8).toNat = 7 - j by omega]

theorem hbyte_eq (x y : Int) (hx : 0 ≤ x ∧ x < 256) (hy : 0 ≤ y ∧ y < 256) (h : ∀ j, j < 8 → (x / 2 ^ (7 - j) % 2 == 1) = (y / 2 ^ (7 - j) % 2 == 1)) : x = y := by
  have g : ∀ j, j < 8 → x / 2 ^ (7 - j) % 2 = y / 2 ^ (7 - j) % 2 := fun j hj => by
    have := h j hj
    rw [Bool.eq_iff_iff, beq_iff_eq, beq_iff_eq] at this
    have a1 : x / 2 ^ (7 - j) % 2 = 0 ∨ x / 2 ^ (7 - j) % 2 = 1 := by omega
    have a2 : y / 2 ^ (7 - j) % 2 = 0 ∨ y / 2 ^ (7 - j) % 2 = 1 := by omega
    omega
  have g0 := g 0 (by decide)
  have g1 := g 1 (by decide)
  have g2 := g 2 (by decide)
  have g3 := g 3 (by decide)
  have g4 := g 4 (by decide)
  have g5 := g 5 (by decide)
  have g6 := g 6 (by decide)
  have g7 := g 7 (by decide)
  simp only [Nat.sub_zero, Nat.reduceSub, Int.reducePow, Int.pow_zero, Int.ediv_one] at g0 g1 g2 g3 g4 g5 g6 g7
  omega
/-- The byte of a number that lies in the header's bytes, and so its bits. -/
theorem getN_byte (L : List Int) (hL : Byt L) (at0 : Nat) : ∀ (s m : Nat), m < s → getN L at0 s / 2 ^ (8 * (s - 1 - m)) % 256 = L.getD (at0 + m) 0
  | 0, _, h => by omega
  | s + 1, m, h => by
    have hb := hL.2 (at0 + s)
    by_cases e : m = s
    · subst e
      simp only [getN, Nat.add_sub_cancel, Nat.sub_self, Nat.mul_zero, Int.pow_zero, Int.ediv_one]
      omega
    · have ih := getN_byte L hL at0 s m (by omega)
      have e1 : 8 * (s + 1 - 1 - m) = 8 + 8 * (s - 1 - m) := by omega
      rw [e1, Int.pow_add, ← Int.ediv_ediv_of_nonneg (by decide)]
      have e2 : getN L at0 (s + 1) / 2 ^ 8 = getN L at0 s := by
        simp only [getN]
        omega
      rw [e2]; exact ih

theorem bit_of_byte (g : Int) (t j : Nat) (hj : j < 8) : g / 2 ^ (8 * t) % 256 / 2 ^ (7 - j) % 2 = g / 2 ^ (8 * t + (7 - j)) % 2 := by
  rw [Int.pow_add, ← Int.ediv_ediv_of_nonneg (Int.pow_nonneg (by decide))]
  generalize g / 2 ^ (8 * t) = y
  rcases (show j = 0 ∨ j = 1 ∨ j = 2 ∨ j = 3 ∨ j = 4 ∨ j = 5 ∨ j = 6 ∨ j = 7 by omega) with e | e | e | e | e | e | e | e <;> subst e <;> simp only [Nat.sub_zero, Nat.sub_self, Nat.reduceSub, Int.reducePow, Int.pow_zero, Int.ediv_one] <;> omega

theorem getN_bit (L : List Int) (hL : Byt L) (at0 size i : Nat) (hs : at0 + size ≤ 13) (hi : i < 8 * size) :
    bitB L ((8 * at0 + i : Nat) : Int) = (getN L at0 size / 2 ^ (8 * size - 1 - i) % 2 == 1) := by
  have e : 8 * at0 + i = 8 * (at0 + i / 8) + i % 8 := by omega
  rw [e, hbit_in L (at0 + i / 8) (i % 8) (by omega) (by omega), ← getN_byte L hL at0 size (i / 8) (by omega), bit_of_byte _ _ _ (by omega), show 8 * (size - 1 - i / 8) + (7 - i % 8) = 8 * size - 1 - i by omega]

theorem getN_half (g : Int) (W i : Nat) (hi : i < W) : g / 2 ^ (W - i) * 2 + g / 2 ^ (W - 1 - i) % 2 = g / 2 ^ (W - 1 - i) := by
  have e : W - i = (W - 1 - i) + 1 := by omega
  rw [e, Int.pow_succ, ← Int.ediv_ediv_of_nonneg (Int.pow_nonneg (by decide))]
  generalize g / 2 ^ (W - 1 - i) = y
  omega

set_option maxHeartbeats 2000000 in
theorem refField_core (L : List Int) (hL : Byt L) (f : Int) (at0 size : Nat) (w : World) (hs : at0 + size ≤ 13) (hs4 : size ≤ 4)
    (c17 : ∀ W, Calls Tryd.prog 95 #[.int .i64 f] W fun e w' => e = .returned (.int .i64 ((8 * at0 : Nat) : Int)) ∧ w' = W)
    (c18 : ∀ W, Calls Tryd.prog 96 #[.int .i64 f] W fun e w' => e = .returned (.int .i64 ((8 * size : Nat) : Int)) ∧ w' = W) :
    Calls Tryd.prog 79 #[.agg (hv L), .int .i64 f] w fun e w' => e = .returned (.tuple #[.int .u32 (getN L at0 size), .int .i64 0]) ∧ Below w.heap.size w w' := by
  have hl := hL.1
  have hg := getN_bd L hL at0 size
  have hg32 : getN L at0 size < 4294967296 := by
    have : (256 : Int) ^ size ≤ 4294967296 := by
      rcases (show size = 0 ∨ size = 1 ∨ size = 2 ∨ size = 3 ∨ size = 4 by omega) with h | h | h | h | h <;> subst h <;> decide
    omega
  obtain ⟨F, hF⟩ : ∃ F : Nat, F = 8 * at0 := ⟨_, rfl⟩
  obtain ⟨Wd, hW⟩ : ∃ Wd : Nat, Wd = 8 * size := ⟨_, rfl⟩
  obtain ⟨g, hgg⟩ : ∃ g : Int, g = getN L at0 size := ⟨_, rfl⟩
  have hbit : ∀ i : Nat, i < Wd → bitB L ((F : Int) + (i : Int)) = (g / 2 ^ (Wd - 1 - i) % 2 == 1) := fun i hi => by
    rw [hF, hW, hgg]
    have := getN_bit L hL at0 size i hs (by omega)
    rw [← this]; congr 1
  rw [← hF] at c17
  rw [← hW] at c18
  rw [← hgg] at hg hg32 ⊢
  have hW32 : Wd ≤ 32 := by omega
  have hF104 : F + Wd ≤ 104 := by omega
  have hgW : g < 2 ^ Wd := by
    rw [hW, Int.pow_mul]; exact hg.2
  have hg0 := hg.1
  have K17 : Hid _ := c17
  have K18 : Hid _ := c18
  have HBIT : Hid _ := hbit
  have HGW : Hid (g < 2 ^ Wd) := hgW
  have HG : Hid (g < 4294967296) := hg32
  clear c17 c18 hbit hgW hg32 hg hF hW hgg hs hs4
  go_enter Tryd.func79, Tryd.ntmps79
  go_wp2_with (first
    | (go_at_call 95; refine (K17.out _).mono ?_; rintro e w' ⟨rfl, rfl⟩))
  go_loopw [6, 7] (fun x i wr => ∃ k : Nat, k ≤ Wd ∧ i = .int .i64 (k : Int) ∧ x = .int .u32 (g / 2 ^ (Wd - k)) ∧ wr.heap[w.heap.size]? = some (.cells (hv L) 23 (0, 0)) ∧ Below w.heap.size w wr) (fun _ i _ => Wd - (intOf i).toNat)
  case atStart =>
    refine ⟨0, Nat.zero_le _, rfl, ?_, heap_new _ _ _ rfl, (Below.refl _ _).alloc (Nat.le_refl _) _⟩
    rw [Nat.sub_zero, Int.ediv_eq_zero_of_lt hg0 HGW.out]
  case round =>
    obtain ⟨k, hk, rfl, rfl, g1, hbw⟩ := hrel
    by_cases hlt : k < Wd
    · have hy0 : 0 ≤ g / 2 ^ (Wd - k) := Int.ediv_nonneg hg0 (Int.pow_nonneg (by decide))
      have hz0 : 0 ≤ g / 2 ^ (Wd - 1 - k) := Int.ediv_nonneg hg0 (Int.pow_nonneg (by decide))
      have hz1 : g / 2 ^ (Wd - 1 - k) ≤ g := Int.ediv_le_self _ hg0
      have hh := getN_half g Wd k hlt
      have hG := HG.out
      obtain ⟨y, hy⟩ : ∃ y : Int, y = g / 2 ^ (Wd - k) := ⟨_, rfl⟩
      obtain ⟨z, hz⟩ : ∃ z : Int, z = g / 2 ^ (Wd - 1 - k) := ⟨_, rfl⟩
      rw [← hy, ← hz] at hh
      rw [← hz] at hz0 hz1
      rw [← hy] at hy0 ⊢
      have hb := HBIT.out k hlt
      rw [← hz] at hb
      have cb := refBit_any L hL ((F : Int) + (k : Int))
      rw [hb] at cb
      have HZ : Hid (z = g / 2 ^ (Wd - 1 - k)) := hz
      have HH : Hid (y * 2 + z % 2 = z) := hh
      have hy1 : y * 2 ≤ 4294967295 := by omega
      have ne1 := Later.ne wr
      rcases (show z % 2 = 1 ∨ z % 2 = 0 by omega) with hm | hm
      · have hy2 : y * 2 + 1 ≤ 4294967295 := by omega
        rw [hm, show ((1 : Int) == 1) = true from rfl] at cb
        have HM : Hid (z % 2 = 1) := hm
        clear hy hz hb hG hh hm
        have CB : Hid _ := cb
        clear cb
        go_wp2_with (first
          | (go_at_call 96; refine (K18.out _).mono ?_; rintro e w' ⟨rfl, rfl⟩))
        refine wp_region_later (by kernel_rfl) (by kernel_rfl) ?_
        refine qlH rfl _ rfl w.heap.size rfl L g1 hl ?_
        simp only [Act.put, List.setIfInBounds_toArray, List.set_cons_succ, List.set_cons_zero]
        go_big_quiet_step (fail)
        go_big_quiet_want; go_big_quiet_op
        refine ⟨_, fun u => Calls.later_same (K17.out u.world), ?_⟩
        go_big_quiet_on
        go_big_quiet_step (fail)
        go_big_quiet_step (fail)
        go_big_quiet_want; go_big_quiet_op
        refine ⟨_, fun u => Calls.later_of (CB.out u.world), ?_⟩
        go_big_quiet_on
        refine wpQuiet_nil ?_
        rintro w2 ⟨u, rfl⟩
        go_wp2_with fail
        go_roundw
        case rel =>
          refine ⟨k + 1, by omega, by go_num, ?_, later_block g1 _ ⟨u, rfl⟩, hbw.trans (u.below.mono hbw.size)⟩
          rw [show Wd - (k + 1) = Wd - 1 - k by omega, ← HZ.out]
          congr 1
          have := HH.out
          have := HM.out
          omega
        case measure => simp [intOf]; omega
      · rw [hm, show ((0 : Int) == 1) = false from rfl] at cb
        have HM : Hid (z % 2 = 0) := hm
        clear hy hz hb hG hh hm
        have CB : Hid _ := cb
        clear cb
        go_wp2_with (first
          | (go_at_call 96; refine (K18.out _).mono ?_; rintro e w' ⟨rfl, rfl⟩))
        refine wp_region_later (by kernel_rfl) (by kernel_rfl) ?_
        refine qlH rfl _ rfl w.heap.size rfl L g1 hl ?_
        simp only [Act.put, List.setIfInBounds_toArray, List.set_cons_succ, List.set_cons_zero]
        go_big_quiet_step (fail)
        go_big_quiet_want; go_big_quiet_op
        refine ⟨_, fun u => Calls.later_same (K17.out u.world), ?_⟩
        go_big_quiet_on
        go_big_quiet_step (fail)
        go_big_quiet_step (fail)
        go_big_quiet_want; go_big_quiet_op
        refine ⟨_, fun u => Calls.later_of (CB.out u.world), ?_⟩
        go_big_quiet_on
        refine wpQuiet_nil ?_
        rintro w2 ⟨u, rfl⟩
        go_wp2_with fail
        go_roundw
        case rel =>
          refine ⟨k + 1, by omega, by go_num, ?_, later_block g1 _ ⟨u, rfl⟩, hbw.trans (u.below.mono hbw.size)⟩
          rw [show Wd - (k + 1) = Wd - 1 - k by omega, ← HZ.out]
          congr 1
          have := HH.out
          have := HM.out
          omega
        case measure => simp [intOf]; omega
    · obtain rfl : k = Wd := by omega
      go_wp2_with (first
        | (go_at_call 96; refine (K18.out _).mono ?_; rintro e w' ⟨rfl, rfl⟩))
      go_ret2
      exact ⟨rfl, hbw⟩
end Go.Proofs.YtnbklmmampdbfaaDoor
namespace Go.Proofs.YtnbklmmampdbfaaDoor
open Go Go.RowKit
set_option maxRecDepth 20000

set_option maxHeartbeats 400000 in
theorem refField_no (L : List Int) (f : Int) (w : World) (hf : f < 0 ∨ 5 ≤ f) :
    Calls Tryd.prog 79 #[.agg (hv L), .int .i64 f] w fun e w' => e = .returned (.tuple #[.int .u32 0, .int .i64 1]) ∧ Below w.heap.size w w' := by
  go_enter Tryd.func79, Tryd.ntmps79
  go_wp2_with (go_at_call 95; refine (first_no _ _ hf).mono ?_; rintro e w' ⟨rfl, rfl⟩)
  go_ret2
  exact ⟨rfl, (Below.refl _ _).alloc (Nat.le_refl _) _⟩

theorem first_at (f : Int) (h0 : 0 ≤ f) (h1 : f < 5) (W : World) : Calls Tryd.prog 95 #[.int .i64 f] W fun e w' => e = .returned (.int .i64 ((8 * atOf f : Nat) : Int)) ∧ w' = W := by
  have h := first_in f W h0 h1
  rw [(place_facts f h0 h1).1] at h
  rw [Int.natCast_mul]; exact h
theorem width_at (f : Int) (h0 : 0 ≤ f) (h1 : f < 5) (W : World) : Calls Tryd.prog 96 #[.int .i64 f] W fun e w' => e = .returned (.int .i64 ((8 * sizeOfF f : Nat) : Int)) ∧ w' = W := by
  have h := width_in f W h0 h1
  rw [(place_facts f h0 h1).2.1] at h
  rw [Int.natCast_mul]; exact h

theorem refField_ok (L : List Int) (hL : Byt L) (f : Int) (w : World) (h0 : 0 ≤ f) (h1 : f < 5) :
    Calls Tryd.prog 79 #[.agg (hv L), .int .i64 f] w fun e w' => e = .returned (.tuple #[.int .u32 (getN L (atOf f) (sizeOfF f)), .int .i64 0]) ∧ Below w.heap.size w w' := by
  obtain ⟨_, _, a1, a2, _⟩ := place_facts f h0 h1
  exact refField_core L hL f (atOf f) (sizeOfF f) w a1 a2 (first_at f h0 h1) (width_at f h0 h1)

theorem putN_at (L : List Int) (at0 size : Nat) (v : Int) : ∀ n, at0 + n ≤ L.length → ∀ k, (putN L at0 size v n).getD k 0 = if at0 ≤ k ∧ k < at0 + n then v / 2 ^ (8 * (size - 1 - (k - at0))) % 256 else L.getD k 0
  | 0, _, k => by rw [if_neg (by omega)]; rfl
  | n + 1, h, k => by
    show ((putN L at0 size v n).set (at0 + n) _).getD k 0 = _
    rw [getD_set _ _ _ _ (by rw [putN_length]; omega)]
    by_cases e : at0 + n = k
    · rw [if_pos e, if_pos (by omega), show k - at0 = n by omega]
    · rw [if_neg e, putN_at L at0 size v n (by omega) k]
      by_cases e2 : at0 ≤ k ∧ k < at0 + n
      · rw [if_pos e2, if_pos (by omega)]
      · rw [if_neg e2, if_neg (by omega)]
theorem putN_byt (L : List Int) (hL : Byt L) (at0 size : Nat) (v : Int) (hs : at0 + size ≤ 13) : Byt (putN L at0 size v size) := by
  refine ⟨by rw [putN_length]; exact hL.1, fun k => ?_⟩
  rw [putN_at L at0 size v size (by rw [hL.1]; exact hs) k]
  split
  · exact ⟨Int.emod_nonneg _ (by decide), Int.emod_lt_of_pos _ (by decide)⟩
  · exact hL.2 k

theorem head_ext (A B : List Int) (hA : Byt A) (hB : Byt B) (h : ∀ k : Nat, k < 104 → bitB A (k : Int) = bitB B (k : Int)) : A = B :=
  bt_ext A B hA hB fun i hi => by rw [← bitB_bt A i hi, ← bitB_bt B i hi]; exact h i hi

theorem withB_put (L : List Int) (hL : Byt L) (at0 size v : Nat) (hs : at0 + size ≤ 13) : withB L (8 * at0) (8 * size) v (8 * size) = putN L at0 size (v : Int) size := by
  obtain ⟨h1, h2⟩ := withB_bit L hL (8 * at0) (8 * size) v (by omega) (8 * size) (by omega)
  refine head_ext _ _ h1 (putN_byt L hL at0 size v hs) fun k hk => ?_
  rw [h2 k hk]
  have e : k = 8 * (k / 8) + k % 8 := by omega
  have hb := hbit_in (putN L at0 size (v : Int) size) (k / 8) (k % 8) (by omega) (by omega)
  rw [← e, putN_at L at0 size v size (by rw [hL.1]; exact hs)] at hb
  rw [hb]
  by_cases c : 8 * at0 + 8 * size - 8 * size ≤ k ∧ k < 8 * at0 + 8 * size
  · rw [if_pos c, if_pos (by omega), bit_of_byte _ _ _ (by omega), show 8 * (size - 1 - (k / 8 - at0)) + (7 - k % 8) = 8 * at0 + 8 * size - 1 - k by omega, Bool.eq_iff_iff, beq_iff_eq, beq_iff_eq]
    have hc : (v : Int) / 2 ^ (8 * at0 + 8 * size - 1 - k) = ((v / 2 ^ (8 * at0 + 8 * size - 1 - k) : Nat) : Int) := by simp
    rw [hc]; omega
  · rw [if_neg c, if_neg (by omega)]
    have hb2 := hbit_in L (k / 8) (k % 8) (by omega) (by omega)
    rw [← e] at hb2
    exact hb2

end Go.Proofs.YtnbklmmampdbfaaDoor
namespace Go.Proofs.YtnbklmmampdbfaaDoor
open Go.ChangeShapes Go.WideShapes Go.ChangeAt Go.WideMaps Go.WideElems Go.RowKit
set_option maxRecDepth 20000

theorem bytes_of {H : Type} {enc : TypeId × Value → H} {W : World} {base : Nat} {spare : Nat → Bool} {held : Bool} {fuel : Nat} {cs : List Value} {x : DataW H × List MemPlace} (hl : cs.length = 13)
    (h : DataW.trod enc Tryd.prog W base spare held fuel 23 cs = some x) : ∃ L : List Int, cs = L.map (Value.int .u8) ∧ Byt L := by
  have c5 : Tryd.prog.cellsOf 5 = 1 := by kernel_rfl
  obtain ⟨xs, m, rfl, hx, hlen, hn, hel⟩ := DataW.trod_array Tryd.underlying23 h
  have each : ∀ i, i < 13 → ∃ z : Int, cs[i]? = some (.int .u8 z) ∧ 0 ≤ z ∧ z < 256 := fun i hi => by
    have h1 := hel i hi
    rw [List.getElem?_eq_getElem (show i < xs.length by omega), c5, Nat.mul_one] at h1
    obtain ⟨z, ez, _, wz⟩ := DataW.trod_int Tryd.underlying5 h1
    refine ⟨z, ?_, ?_⟩
    · have := congrArg (·[0]?) ez
      simpa [List.getElem?_take, List.getElem?_drop] using this
    · have := bounds_u8 wz
      omega
  refine ⟨cs.map intOf, ?_, by simp [hl], fun k => ?_⟩
  · apply List.ext_getElem?
    intro k
    rcases Nat.lt_or_ge k 13 with hk | hk
    · obtain ⟨z, hz, _⟩ := each k hk
      simp only [List.getElem?_map, hz]
      rfl
    · rw [List.getElem?_eq_none (by omega), List.getElem?_eq_none (by simpa [hl] using hk)]
  · rcases Nat.lt_or_ge k 13 with hk | hk
    · obtain ⟨z, hz, hb⟩ := each k hk
      rw [List.getD, List.getElem?_map, hz]
      exact hb
    · rw [List.getD, List.getElem?_eq_none (by simpa [hl] using hk)]
      decide

/-- A header that comes in: thirteen bytes. -/
theorem open_head {H : Type} {enc : TypeId × Value → H} {W : World} {r : Reach} {b0 base : Nat} {spare : Nat → Bool} {held : Bool} {v : Value} {d : DataW H} {p : List MemPlace}
    (hok : Value.okWide Tryd.prog W r b0 23 v) (h : DataW.Trod enc Tryd.prog W base spare held 23 v d p) :
    ∃ L : List Int, v = .agg (hv L) ∧ Byt L := by
  have c : Tryd.prog.cellsOf 23 = 13 := by kernel_rfl
  simp only [Value.okWide, Tryd.underlying23] at hok
  obtain ⟨cs, rfl, hsz, _⟩ := hok
  obtain ⟨fuel, hf⟩ := h
  obtain ⟨L, hL, hb⟩ := bytes_of (by simp only [Value.cells, Array.length_toList]; rw [hsz, c]) hf
  refine ⟨L, ?_, hb⟩
  unfold hv
  rw [← hL]
  simp [Value.cells]


theorem ent_of {H : Type} {enc : TypeId × Value → H} {W : World} {base : Nat} {spare : Nat → Bool} {held : Bool} (fuel : Nat) (cs : List Value) (x : DataW H × List MemPlace) (hl : cs.length = 12)
    (h : DataW.trod enc Tryd.prog W base spare held fuel 47 cs = some x) : ∃ e : Ent, cs = (entV e).toList ∧ ((0 ≤ e.src ∧ e.src < 4294967296) ∧ (0 ≤ e.dst ∧ e.dst < 4294967296)) ∧ (wfN e.prio ∧ wfN e.srcBits ∧ wfN e.dstBits ∧ wfN e.slow ∧ wfN e.shigh ∧ wfN e.dlow ∧ wfN e.dhigh ∧ wfN e.proto ∧ wfN e.action) := by
  have c3 : Tryd.prog.cellsOf 3 = 1 := by kernel_rfl
  have c4 : Tryd.prog.cellsOf 4 = 1 := by kernel_rfl
  have cu : Tryd.prog.cellsOf 45 = 1 := by kernel_rfl
  obtain ⟨xs, n, _, _, _, hxl, hf⟩ := DataW.trod_struct Tryd.underlying47 h
  obtain ⟨b0, h0⟩ := field_bool Tryd.underlying4 c4 (hf 0 _ rfl) (xs_some hxl (by decide))
  obtain ⟨n1, h1, w1⟩ := field_int Tryd.underlying3 c3 (hf 1 _ rfl) (xs_some hxl (by decide))
  obtain ⟨n2, h2, w2⟩ := field_int Tryd.underlying45 cu (hf 2 _ rfl) (xs_some hxl (by decide))
  obtain ⟨n3, h3, w3⟩ := field_int Tryd.underlying3 c3 (hf 3 _ rfl) (xs_some hxl (by decide))
  obtain ⟨n4, h4, w4⟩ := field_int Tryd.underlying45 cu (hf 4 _ rfl) (xs_some hxl (by decide))
  obtain ⟨n5, h5, w5⟩ := field_int Tryd.underlying3 c3 (hf 5 _ rfl) (xs_some hxl (by decide))
  obtain ⟨n6, h6, w6⟩ := field_int Tryd.underlying3 c3 (hf 6 _ rfl) (xs_some hxl (by decide))
  obtain ⟨n7, h7, w7⟩ := field_int Tryd.underlying3 c3 (hf 7 _ rfl) (xs_some hxl (by decide))
  obtain ⟨n8, h8, w8⟩ := field_int Tryd.underlying3 c3 (hf 8 _ rfl) (xs_some hxl (by decide))
  obtain ⟨n9, h9, w9⟩ := field_int Tryd.underlying3 c3 (hf 9 _ rfl) (xs_some hxl (by decide))
  obtain ⟨n10, h10, w10⟩ := field_int Tryd.underlying3 c3 (hf 10 _ rfl) (xs_some hxl (by decide))
  obtain ⟨n11, h11, w11⟩ := field_int Tryd.underlying3 c3 (hf 11 _ rfl) (xs_some hxl (by decide))
  have u2 := bounds_u32 w2
  have u4 := bounds_u32 w4
  refine ⟨⟨b0, n1, n11, n2, n3, n4, n5, n6, n7, n8, n9, n10⟩, ?_, ⟨⟨show 0 ≤ n2 by omega, show n2 < 4294967296 by omega⟩, ⟨show 0 ≤ n4 by omega, show n4 < 4294967296 by omega⟩⟩, w1, w3, w5, w6, w7, w8, w9, w10, w11⟩
  match cs, hl with
  | [a0, a1, a2, a3, a4, a5, a6, a7, a8, a9, a10, a11], _ =>
    obtain rfl : a0 = .bool b0 := by simpa using h0
    obtain rfl : a1 = .int .i64 n1 := by simpa using h1
    obtain rfl : a2 = .int .u32 n2 := by simpa using h2
    obtain rfl : a3 = .int .i64 n3 := by simpa using h3
    obtain rfl : a4 = .int .u32 n4 := by simpa using h4
    obtain rfl : a5 = .int .i64 n5 := by simpa using h5
    obtain rfl : a6 = .int .i64 n6 := by simpa using h6
    obtain rfl : a7 = .int .i64 n7 := by simpa using h7
    obtain rfl : a8 = .int .i64 n8 := by simpa using h8
    obtain rfl : a9 = .int .i64 n9 := by simpa using h9
    obtain rfl : a10 = .int .i64 n10 := by simpa using h10
    obtain rfl : a11 = .int .i64 n11 := by simpa using h11
    rfl
/-- Numbers of an entry that comes in. -/
def wfE (e : Ent) : Prop := wfN e.prio ∧ wfN e.srcBits ∧ wfN e.dstBits ∧ wfN e.slow ∧ wfN e.shigh ∧ wfN e.dlow ∧ wfN e.dhigh ∧ wfN e.proto ∧ wfN e.action
theorem open_entry {H : Type} {enc : TypeId × Value → H} {W : World} {r : Reach} {b0 base : Nat} {spare : Nat → Bool} {held : Bool} {v : Value} {d : DataW H} {p : List MemPlace}
    (hok : Value.okWide Tryd.prog W r b0 47 v) (h : DataW.Trod enc Tryd.prog W base spare held 47 v d p) :
    ∃ e : Ent, v = .agg (entV e) ∧ ((0 ≤ e.src ∧ e.src < 4294967296) ∧ (0 ≤ e.dst ∧ e.dst < 4294967296)) ∧ wfE e := by
  have c : Tryd.prog.cellsOf 47 = 12 := by kernel_rfl
  simp only [Value.okWide, Tryd.underlying47] at hok
  obtain ⟨cs, rfl, hsz, _⟩ := hok
  obtain ⟨fuel, hf⟩ := h
  obtain ⟨e, he, h1, h2⟩ := ent_of fuel _ _ (by simp only [Value.cells, Array.length_toList]; rw [hsz, c]) hf
  refine ⟨e, ?_, h1, h2⟩
  congr 1
  simp only [Value.cells] at he
  exact Array.ext' he
/-- Entries that come in. -/
theorem open_ents {H : Type} {enc : TypeId × Value → H} {W : World} {r : Reach} {b0 base : Nat} {spare : Nat → Bool} {held : Bool} {v : Value} {d : DataW H} {p : List MemPlace}
    (hok : Value.okWide Tryd.prog W r b0 25 v) (h : DataW.Trod enc Tryd.prog W base spare held 25 v d p) :
    ∃ l, GSl EntE entV W v l ∧ ∀ e ∈ l, ((0 ≤ e.src ∧ e.src < 4294967296) ∧ (0 ≤ e.dst ∧ e.dst < 4294967296)) ∧ wfE e := by
  obtain ⟨fuel, hf⟩ := h
  have hv1 : v.cells.toList = [v] := by
    simp only [Value.okWide, Cell.okWide, Cell.ok, Tryd.underlying25] at hok
    cases v <;> simp_all [Value.cells]
  rw [hv1] at hf
  have hin : Inhabited Ent := ⟨⟨false, 0, 0, 0, 0, 0, 0, 0, 0, 0, 0, 0⟩⟩
  exact open_any (E := EntE) EntOk entV (fun _ => rfl) (fun e => ((0 ≤ e.src ∧ e.src < 4294967296) ∧ (0 ≤ e.dst ∧ e.dst < 4294967296)) ∧ wfE e) (fun fuel cs x h1 h2 => ent_of fuel cs x h1 h2) hf

theorem pairs_of {H : Type} {enc : TypeId × Value → H} {W : World} {base : Nat} {spare : Nat → Bool} {held : Bool} {fuel n : Nat} {t s : TypeId} {f0 f1 : Field} {cs : List Value} {zs : List (Int × Int)} {ps : List MemPlace}
    (ht : Tryd.prog.underlying t = some (.array n s)) (hs : Tryd.prog.underlying s = some (.struct #[f0, f1])) (c2 : Tryd.prog.cellsOf s = 2) (e0 : f0.type = 3) (e1 : f1.type = 3) (o0 : f0.offset = 0) (o1 : f1.offset = 1)
    (h : DataW.trod enc Tryd.prog W base spare held fuel t cs = some (.agg (zs.map fun z => .agg [.lit (.int .i64 z.1), .lit (.int .i64 z.2)]), ps)) (i : Nat) (hi : i < n) :
    ∃ z, zs[i]? = some z ∧ cs[2 * i]? = some (.int .i64 z.1) ∧ cs[2 * i + 1]? = some (.int .i64 z.2) := by
  have c3 : Tryd.prog.cellsOf 3 = 1 := by kernel_rfl
  obtain ⟨xs, m, rfl, hx, hlen, hn, hel⟩ := DataW.trod_array ht h
  have hi' : i < xs.length := by omega
  have h1 := hel i hi
  rw [List.getElem?_eq_getElem hi', c2] at h1
  obtain ⟨y0, y1, k, hy, _, t0, t1⟩ := trod_struct2 hs h1
  rw [e0, c3, o0] at t0
  rw [e1, c3, o1] at t1
  obtain ⟨a, ca, rfl, _⟩ := DataW.trod_int Tryd.underlying3 t0
  obtain ⟨b, cb, rfl, _⟩ := DataW.trod_int Tryd.underlying3 t1
  simp only [Prod.mk.injEq, DataW.agg.injEq] at hx
  have hm : (zs.map fun z => (DataW.agg [.lit (.int .i64 z.1), .lit (.int .i64 z.2)] : DataW H))[i]? = (xs.map (·.1))[i]? := by rw [hx.1]
  rw [List.getElem?_map, List.getElem?_map, List.getElem?_eq_getElem hi', hy] at hm
  simp only [Option.map_some, Option.map_eq_some_iff, DataW.agg.injEq, List.cons.injEq, DataW.lit.injEq, Lit.int.injEq, true_and, and_true] at hm
  obtain ⟨z, hz, za, zb⟩ := hm
  have ga : cs[2 * i]? = some (.int .i64 a) := by
    have := congrArg (·[0]?) ca
    simpa [List.getElem?_take, List.getElem?_drop, Nat.mul_comm] using this
  have gb : cs[2 * i + 1]? = some (.int .i64 b) := by
    have := congrArg (·[0]?) cb
    simpa [List.getElem?_take, List.getElem?_drop, Nat.mul_comm] using this
  exact ⟨z, hz, by rw [za]; exact ga, by rw [zb]; exact gb⟩


abbrev laid1 : List (String × DataW Unit) := [("milepost/head.places", Rows.laid_milepost_head_places)]
theorem of_laid1 {W : World} (h : laidMetH Tryd.prog laid1 W) : Places W := by
  rw [MakeChecks.laidMetH_plain _ _ _ (by kernel_rfl)] at h
  obtain ⟨ps, ⟨g3, t3, cs3, f3, p3, q3, hg3, ht3, hv3, hd3, _, _⟩, _, _⟩ := h
  obtain rfl := Option.some.inj ((show Tryd.prog.globalNamed "milepost/head.places" = some 0 by kernel_rfl).symm.trans hg3)
  obtain rfl := Option.some.inj ((show (Tryd.prog.globals[0]?).map (·.type) = some 165 by kernel_rfl).symm.trans ht3)
  intro k hk
  rw [World.var?_cell hg3 hv3 k]
  obtain ⟨z, hz, h0, h1⟩ := pairs_of (zs := [(0, 32), (32, 32), (64, 16), (80, 16), (96, 8)]) Tryd.underlying165 Tryd.underlying164 (by kernel_rfl) rfl rfl rfl rfl hd3 (k / 2) (by omega)
  rw [← Array.getElem?_toList]
  rcases (show k = 0 ∨ k = 1 ∨ k = 2 ∨ k = 3 ∨ k = 4 ∨ k = 5 ∨ k = 6 ∨ k = 7 ∨ k = 8 ∨ k = 9 by omega) with h | h | h | h | h | h | h | h | h | h <;> subst h <;> simp at hz <;> subst hz <;> first | exact h0 | exact h1
end Go.Proofs.YtnbklmmampdbfaaDoor
namespace Go.Proofs.YtnbklmmampdbfaaDoor
open Go Go.RowKit
set_option maxRecDepth 20000

/-- A rule. -/
structure RuleM where
  order : Int
  cube : List Int × List Int
  action : Int
def okR8 (r : RuleM) : Prop := Byt r.cube.1 ∧ Byt r.cube.2
def ruleV (r : RuleM) : Array Value := #[.int .i64 r.order] ++ (cv r.cube.1 r.cube.2 ++ #[.int .i64 r.action])
def RuleE : El := ⟨35, 29, 28, 48, #[.int .i64 0] ++ (zeroC ++ #[.int .i64 0])⟩
theorem RuleOk : RuleE.Ok := ⟨Tryd.underlying29, ⟨_, Tryd.underlying35, rfl⟩, by kernel_rfl, by decide, by decide, by decide, by decide⟩
def CubE : El := ⟨33, 78, 26, 26, zeroC⟩
theorem CubOk : CubE.Ok := ⟨Tryd.underlying78, ⟨_, Tryd.underlying33, rfl⟩, by kernel_rfl, by decide, by decide, by decide, by decide⟩
theorem ruleV_size {r : RuleM} (h : okR8 r) : (ruleV r).size = 28 := by
  unfold ruleV
  simp [cv_size _ _ h.1.1 h.2.1]
theorem rule_fits {r : RuleM} (h : okR8 r) : Fits RuleE (ruleV r) := by
  refine ⟨ruleV_size h, ?_⟩
  unfold ruleV
  rw [Array.all_append, Array.all_append, cv_one]
  simp [Value.oneCell']
theorem list13 {V : List Int} (h : V.length = 13) : ∃ a b c d e f g i j k l m n, V = [a, b, c, d, e, f, g, i, j, k, l, m, n] := by
  match V, h with
  | [a, b, c, d, e, f, g, i, j, k, l, m, n], _ => exact ⟨a, b, c, d, e, f, g, i, j, k, l, m, n, rfl⟩
/-- A rule's cells. -/
theorem rule_at {r : RuleM} (h : okR8 r) : (ruleV r)[0]? = some (.int .i64 r.order) ∧ (∀ j, j < 26 → (ruleV r)[1 + j]? = (cv r.cube.1 r.cube.2)[j]?) ∧ (ruleV r)[27]? = some (.int .i64 r.action) := by
  have hs := cv_size _ _ h.1.1 h.2.1
  unfold ruleV
  refine ⟨?_, fun j hj => ?_, ?_⟩
  · rw [Array.getElem?_append_left (by simp)]; rfl
  · rw [Array.getElem?_append_right (by simp), Array.getElem?_append_left (by simp [hs]; omega)]
    simp
  · rw [Array.getElem?_append_right (by simp), Array.getElem?_append_right (by simp [hs])]
    simp [hs]
theorem zero_rule : RuleE.zero = ruleV ⟨0, (Z, Z), 0⟩ := by
  unfold RuleE ruleV
  rw [← zeroC_eq]
set_option maxRecDepth 100000 in
theorem build_rule (n a : Int) (V M : List Int) (hV : V.length = 13) (hM : M.length = 13) (W : World) : (Instr.build 35 #[(0, .int .i64 n), (1, .agg (cv V M)), (2, .int .i64 a)]).run Tryd.prog W = .ok (.agg (ruleV ⟨n, (V, M), a⟩)) W := by
  obtain ⟨a0, a1, a2, a3, a4, a5, a6, a7, a8, a9, a10, a11, a12, rfl⟩ := list13 hV
  obtain ⟨b0, b1, b2, b3, b4, b5, b6, b7, b8, b9, b10, b11, b12, rfl⟩ := list13 hM
  kernel_rfl
theorem wl_buildR {ops : Array Oper} {rest : List Oper} {o : Oper} {a : Act} {w : World} {Q : Exit → Act → World → Prop} (hgd : o.guard = none) (x y z : Operand) (ho : o.op = .build 35 #[(0, x), (1, y), (2, z)]) (n : Int) (V M : List Int) (c : Int) (hV : V.length = 13) (hM : M.length = 13)
    (hx : a.eval x = .int .i64 n) (hy : a.eval y = .agg (cv V M)) (hz : a.eval z = .int .i64 c) (h : wpList Tryd.prog ops Q rest (a.put o.dst (.agg (ruleV ⟨n, (V, M), c⟩))) w) : wpList Tryd.prog ops Q (o :: rest) a w := by
  refine wpList_plain hgd fun _ hK => ?_
  unfold Oper.wp execOp
  simp only [ho, Sem.run_bind, List.map_toArray, List.map_cons, List.map_nil, hx, hy, hz, build_rule n c V M hV hM, Result.andThen_ok, Sem.run_pure]
  exact hK _ _ h
theorem eqC_in (V M V' M' : List Int) (hV : V.length = 13) (hM : M.length = 13) (hV' : V'.length = 13) (hM' : M'.length = 13) (w : World) :
    (Op.equalIn 9999 33 (.agg (cv V M)) (.agg (cv V' M'))).run Tryd.prog w = .ok (V == V' && M == M') w := by
  have eH : ∀ A B : List Int, A.length = 13 → B.length = 13 → ∀ w, (Op.equalIn 9998 23 (.agg (hv A)) (.agg (hv B))).run Tryd.prog w = .ok (A == B) w := fun A B hA hB w => by
    have z5 : (sizeOf 5).run Tryd.prog w = .ok 1 w := by kernel_rfl
    rw [show (9998 : Nat) = 9997 + 1 from rfl, Op.equalIn]
    simp only [Sem.run_bind, run_underlying Tryd.underlying23, Result.andThen_ok, z5]
    simp only [Std.Legacy.Range.forIn_eq_forIn_range', Std.Legacy.Range.size, Nat.sub_zero, Nat.add_sub_cancel, Nat.div_one]
    rw [← all_eq A B hA hB]
    exact loopN 9996 A B hA hB w _ rfl rfl (List.range' 0 13) (fun i hi => by simp at hi; omega)
  rw [show (9999 : Nat) = 9998 + 1 from rfl, run_equalIn_struct w 9998 33 _ _ (by kernel_rfl) (by kernel_rfl)]
  rw [show (Tryd.prog.fieldsOf 33).toList = [{ name := "Value", type := 23, offset := 0, embedded := false, tag := "", pkgPath := "", byteOffset := 0 }, { name := "Mask", type := 23, offset := 13, embedded := false, tag := "", pkgPath := "", byteOffset := 13 }] from by kernel_rfl]
  simp only [Op.eqFields, ne_eq, String.reduceEq, not_false_eq_true, if_true, Sem.run_bind]
  simp only [part_val V M hV, part_val V' M' hV', Result.andThen_ok, eH V V' hV hV']
  cases hA : (V == V')
  · simp
  · simp only [Bool.not_true, Bool.false_eq_true, if_false, Sem.run_bind, part_mask V M hV hM, part_mask V' M' hV' hM', Result.andThen_ok, eH M M' hM hM']
    cases hB : (M == M') <;> simp
/-- A rule is the same as itself. -/
theorem eqR_same {r : RuleM} (h : okR8 r) (w : World) : (Op.equalIn 10000 35 (.agg (ruleV r)) (.agg (ruleV r))).run Tryd.prog w = .ok true w := by
  have hs := cv_size _ _ h.1.1 h.2.1
  obtain ⟨c0, c1, c2⟩ := rule_at h
  have hp : (part 33 (ruleV r) 1).run Tryd.prog w = .ok (.agg (cv r.cube.1 r.cube.2)) w := by
    have hz : ∀ w, (sizeOf 33).run Tryd.prog w = .ok 26 w := fun w => by kernel_rfl
    have ha : ∀ w, (isAgg 33).run Tryd.prog w = .ok true w := fun w => by kernel_rfl
    have e : (ruleV r).extract 1 27 = cv r.cube.1 r.cube.2 := by
      apply Array.ext_getElem?
      intro k
      rw [Array.getElem?_extract]
      have hz := ruleV_size h
      split
      · rename_i hk
        rw [hz] at hk
        exact c1 k (by omega)
      · rename_i hk
        rw [hz] at hk
        rw [Array.getElem?_eq_none (by omega)]
    simp [part, ha, hz, Sem.run_bind, e]
  have a3 : (isAgg 3).run Tryd.prog w = .ok false w := by kernel_rfl
  have hh : (Op.equalIn 10000 35 (.agg (ruleV r)) (.agg (ruleV r))).run Tryd.prog w = .ok ((r.order == r.order) && ((r.cube.1 == r.cube.1 && r.cube.2 == r.cube.2) && ((r.action == r.action) && true))) w := by
    rw [run_equalIn_struct w 9999 35 _ _ Tryd.underlying35 (by kernel_rfl)]
    simp only [Program.fieldsOf, Tryd.underlying35]
    refine eqFields_step w (by decide) (part_cell w a3 c0) (part_cell w a3 c0) (run_equalIn_int w _ 3 .i64 .i64 _ _ Tryd.underlying3) ?_
    refine eqFields_step w (by decide) hp hp (eqC_in _ _ _ _ h.1.1 h.2.1 h.1.1 h.2.1 w) ?_
    refine eqFields_step w (by decide) (part_cell w a3 c2) (part_cell w a3 c2) (run_equalIn_int w _ 3 .i64 .i64 _ _ Tryd.underlying3) ?_
    rfl
  rw [hh]
  simp
theorem egR (op : BinOp) (x y : Operand) (xs ys : Array Value) (w : World) : (eqGuard op 35 x y (.agg xs) (.agg ys)).run Tryd.prog w = .ok () w :=
  run_eqGuard_agg w op 35 x y xs ys (by kernel_rfl)
end Go.Proofs.YtnbklmmampdbfaaDoor
namespace Go.Proofs.YtnbklmmampdbfaaDoor
open Go Go.RowKit
set_option maxRecDepth 20000

/-- The first rule that has a header. -/
def hasR (H : List Int) (r : RuleM) : Bool := has r.cube.1 r.cube.2 H
def rule0 : RuleM := ⟨0, (Z, Z), 0⟩
def lookT (l : List RuleM) (H : List Int) : RuleM × Bool := match l.find? (hasR H) with
  | some r => (r, true)
  | none => (rule0, false)
theorem find_take_none {α : Type} {p : α → Bool} {l : List α} {k : Nat} {x : α} (h : (l.take k).find? p = none) (hx : l[k]? = some x) (hp : p x = false) : (l.take (k + 1)).find? p = none := by
  rw [List.take_add_one, hx, List.find?_append, h]
  simp [hp]
theorem find_of_take {α : Type} {p : α → Bool} {l : List α} {k : Nat} {x : α} (h : (l.take k).find? p = none) (hx : l[k]? = some x) (hp : p x = true) : l.find? p = some x := by
  obtain ⟨hk, rfl⟩ := List.getElem?_eq_some_iff.1 hx
  conv => lhs; rw [← List.take_append_drop k l]
  rw [List.find?_append, h, List.drop_eq_getElem_cons hk, List.find?_cons, hp]
  rfl
theorem rule0_ok : okR8 rule0 := ⟨Z_byt, Z_byt⟩
/-- The end of a function that answers a rule in memory and a truth value. -/
theorem retRb {fn : Func} {R : Ending → World → Prop} {a : Act} {w : World} {p u : Tmp} (hr : fn.results = #[.cell p 35, .tmp u]) (hd : a.defers = []) (g : Nat) (hp : a.tmps.getD p undef = .pointer (some ⟨g, 0, none⟩)) (r : RuleM) (hk : okR8 r)
    (hg : w.heap[g]? = some (.cells (ruleV r) 35 (0, 0))) (v : Value) (hv : a.tmps.getD u undef = v) (h : R (.returned (.tuple #[.agg (ruleV r), v])) w) : bodyPost Tryd.prog fn R .ret a w := by
  refine bodyPost_ret (v := .tuple #[.agg (ruleV r), v]) ?_ hd h
  have hl := RuleOk.load w g 0 _ _ _ (ruleV r) (ruleV_size hk) hg (own_cells _ _)
  unfold RuleE at hl
  simp only at hl
  have hp' : a.tmps[p]?.getD undef = .pointer (some ⟨g, 0, none⟩) := by simpa using hp
  have hv' : a.tmps[u]?.getD undef = v := by simpa using hv
  simp [results, hr, hp', hv', hl, asAddr]

def RulesAt (w : World) (v : Value) (l : List RuleM) : Prop := GSl RuleE ruleV w v l
set_option maxHeartbeats 8000000 in
set_option maxRecDepth 100000 in
theorem look_any (l : List RuleM) (hl0 : ∀ r ∈ l, okR8 r) (vl : Value) (H : List Int) (hH : Byt H) (w : World) (hl : RulesAt w vl l) :
    Calls Tryd.prog 10 #[vl, .agg (hv H)] w fun e w' => e = .returned (.tuple #[.agg (ruleV (lookT l H).1), .bool (lookT l H).2]) ∧ Below w.heap.size w w' := by
  have hHl := hH.1
  have HA : Hid (∀ (V M : List Int) W, Byt V → Byt M → Calls Tryd.prog 16 #[.agg (cv V M), .agg (hv H)] W fun e w' => e = .returned (.bool (has V M H)) ∧ Below W.heap.size W w') := fun V M W h1 h2 => has_any V M H h1 h2 hH W
  obtain ⟨o, cap, rfl, hc1, hc2⟩ := GSl.slice hl
  obtain ⟨n, hn0⟩ : ∃ n, n = l.length := ⟨_, rfl⟩
  have HN : Hid (n = l.length) := hn0
  rw [← hn0] at hl hc1 ⊢
  have HL : Hid (RulesAt w (.slice o n cap) l) := hl
  have HOK : Hid (∀ r ∈ l, okR8 r) := hl0
  unfold maxLen at hc2
  have K0 : Hid (((w.alloc (.cells (hv H) 23)).alloc (.cells RuleE.zero 35)).heap[w.heap.size]? = some (.cells (hv H) 23 (0, 0)) ∧ ((w.alloc (.cells (hv H) 23)).alloc (.cells RuleE.zero 35)).heap[w.heap.size + 1]? = some (.cells RuleE.zero 35 (0, 0))) := ⟨heap_past _ _ _ _ (heap_new _ _ _ rfl), heap_new _ _ _ (by simp)⟩
  have B0 : Hid (Below w.heap.size w ((w.alloc (.cells (hv H) 23)).alloc (.cells RuleE.zero 35))) := ((Below.refl _ _).alloc (Nat.le_refl _) _).alloc (by simp) _
  obtain ⟨S, hS⟩ : ∃ S, S = lookT l H := ⟨_, rfl⟩
  have HS : Hid (S = lookT l H) := hS
  rw [← hS]
  clear hl hn0 hl0 hS
  go_enter Tryd.func10, Tryd.ntmps10
  go_wp2_with fail
  go_loopw [10] (fun i wr => ∃ k : Nat, k ≤ n ∧ i = .int .i64 (k : Int) ∧ Hid ((l.take k).find? (hasR H) = none) ∧ wr.heap[w.heap.size]? = some (.cells (hv H) 23 (0, 0)) ∧ wr.heap[w.heap.size + 1]? = some (.cells RuleE.zero 35 (0, 0)) ∧ Below w.heap.size w wr) (fun i _ => n - (intOf i).toNat)
  case atStart => exact ⟨0, Nat.zero_le _, rfl, rfl, K0.out.1, K0.out.2, B0.out⟩
  case round =>
    clear K0 B0
    obtain ⟨k, hk, rfl, HF, h1, h2, hb⟩ := hrel
    have R1 : Hid (wr.heap[w.heap.size]? = some (.cells (hv H) 23 (0, 0))) := h1
    have R2 : Hid (wr.heap[w.heap.size + 1]? = some (.cells RuleE.zero 35 (0, 0))) := h2
    have HB : Hid (Below w.heap.size w wr) := hb
    clear h1 h2 hb
    by_cases hlt : k < n
    · have hlt' : (k : Int) < (n : Int) := by omega
      obtain ⟨g, off, cur, ty, fr, r, rfl, hg, hc, hxk⟩ := (GSl.below HL.out HB.out).at k hlt
      have hr : okR8 r := HOK.out r (List.mem_of_getElem? hxk)
      have HR : Hid (okR8 r) := hr
      have hsz := ruleV_size hr
      have K1 : Hid (wr.heap[g]? = some (.cells cur ty fr)) := hg
      have H1 : Hid (∀ j, j < 28 → cur[off + k * 28 + j]? = (ruleV r)[j]?) := hc
      have KN : Hid ((wr.alloc (.cells (ruleV r) 35)).heap[wr.heap.size]? = some (.cells (ruleV r) 35 (0, 0))) := heap_new _ _ _ rfl
      have RN1 : Hid ((wr.alloc (.cells (ruleV r) 35)).heap[w.heap.size]? = some (.cells (hv H) 23 (0, 0))) := heap_past _ _ _ _ R1.out
      have RN2 : Hid ((wr.alloc (.cells (ruleV r) 35)).heap[w.heap.size + 1]? = some (.cells RuleE.zero 35 (0, 0))) := heap_past _ _ _ _ R2.out
      have BN : Hid (Below w.heap.size w (wr.alloc (.cells (ruleV r) 35))) := HB.out.alloc HB.out.size _
      have HX : Hid (l[k]? = some r) := hxk
      clear hg hc hxk hr
      go_wp2_with (first
        | (refine wl_loadE (E := RuleE) RuleOk rfl _ rfl g (off + k * 28) rfl cur ty fr (ruleV r) hsz K1.out H1.out ?_)
        | (refine wl_storeE (E := RuleE) RuleOk rfl _ _ rfl wr.heap.size (ruleV r) (rule_fits HR.out) rfl rfl _ (heap_new _ _ _ rfl) rfl _ (setRow_new _ _ _ _ _ rfl) ?_)
        | (refine wl_loadE (E := CubE) CubOk rfl _ rfl wr.heap.size 1 rfl _ _ _ (cv r.cube.1 r.cube.2) (cv_size _ _ HR.out.1.1 HR.out.2.1) KN.out (rule_at HR.out).2.1 ?_)
        | (refine wl_load26 rfl _ rfl w.heap.size rfl H RN1.out hHl ?_))
      refine (HA.out r.cube.1 r.cube.2 _ HR.out.1 HR.out.2).mono ?_
      rintro e w1 ⟨rfl, hb1⟩
      have B1 : Hid (Below w.heap.size w w1) := BN.out.trans (hb1.mono BN.out.size)
      have KR : Hid (w1.heap[wr.heap.size]? = some (.cells (ruleV r) 35 (0, 0))) := (hb1.block _ (by simp)).trans KN.out
      have R3 : Hid (w1.heap[w.heap.size]? = some (.cells (hv H) 23 (0, 0))) := (hb1.block _ (Array.getElem?_eq_some_iff.1 RN1.out).1).trans RN1.out
      have R4 : Hid (w1.heap[w.heap.size + 1]? = some (.cells RuleE.zero 35 (0, 0))) := (hb1.block _ (Array.getElem?_eq_some_iff.1 RN2.out).1).trans RN2.out
      clear hb1
      cases hhas : has r.cube.1 r.cube.2 H with
      | true =>
        have HE : Hid (S = (r, true)) := by
          show _ = _
          rw [HS.out]
          unfold lookT
          rw [find_of_take HF.out HX.out hhas]
        clear hhas
        go_wp2_with (first
          | (refine wl_loadE (E := RuleE) RuleOk rfl _ rfl wr.heap.size 0 rfl _ _ _ (ruleV r) hsz KR.out (own_cells _ _) ?_)
          | (refine wl_storeE (E := RuleE) RuleOk rfl _ _ rfl (w.heap.size + 1) (ruleV r) (rule_fits HR.out) rfl rfl _ R4.out rfl _ rfl ?_))
        refine retRb rfl rfl (w.heap.size + 1) rfl r HR.out (setRow_heap _ _ _ _ _ _ R4.out) _ rfl ?_
        rw [HE.out]
        exact ⟨rfl, below_setRow B1.out (by omega) _⟩
      | false =>
        have HF2 : Hid ((l.take (k + 1)).find? (hasR H) = none) := find_take_none HF.out HX.out hhas
        clear hhas
        go_wp2_with fail
        go_roundw
        case rel => exact ⟨k + 1, by omega, by go_num, HF2, R3.out, R4.out, B1.out⟩
        case measure => simp [intOf]; omega
    · have hlt' : ¬ (k : Int) < (n : Int) := by omega
      have HE : Hid (S = (rule0, false)) := by
        have e := HN.out
        have hF := HF.out
        rw [List.take_of_length_le (by omega)] at hF
        show _ = _
        rw [HS.out]
        unfold lookT
        rw [hF]
      have HZ : Hid (RuleE.zero = ruleV rule0) := zero_rule
      go_wp2_with (first
        | (refine wl_storeE (E := RuleE) RuleOk rfl _ _ rfl (w.heap.size + 1) (ruleV rule0) (rule_fits rule0_ok) rfl (by rw [← HZ.out]; rfl) _ R2.out rfl _ rfl ?_))
      refine retRb rfl rfl (w.heap.size + 1) rfl rule0 rule0_ok (setRow_heap _ _ _ _ _ _ R2.out) _ rfl ?_
      rw [HE.out]
      exact ⟨rfl, below_setRow HB.out (by omega) _⟩
end Go.Proofs.YtnbklmmampdbfaaDoor
namespace Go.Proofs.YtnbklmmampdbfaaDoor
open Go.ChangeShapes Go.WideShapes Go.ChangeAt Go.WideMaps Go.WideElems Go.RowKit
set_option maxRecDepth 20000

theorem cube_of8 {H : Type} {enc : TypeId × Value → H} {W : World} {base : Nat} {spare : Nat → Bool} {held : Bool} {fuel : Nat} {cs : List Value} {x : DataW H × List MemPlace} (hl : cs.length = 26)
    (h : DataW.trod enc Tryd.prog W base spare held fuel 33 cs = some x) : ∃ V M : List Int, cs = (cv V M).toList ∧ Byt V ∧ Byt M := by
  have c13 : Tryd.prog.cellsOf 23 = 13 := by kernel_rfl
  obtain ⟨y0, y1, k, hy, _, t0, t1⟩ := trod_struct2 Tryd.underlying33 h
  rw [c13] at t0 t1
  obtain ⟨V, hV, bV⟩ := bytes_of (by simp; omega) t0
  obtain ⟨M, hM, bM⟩ := bytes_of (by simp; omega) t1
  refine ⟨V, M, ?_, bV, bM⟩
  unfold cv hv
  rw [List.map_append, ← hV, ← hM]
  simp only [List.drop_zero]
  rw [List.take_of_length_le (l := List.drop 13 cs) (by simp; omega), List.take_append_drop]
theorem rule_of {H : Type} {enc : TypeId × Value → H} {W : World} {base : Nat} {spare : Nat → Bool} {held : Bool} (fuel : Nat) (cs : List Value) (x : DataW H × List MemPlace) (hl : cs.length = 28)
    (h : DataW.trod enc Tryd.prog W base spare held fuel 35 cs = some x) : ∃ r : { r : RuleM // okR8 r }, cs = (ruleV r.1).toList ∧ True := by
  have c3 : Tryd.prog.cellsOf 3 = 1 := by kernel_rfl
  have c26 : Tryd.prog.cellsOf 33 = 26 := by kernel_rfl
  obtain ⟨xs, n, _, _, _, hxl, hf⟩ := DataW.trod_struct Tryd.underlying35 h
  obtain ⟨n0, h0, w0⟩ := field_int Tryd.underlying3 c3 (hf 0 _ rfl) (xs_some hxl (by decide))
  obtain ⟨n2, h2, w2⟩ := field_int Tryd.underlying3 c3 (hf 2 _ rfl) (xs_some hxl (by decide))
  have h1 : DataW.trod enc Tryd.prog W base spare held n 33 ((cs.drop 1).take (Tryd.prog.cellsOf 33)) = xs[1]? := hf 1 _ rfl
  have hs1 := xs_some hxl (show 1 < 3 by decide)
  obtain ⟨y, hy⟩ := Option.isSome_iff_exists.1 hs1
  rw [hy] at h1
  rw [c26] at h1
  obtain ⟨V, M, hVM, bV, bM⟩ := cube_of8 (by simp; omega) h1
  have hR : okR8 ⟨n0, (V, M), n2⟩ := ⟨bV, bM⟩
  have key : cs = (ruleV ⟨n0, (V, M), n2⟩).toList := by
    have hsz := ruleV_size hR
    obtain ⟨r0, r1, r2⟩ := rule_at hR
    apply List.ext_getElem?
    intro k
    have e : (ruleV ⟨n0, (V, M), n2⟩).toList[k]? = (ruleV ⟨n0, (V, M), n2⟩)[k]? := Array.getElem?_toList
    rw [e]
    rcases (show k = 0 ∨ (1 ≤ k ∧ k < 27) ∨ k = 27 ∨ 28 ≤ k by omega) with rfl | ⟨k1, k2⟩ | rfl | hk
    · rw [r0]; exact h0
    · obtain ⟨j, rfl⟩ : ∃ j, k = 1 + j := ⟨k - 1, by omega⟩
      rw [r1 j (by omega), ← Array.getElem?_toList, ← hVM, List.getElem?_take_of_lt (by omega), List.getElem?_drop]
    · rw [r2]; exact h2
    · rw [List.getElem?_eq_none (by omega), Array.getElem?_eq_none (by omega)]
  exact ⟨⟨_, hR⟩, key, trivial⟩
theorem gsl_map {α β : Type} {E : El} {enc : β → Array Value} {f : α → β} {w : World} {v : Value} {C : List α} (h : GSl E (fun a => enc (f a)) w v C) : GSl E enc w v (C.map f) := by
  obtain ⟨o, cap, h1, h2, h3, h4⟩ := h
  refine ⟨o, cap, by rw [List.length_map]; exact h1, by rw [List.length_map]; exact h2, h3, fun i hi => ?_⟩
  have hi' : i < C.length := by rw [List.length_map] at hi; exact hi
  obtain ⟨g, off, cur, t, fr, e1, e2, e3⟩ := h4 i hi'
  refine ⟨g, off, cur, t, fr, e1, e2, fun j hj => ?_⟩
  have e4 := e3 j hj
  rw [List.getElem_map]
  exact e4
/-- Rules that come in. -/
theorem open_rules {H : Type} {enc : TypeId × Value → H} {W : World} {r : Reach} {b0 base : Nat} {spare : Nat → Bool} {held : Bool} {v : Value} {d : DataW H} {p : List MemPlace}
    (hok : Value.okWide Tryd.prog W r b0 29 v) (h : DataW.Trod enc Tryd.prog W base spare held 29 v d p) :
    ∃ l, RulesAt W v l ∧ ∀ r ∈ l, okR8 r := by
  obtain ⟨fuel, hf⟩ := h
  have hv1 : v.cells.toList = [v] := by
    simp only [Value.okWide, Cell.okWide, Cell.ok, Tryd.underlying29] at hok
    cases v <;> simp_all [Value.cells]
  rw [hv1] at hf
  have hin : Inhabited { r : RuleM // okR8 r } := ⟨⟨rule0, rule0_ok⟩⟩
  have hsz : ∀ a : { r : RuleM // okR8 r }, (ruleV a.1).size = RuleE.size := fun a => ruleV_size a.2
  have hof : ∀ (fuel : Nat) (cs : List Value) (x : DataW H × List MemPlace), cs.length = RuleE.size → DataW.trod enc Tryd.prog W base spare held fuel RuleE.elem cs = some x → ∃ r : { r : RuleM // okR8 r }, cs = (ruleV r.1).toList ∧ True := fun fuel cs x h1 h2 => rule_of fuel cs x h1 h2
  obtain ⟨l, h1, _⟩ := open_any (E := RuleE) RuleOk (fun r : { r : RuleM // okR8 r } => ruleV r.1) hsz (fun _ => True) hof hf
  refine ⟨l.map (fun q : { r : RuleM // okR8 r } => q.1), gsl_map (enc := ruleV) (f := fun q : { r : RuleM // okR8 r } => q.1) h1, fun r hr => ?_⟩
  obtain ⟨q, _, rfl⟩ := List.mem_map.1 hr
  exact q.2
end Go.Proofs.YtnbklmmampdbfaaDoor
namespace Go.Proofs.YtnbklmmampdbfaaDoor
open Go Go.RowKit
set_option maxRecDepth 20000

/-- Has the second cube all that the first one has? -/
def within (V M V' M' : List Int) : Bool := (List.range 104).all fun i => !(bt M' i) || (bt M i && (bt V i == bt V' i))
theorem within_iff (V M V' M' : List Int) : within V M V' M' = true ↔ ∀ i, i < 104 → bt M' i = true → bt M i = true ∧ bt V i = bt V' i := by
  unfold within
  simp only [List.all_eq_true, List.mem_range, Bool.or_eq_true, Bool.not_eq_true', Bool.and_eq_true, beq_iff_eq]
  constructor
  · intro h i hi hm
    rcases h i hi with h' | h'
    · rw [h'] at hm; cases hm
    · exact h'
  · intro h i hi
    cases hm : bt M' i
    · exact .inl rfl
    · exact .inr (h i hi hm)

theorem within_eq (V M V' M' : List Int) (hM : Byt M) (h : meets V M V' M' = true) : (meetV V M V' M' == can V M && meetM M M' == M) = within V M V' M' := by
  rw [Bool.eq_iff_iff, Bool.and_eq_true, beq_iff_eq, beq_iff_eq, within_iff]
  have hm := (meets_iff V M V' M').1 h
  constructor
  · rintro ⟨_, g2⟩ i hi h1
    have e2 : bt (meetM M M') i = (bt M i || bt M' i) := mk_bt _ i hi
    rw [g2, h1, Bool.or_true] at e2
    exact ⟨e2, hm i hi e2 h1⟩
  · intro g
    refine ⟨mk_ext _ _ fun i hi => ?_, (mk_eq M hM _ fun i hi => ?_).symm⟩
    · have := g i hi
      revert this
      cases bt V i <;> cases bt V' i <;> cases bt M i <;> cases bt M' i <;> simp
    · have := g i hi
      revert this
      cases bt M i <;> cases bt M' i <;> simp
theorem within_no (V M V' M' : List Int) (h : meets V M V' M' = false) : within V M V' M' = false := by
  cases e : within V M V' M'
  · rfl
  · rw [within_iff] at e
    have : meets V M V' M' = true := (meets_iff _ _ _ _).2 fun i hi _ h2 => (e i hi h2).2
    rw [h] at this; cases this

set_option maxHeartbeats 2000000 in
theorem within_yes_any (V M V' M' : List Int) (hV : Byt V) (hM : Byt M) (hV' : Byt V') (hM' : Byt M') (h : meets V M V' M' = true) (w : World) :
    Calls Tryd.prog 22 #[.agg (cv V M), .agg (cv V' M')] w fun e w' => e = .returned (.bool (within V M V' M')) ∧ Below w.heap.size w w' := by
  have hVl := hV.1
  have hMl := hM.1
  have hVl' := hV'.1
  have hMl' := hM'.1
  have hAl := (meetV_byt V M V' M').1
  have hBl := (meetM_byt M M').1
  have hCl := (can_byt V M).1
  obtain ⟨r, hr⟩ : ∃ r, r = within V M V' M' := ⟨_, rfl⟩
  have C1 : Hid (∀ W, Calls Tryd.prog 36 #[.agg (cv V M), .agg (cv V' M')] W fun e w' => e = .returned (.tuple #[.agg (cv (meetV V M V' M') (meetM M M')), .bool true]) ∧ Below W.heap.size W w') := by
    have := meet_any V M V' M' hV hM hV' hM'; rwa [meetR_yes _ _ _ _ h] at this
  have C2 : Hid (∀ W, Calls Tryd.prog 37 #[.agg (cv V M)] W fun e w' => e = .returned (.agg (cv (can V M) M)) ∧ Below W.heap.size W w') := canon_any V M hV hM
  have e1 : ∀ w, (Op.equalIn 10000 33 (.agg (cv (meetV V M V' M') (meetM M M'))) (.agg (cv (can V M) M))).run Tryd.prog w = .ok r w := fun w => by rw [eqC _ _ _ _ hAl hBl hCl hMl, within_eq V M V' M' hM h, hr]
  have eg : ∀ op x y (xs ys : Array Value) w, (eqGuard op 33 x y (.agg xs) (.agg ys)).run Tryd.prog w = .ok () w := egC
  rw [← hr]
  clear hV hM hV' hM' h hr
  go_enter Tryd.func22, Tryd.ntmps22
  go_wp2_with (first
    | (refine wl_loadC rfl _ rfl w.heap.size rfl V M (heap_past _ _ _ _ (heap_new _ _ _ rfl)) hVl hMl ?_)
    | (refine wl_loadC rfl _ rfl (w.heap.size + 1) rfl V' M' (heap_new _ _ _ (by simp)) hVl' hMl' ?_))
  refine (C1.out _).mono ?_
  rintro e w1 ⟨rfl, hb1⟩
  have g0 : w1.heap[w.heap.size]? = some (.cells (cv V M) 33 (0, 0)) := by rw [hb1.block _ (by simp; omega)]; exact heap_past _ _ _ _ (heap_new _ _ _ rfl)
  have B1 : Below w.heap.size w w1 := (((Below.refl _ _).alloc (Nat.le_refl _) _).alloc (by simp) _).trans (hb1.mono (by simp; omega))
  clear hb1 C1
  have n0 := heap_past w1 (.cells (cv (meetV V M V' M') (meetM M M')) 33) _ _ g0
  have n1 := heap_new w1 (.cells (cv (meetV V M V' M') (meetM M M')) 33) _ rfl
  have B5 := B1.alloc B1.size (.cells (cv (meetV V M V' M') (meetM M M')) 33)
  obtain ⟨W, hW⟩ : ∃ W, W = w1.alloc (.cells (cv (meetV V M V' M') (meetM M M')) 33) := ⟨_, rfl⟩
  go_wp2_with (first
    | (refine wl_storeC rfl _ _ rfl w1.heap.size _ _ rfl rfl _ (heap_new _ _ _ rfl) rfl hAl hBl _ (setRow_new _ _ _ _ _ rfl) ?_))
  rw [← hW] at n0 n1 B5 ⊢
  clear hW g0 B1
  have ne1 := Later.ne W
  refine wp_region_later (by kernel_rfl) (by kernel_rfl) ?_
  go_big_quiet_step (fail)
  go_big_quiet_step (fail)
  refine qlC rfl _ rfl w1.heap.size rfl (meetV V M V' M') (meetM M M') n1 hAl hBl ?_
  simp only [Act.put, List.setIfInBounds_toArray, List.set_cons_succ, List.set_cons_zero]
  refine qlC rfl _ rfl w.heap.size rfl V M n0 hVl hMl ?_
  simp only [Act.put, List.setIfInBounds_toArray, List.set_cons_succ, List.set_cons_zero]
  go_big_quiet_want; go_big_quiet_op
  refine ⟨_, fun u => Calls.later_of (C2.out u.world), ?_⟩
  go_big_quiet_on
  go_big_quiet_step (fail)
  go_big_quiet_step (fail)
  go_big_quiet_step (fail)
  refine wpQuiet_nil ?_
  rintro w' ⟨u, rfl⟩
  go_wp2
  go_ret
  exact ⟨rfl, B5.trans (u.below.mono B5.size)⟩

set_option maxHeartbeats 2000000 in
theorem within_no_any (V M V' M' : List Int) (hV : Byt V) (hM : Byt M) (hV' : Byt V') (hM' : Byt M') (h : meets V M V' M' = false) (w : World) :
    Calls Tryd.prog 22 #[.agg (cv V M), .agg (cv V' M')] w fun e w' => e = .returned (.bool false) ∧ Below w.heap.size w w' := by
  have hVl := hV.1
  have hMl := hM.1
  have hVl' := hV'.1
  have hMl' := hM'.1
  have hzl := Z_byt.1
  have C1 : Hid (∀ W, Calls Tryd.prog 36 #[.agg (cv V M), .agg (cv V' M')] W fun e w' => e = .returned (.tuple #[.agg (cv Z Z), .bool false]) ∧ Below W.heap.size W w') := by
    have := meet_any V M V' M' hV hM hV' hM'; rwa [meetR_no _ _ _ _ h] at this
  clear hV hM hV' hM' h
  go_enter Tryd.func22, Tryd.ntmps22
  go_wp2_with (first
    | (refine wl_loadC rfl _ rfl w.heap.size rfl V M (heap_past _ _ _ _ (heap_new _ _ _ rfl)) hVl hMl ?_)
    | (refine wl_loadC rfl _ rfl (w.heap.size + 1) rfl V' M' (heap_new _ _ _ (by simp)) hVl' hMl' ?_))
  refine (C1.out _).mono ?_
  rintro e w1 ⟨rfl, hb1⟩
  have B1 : Below w.heap.size w w1 := (((Below.refl _ _).alloc (Nat.le_refl _) _).alloc (by simp) _).trans (hb1.mono (by simp; omega))
  clear hb1 C1
  have B5 := B1.alloc B1.size (.cells (cv Z Z) 33)
  obtain ⟨W, hW⟩ : ∃ W, W = w1.alloc (.cells (cv Z Z) 33) := ⟨_, rfl⟩
  go_wp2_with (first
    | (refine wl_storeC rfl _ _ rfl w1.heap.size Z Z rfl rfl _ (heap_new _ _ _ rfl) rfl hzl hzl _ (setRow_new _ _ _ _ _ rfl) ?_))
  rw [← hW] at B5 ⊢
  clear hW B1
  have ne1 := Later.ne W
  refine wp_region_later (by kernel_rfl) (by kernel_rfl) ?_
  go_big_quiet_step (fail)
  go_big_quiet_step (fail)
  go_big_quiet_step (fail)
  go_big_quiet_step (fail)
  go_big_quiet_step (fail)
  go_big_quiet_step (fail)
  go_big_quiet_step (fail)
  go_big_quiet_step (fail)
  refine wpQuiet_nil ?_
  rintro w' ⟨u, rfl⟩
  go_wp2
  go_ret
  exact ⟨rfl, B5.trans (u.below.mono B5.size)⟩

theorem within_any (V M V' M' : List Int) (hV : Byt V) (hM : Byt M) (hV' : Byt V') (hM' : Byt M') (w : World) :
    Calls Tryd.prog 22 #[.agg (cv V M), .agg (cv V' M')] w fun e w' => e = .returned (.bool (within V M V' M')) ∧ Below w.heap.size w w' := by
  cases h : meets V M V' M'
  · rw [within_no V M V' M' h]; exact within_no_any V M V' M' hV hM hV' hM' h w
  · exact within_yes_any V M V' M' hV hM hV' hM' h w

set_option maxHeartbeats 2000000 in
theorem rwithin_any (V M V' M' : List Int) (hV : Byt V) (hM : Byt M) (hV' : Byt V') (hM' : Byt M') (w : World) :
    Calls Tryd.prog 38 #[.agg (cv V M), .agg (cv V' M')] w fun e w' => e = .returned (.bool (within V M V' M')) ∧ Below w.heap.size w w' := by
  have hVl := hV.1
  have hMl := hM.1
  have hVl' := hV'.1
  have hMl' := hM'.1
  have CA : Hid (∀ k : Nat, k < 104 → ∀ W, Calls Tryd.prog 39 #[.agg (cv V M), .int .i64 (k : Int)] W fun e w' => e = .returned (.int .i64 (atI V M k)) ∧ Below W.heap.size W w') := fun k hk => at_any V M hV hM k hk
  have CB : Hid (∀ k : Nat, k < 104 → ∀ W, Calls Tryd.prog 39 #[.agg (cv V' M'), .int .i64 (k : Int)] W fun e w' => e = .returned (.int .i64 (atI V' M' k)) ∧ Below W.heap.size W w') := fun k hk => at_any V' M' hV' hM' k hk
  clear hV hM hV' hM'
  go_enter Tryd.func38, Tryd.ntmps38
  go_wp2_with fail
  go_loopw [5] (fun i wr => ∃ k : Nat, k ≤ 104 ∧ i = .int .i64 k ∧ (∀ j, j < k → bt M' j = true → bt M j = true ∧ bt V j = bt V' j) ∧ wr.heap[w.heap.size]? = some (.cells (cv V M) 33 (0, 0)) ∧ wr.heap[w.heap.size + 1]? = some (.cells (cv V' M') 33 (0, 0)) ∧ Below w.heap.size w wr) (fun i _ => 104 - (intOf i).toNat)
  case atStart => exact ⟨0, Nat.zero_le _, rfl, fun j hj => by omega, heap_past _ _ _ _ (heap_new _ _ _ rfl), heap_new _ _ _ (by simp), ((Below.refl _ _).alloc (Nat.le_refl _) _).alloc (by simp) _⟩
  case round =>
    obtain ⟨k, hk, rfl, hj, g0, g1, hb⟩ := hrel
    have HJ : Hid (∀ j, j < k → bt M' j = true → bt M j = true ∧ bt V j = bt V' j) := hj
    have hz := (Array.getElem?_eq_some_iff.1 g1).1
    clear hj
    by_cases hlt : k < 104
    · go_wp2_with (first
        | (refine wl_loadC rfl _ rfl (w.heap.size + 1) rfl V' M' g1 hVl' hMl' ?_))
      refine (CB.out k hlt _).mono ?_
      rintro e w1 ⟨rfl, hb1⟩
      have k0 : w1.heap[w.heap.size]? = some (.cells (cv V M) 33 (0, 0)) := by rw [hb1.block _ (by omega)]; exact g0
      have k1 : w1.heap[w.heap.size + 1]? = some (.cells (cv V' M') 33 (0, 0)) := by rw [hb1.block _ (by omega)]; exact g1
      have B1 := hb.trans (hb1.mono hb.size)
      have hz1 := Nat.lt_of_lt_of_le hz hb1.size
      clear g0 g1 hb hb1 hz
      by_cases hm : bt M' k = true
      · have HM : Hid (bt M' k = true) := hm
        have hy : (atI V' M' k != 2) = true := by rw [at_ne2]; exact hm
        obtain ⟨y, hye⟩ : ∃ y, y = atI V' M' k := ⟨_, rfl⟩
        obtain ⟨x, hxe⟩ : ∃ x, x = atI V M k := ⟨_, rfl⟩
        have hxy : (x != y) = !(bt M k && (bt V k == bt V' k)) := by
          rw [hxe, hye]; unfold atI; rw [hm]
          cases bt M k <;> cases bt V k <;> cases bt V' k <;> rfl
        have C1 : Hid (∀ W, Calls Tryd.prog 39 #[.agg (cv V M), .int .i64 (k : Int)] W fun e w' => e = .returned (.int .i64 x) ∧ Below W.heap.size W w') := by rw [hxe]; exact CA.out k hlt
        rw [← hye] at hy ⊢
        have HXY : Hid ((x != y) = !(bt M k && (bt V k == bt V' k))) := hxy
        clear hm hye hxe hxy
        by_cases hne : x = y
        · have hn : (x != y) = false := by simp [hne]
          have HN : Hid ((x != y) = false) := hn
          clear hne
          go_wp2_with (first
            | (refine wl_loadCg rfl _ rfl w.heap.size rfl V M k0 hVl hMl ?_))
          refine (C1.out _).mono ?_
          rintro e w2 ⟨rfl, hb2⟩
          have l0 : w2.heap[w.heap.size]? = some (.cells (cv V M) 33 (0, 0)) := by rw [hb2.block _ (by omega)]; exact k0
          have l1 : w2.heap[w.heap.size + 1]? = some (.cells (cv V' M') 33 (0, 0)) := by rw [hb2.block _ (by omega)]; exact k1
          have B2 := B1.trans (hb2.mono B1.size)
          clear k0 k1 hb2 C1 B1 hz1
          go_wp2_with fail
          go_roundw
          case rel =>
            refine ⟨k + 1, by omega, by go_num, fun j hj hm => ?_, l0, l1, B2⟩
            by_cases e : j = k
            · subst e
              have := HXY.out
              rw [HN.out] at this
              simpa using this.symm
            · exact HJ.out j (by omega) hm
          case measure => simp [intOf]; omega
        · have hn : (x != y) = true := by simpa using hne
          have HN : Hid ((x != y) = true) := hn
          clear hne
          go_wp2_with (first
            | (refine wl_loadCg rfl _ rfl w.heap.size rfl V M k0 hVl hMl ?_))
          refine (C1.out _).mono ?_
          rintro e w2 ⟨rfl, hb2⟩
          have B2 := B1.trans (hb2.mono B1.size)
          clear k0 k1 hb2 C1 B1 hz1
          go_wp2_with fail
          go_ret
          refine ⟨ret_bool ?_, B2⟩
          cases e : within V M V' M'
          · rfl
          · have h3 := (within_iff V M V' M').1 e k hlt HM.out
            have := HXY.out
            rw [HN.out, h3.1, h3.2] at this
            simp at this
      · have hm' : bt M' k = false := by simpa using hm
        have HM : Hid (bt M' k = false) := hm'
        have ea : atI V' M' k = 2 := by unfold atI; rw [hm']; rfl
        rw [ea]
        clear hm hm' ea
        go_wp2_with fail
        go_roundw
        case rel =>
          refine ⟨k + 1, by omega, by go_num, fun j hj hm => ?_, k0, k1, B1⟩
          by_cases e : j = k
          · subst e; rw [HM.out] at hm; cases hm
          · exact HJ.out j (by omega) hm
        case measure => simp [intOf]; omega
    · obtain rfl : k = 104 := by omega
      go_wp2_with fail
      go_ret
      exact ⟨ret_bool ((within_iff V M V' M').2 HJ.out).symm, hb⟩
end Go.Proofs.YtnbklmmampdbfaaDoor
namespace Go.Proofs.YtnbklmmampdbfaaDoor
open Go Go.RowKit
set_option maxRecDepth 20000

def withinR (r a : RuleM) : Bool := within r.cube.1 r.cube.2 a.cube.1 a.cube.2
/-- Rules that lie within one that was kept are left out. -/
def trimO {α : Type} (q : α → α → Bool) : List α → List α → List α
  | out, [] => out
  | out, x :: l => if out.any (q x) then trimO q out l else trimO q (out ++ [x]) l
def trimT (l : List RuleM) : List RuleM := trimO withinR [] l
theorem trimO_take {α : Type} (q : α → α → Bool) (l : List α) (k : Nat) (x : α) (h : l[k]? = some x) : ∀ out, trimO q out (l.take (k + 1)) = if (trimO q out (l.take k)).any (q x) then trimO q out (l.take k) else trimO q out (l.take k) ++ [x] := by
  obtain ⟨hk, rfl⟩ := List.getElem?_eq_some_iff.1 h
  rw [List.take_succ_eq_append_getElem hk]
  generalize l.take k = t
  generalize l[k] = x
  induction t with
  | nil => intro out; simp [trimO]
  | cons y t ih =>
    intro out
    rw [List.cons_append, trimO, trimO]
    split
    · exact ih out
    · exact ih _
theorem trimO_sub {α : Type} (q : α → α → Bool) : ∀ (l out : List α) (x : α), x ∈ trimO q out l → x ∈ out ∨ x ∈ l
  | [], out, x, h => .inl h
  | y :: l, out, x, h => by
    rw [trimO] at h
    split at h
    · rcases trimO_sub q l out x h with h | h
      · exact .inl h
      · exact .inr (by simp [h])
    · rcases trimO_sub q l (out ++ [y]) x h with h | h
      · rcases List.mem_append.1 h with h | h
        · exact .inl h
        · exact .inr (by simp at h; simp [h])
      · exact .inr (by simp [h])
theorem trimO_len {α : Type} (q : α → α → Bool) : ∀ (l out : List α), (trimO q out l).length ≤ out.length + l.length
  | [], out => by simp [trimO]
  | y :: l, out => by
    rw [trimO]
    split
    · have := trimO_len q l out; simp; omega
    · have := trimO_len q l (out ++ [y]); simp at this ⊢; omega
theorem any_take_no {α : Type} {p : α → Bool} {l : List α} {k : Nat} {x : α} (h : (l.take k).any p = false) (hx : l[k]? = some x) (hp : p x = false) : (l.take (k + 1)).any p = false := by
  rw [List.take_add_one, hx, List.any_append, h]
  simp [hp]
theorem any_take_yes {α : Type} {p : α → Bool} {l : List α} {k : Nat} {x : α} (hx : l[k]? = some x) (hp : p x = true) : l.any p = true := List.any_eq_true.2 ⟨x, List.mem_of_getElem? hx, hp⟩

set_option maxHeartbeats 8000000 in
set_option maxRecDepth 100000 in
theorem trim_any (l : List RuleM) (hl0 : ∀ r ∈ l, okR8 r) (hn1 : l.length ≤ 100000) (vl : Value) (w : World) (hl : RulesAt w vl l) :
    Calls Tryd.prog 12 #[vl] w fun e w' => (∃ v, e = .returned v ∧ w'.ownsRow w.heap.size 35 28 v (trimT l).length (gcells ruleV (trimT l))) ∧ Below w.heap.size w w' := by
  have WI : Hid (∀ (V M V' M' : List Int) W, Byt V → Byt M → Byt V' → Byt M' → Calls Tryd.prog 22 #[.agg (cv V M), .agg (cv V' M')] W fun e w' => e = .returned (.bool (within V M V' M')) ∧ Below W.heap.size W w') := fun V M V' M' W h1 h2 h3 h4 => within_any V M V' M' h1 h2 h3 h4 W
  obtain ⟨o, cap, rfl, hc1, hc2⟩ := GSl.slice hl
  obtain ⟨n, hn0⟩ : ∃ n, n = l.length := ⟨_, rfl⟩
  have HN : Hid (n = l.length) := hn0
  rw [← hn0] at hl hc1 hn1 ⊢
  have HL : Hid (RulesAt w (.slice o n cap) l) := hl
  have HOK : Hid (∀ r ∈ l, okR8 r) := hl0
  unfold maxLen at hc2
  clear hl hn0 hl0
  go_enter Tryd.func12, Tryd.ntmps12
  go_wp2_with fail
  go_step3
  go_wp2_with fail
  go_step3
  go_wp2_with fail
  go_loopw [3, 10] (fun v i wr => ∃ (k : Nat) (T : List RuleM), k ≤ n ∧ i = .int .i64 (k : Int) ∧ Hid (T = trimO withinR [] (l.take k)) ∧ T.length ≤ k ∧ Hid (∀ r ∈ T, okR8 r) ∧ wr.ownsRow w.heap.size 35 28 v T.length (gcells ruleV T) ∧ Below w.heap.size w wr) (fun _ i _ => n - (intOf i).toNat)
  case atStart => exact ⟨0, [], Nat.zero_le _, rfl, rfl, Nat.le_refl _, fun r hr => by simp at hr, World.ownsRow_nil _ _ _ _, Below.refl _ _⟩
  case round =>
    obtain ⟨k, T, hk, rfl, HT, hTk, HTO, hown, hb⟩ := hrel
    have HO : Hid (wr.ownsRow w.heap.size 35 28 u3 T.length (gcells ruleV T)) := hown
    have HB : Hid (Below w.heap.size w wr) := hb
    obtain ⟨oT, cT, rfl⟩ := gown_slice hown
    clear hown hb
    by_cases hlt : k < n
    · have hlt' : (k : Int) < (n : Int) := by omega
      obtain ⟨g, off, cur, ty, fr, r, rfl, hg, hc, hxk⟩ := (GSl.below HL.out HB.out).at k hlt
      have hr : okR8 r := HOK.out r (List.mem_of_getElem? hxk)
      have HR : Hid (okR8 r) := hr
      have hsz := ruleV_size hr
      have K1 : Hid (wr.heap[g]? = some (.cells cur ty fr)) := hg
      have H1 : Hid (∀ j, j < 28 → cur[off + k * 28 + j]? = (ruleV r)[j]?) := hc
      have KN : Hid ((wr.alloc (.cells (ruleV r) 35)).heap[wr.heap.size]? = some (.cells (ruleV r) 35 (0, 0))) := heap_new _ _ _ rfl
      have BN : Hid (Below w.heap.size w (wr.alloc (.cells (ruleV r) 35))) := HB.out.alloc HB.out.size _
      have ON : Hid ((wr.alloc (.cells (ruleV r) 35)).ownsRow w.heap.size 35 28 (.slice oT T.length cT) T.length (gcells ruleV T)) := HO.out.alloc _
      have HNX : Hid (trimO withinR [] (l.take (k + 1)) = if T.any (withinR r) then T else T ++ [r]) := by
        show _ = _
        rw [HT.out]
        exact trimO_take withinR l k r hxk []
      clear hg hc hxk hr
      obtain ⟨nT, hnT⟩ : ∃ nT, nT = T.length := ⟨_, rfl⟩
      have HNT : Hid (nT = T.length) := hnT
      rw [← hnT] at hTk HO ON ⊢
      have hN : wr.heap.size < (wr.alloc (.cells (ruleV r) 35)).heap.size := by simp
      clear hnT
      go_wp2_with (first
        | (refine wl_loadE (E := RuleE) RuleOk rfl _ rfl g (off + k * 28) rfl cur ty fr (ruleV r) hsz K1.out H1.out ?_)
        | (refine wl_storeE (E := RuleE) RuleOk rfl _ _ rfl wr.heap.size (ruleV r) (rule_fits HR.out) rfl rfl _ (heap_new _ _ _ rfl) rfl _ (setRow_new _ _ _ _ _ rfl) ?_))
      obtain ⟨wo, hwo⟩ : ∃ wo : World, wo = wr.alloc (.cells (ruleV r) 35) := ⟨_, rfl⟩
      obtain ⟨gx, hgx⟩ : ∃ gx, gx = wr.heap.size := ⟨_, rfl⟩
      rw [← hwo, ← hgx] at KN
      rw [← hwo] at BN ON ⊢
      rw [← hgx]
      clear hwo hgx HO HB hN K1
      go_loopw [16] (fun i w2 => ∃ j : Nat, j ≤ nT ∧ i = .int .i64 (j : Int) ∧ Hid ((T.take j).any (withinR r) = false) ∧ w2.heap[gx]? = some (.cells (ruleV r) 35 (0, 0)) ∧ w2.ownsRow w.heap.size 35 28 (.slice oT nT cT) nT (gcells ruleV T) ∧ Below w.heap.size w w2) (fun i _ => nT - (intOf i).toNat)
      case atStart => exact ⟨0, Nat.zero_le _, rfl, rfl, KN.out, ON.out, BN.out⟩
      case round =>
        clear KN ON BN
        obtain ⟨j, hj, rfl, HJ, hkn, hon, hbn⟩ := hrel
        have KX : Hid (wr.heap[gx]? = some (.cells (ruleV r) 35 (0, 0))) := hkn
        have OX : Hid (wr.ownsRow w.heap.size 35 28 (.slice oT nT cT) nT (gcells ruleV T)) := hon
        have BX : Hid (Below w.heap.size w wr) := hbn
        clear hkn hon hbn
        by_cases hjt : j < nT
        · have hjt' : (j : Int) < (nT : Int) := by omega
          have hsl : RulesAt wr (.slice oT nT cT) T := by
            have := OX.out
            rw [HNT.out] at this ⊢
            exact gsl_of (E := RuleE) this fun c hc => ruleV_size (HTO.out c hc)
          obtain ⟨g2, off2, cur2, ty2, fr2, a, rfl, hg2, hc2', haj⟩ := hsl.at j hjt
          have ha : okR8 a := HTO.out a (List.mem_of_getElem? haj)
          have HAO : Hid (okR8 a) := ha
          have hsa := ruleV_size ha
          have K2 : Hid (wr.heap[g2]? = some (.cells cur2 ty2 fr2)) := hg2
          have H2 : Hid (∀ q, q < 28 → cur2[off2 + j * 28 + q]? = (ruleV a)[q]?) := hc2'
          have HAJ : Hid (T[j]? = some a) := haj
          have KA : Hid ((wr.alloc (.cells (ruleV a) 35)).heap[wr.heap.size]? = some (.cells (ruleV a) 35 (0, 0))) := heap_new _ _ _ rfl
          have KY : Hid ((wr.alloc (.cells (ruleV a) 35)).heap[gx]? = some (.cells (ruleV r) 35 (0, 0))) := heap_past _ _ _ _ KX.out
          have BY : Hid (Below w.heap.size w (wr.alloc (.cells (ruleV a) 35))) := BX.out.alloc BX.out.size _
          have OY : Hid ((wr.alloc (.cells (ruleV a) 35)).ownsRow w.heap.size 35 28 (.slice (some ⟨g2, off2, none⟩) nT cT) nT (gcells ruleV T)) := OX.out.alloc _
          clear hsl hg2 hc2' haj ha
          go_wp2_with (first
            | (refine wl_loadE (E := RuleE) RuleOk rfl _ rfl g2 (off2 + j * 28) rfl cur2 ty2 fr2 (ruleV a) hsa K2.out H2.out ?_)
            | (refine wl_storeE (E := RuleE) RuleOk rfl _ _ rfl wr.heap.size (ruleV a) (rule_fits HAO.out) rfl rfl _ (heap_new _ _ _ rfl) rfl _ (setRow_new _ _ _ _ _ rfl) ?_)
            | (refine wl_loadE (E := CubE) CubOk rfl _ rfl wr.heap.size 1 rfl _ _ _ (cv a.cube.1 a.cube.2) (cv_size _ _ HAO.out.1.1 HAO.out.2.1) KA.out (rule_at HAO.out).2.1 ?_)
            | (refine wl_loadE (E := CubE) CubOk rfl _ rfl gx 1 rfl _ _ _ (cv r.cube.1 r.cube.2) (cv_size _ _ HR.out.1.1 HR.out.2.1) KY.out (rule_at HR.out).2.1 ?_))
          refine (WI.out _ _ _ _ _ HR.out.1 HR.out.2 HAO.out.1 HAO.out.2).mono ?_
          rintro e w1 ⟨rfl, hb1⟩
          have BZ : Hid (Below w.heap.size w w1) := BY.out.trans (hb1.mono BY.out.size)
          have KZ : Hid (w1.heap[gx]? = some (.cells (ruleV r) 35 (0, 0))) := (hb1.block _ (Array.getElem?_eq_some_iff.1 KY.out).1).trans KY.out
          have OZ : Hid (w1.ownsRow w.heap.size 35 28 (.slice (some ⟨g2, off2, none⟩) nT cT) nT (gcells ruleV T)) := gown_below OY.out hb1
          clear hb1
          cases hwi : within r.cube.1 r.cube.2 a.cube.1 a.cube.2 with
          | true =>
            have HE : Hid (T = trimO withinR [] (l.take (k + 1))) := by
              show _ = _
              rw [HNX.out, if_pos (any_take_yes HAJ.out hwi)]
            clear hwi
            go_wp2_with fail
            go_roundw
            case rel => exact ⟨k + 1, T, by omega, by go_num, HE.out, by have := HNT.out; omega, HTO, by have := OZ.out; rw [HNT.out] at this ⊢; exact this, BZ.out⟩
            case measure => simp [intOf]; omega
          | false =>
            have HJ2 : Hid ((T.take (j + 1)).any (withinR r) = false) := any_take_no HJ.out HAJ.out hwi
            clear hwi
            go_wp2_with fail
            go_roundw
            case rel => exact ⟨j + 1, by omega, by go_num, HJ2, KZ.out, OZ.out, BZ.out⟩
            case measure => simp [intOf]; omega
        · have hjt' : ¬ (j : Int) < (nT : Int) := by omega
          have HE : Hid (T ++ [r] = trimO withinR [] (l.take (k + 1))) := by
            have h1 := HNT.out
            have h2 := HJ.out
            rw [List.take_of_length_le (by omega)] at h2
            show _ = _
            rw [HNX.out, h2]
            rfl
          have ON2 : Hid ((wr.alloc (.cells (ruleV r) 35)).ownsRow w.heap.size 35 28 (.slice oT nT cT) T.length (gcells ruleV T)) := by
            have := OX.out.alloc (.cells (ruleV r) 35)
            rw [HNT.out] at this ⊢; exact this
          go_wp2_with (first
            | (refine wl_loadE (E := RuleE) RuleOk rfl _ rfl gx 0 rfl _ _ _ (ruleV r) hsz KX.out (own_cells _ _) ?_)
            | (refine wl_buildE (E := RuleE) RuleOk rfl _ rfl (ruleV r) hsz rfl ?_)
            | (at_builtin; refine of_stopT ?_))
          unfold StopT
          refine wl_appendE (E := RuleE) RuleOk ruleV rfl _ _ rfl w.heap.size (.slice oT nT cT) T r (rule_fits HR.out) rfl ON2.out wr.heap.size 1 rfl (heap_new _ _ _ rfl) (by have := HNT.out; omega) (by have := BX.out.size; simp; omega) ?_
          intro v' w3 hown3 hgr3 _
          have B3 : Hid (Below w.heap.size w w3) := (BX.out.alloc BX.out.size _).trans ((Below.refl _ _).grown hgr3 (BX.out.alloc BX.out.size _).size fun k hk => (ON2.out.lt k hk).1)
          have O3 : Hid (w3.ownsRow w.heap.size 35 28 v' (T ++ [r]).length (gcells ruleV (T ++ [r]))) := hown3
          clear hown3 hgr3
          simp only [Act.put, List.setIfInBounds_toArray, List.set_cons_succ, List.set_cons_zero]
          go_wp2_with fail
          go_roundw
          case rel => exact ⟨k + 1, T ++ [r], by omega, by go_num, HE.out, by have := HNT.out; simp; omega, fun q hq => by
              rcases List.mem_append.1 hq with hq | hq
              · exact HTO.out q hq
              · obtain rfl : q = r := by simpa using hq
                exact HR.out, O3.out, B3.out⟩
          case measure => simp [intOf]; omega
    · have hlt' : ¬ (k : Int) < (n : Int) := by omega
      have HE : Hid (T = trimT l) := by
        have e := HN.out
        show _ = _
        rw [HT.out, List.take_of_length_le (by omega)]
        rfl
      go_wp2_with fail
      go_ret
      exact ⟨⟨_, rfl, by rw [← HE.out]; exact HO.out⟩, HB.out⟩
end Go.Proofs.YtnbklmmampdbfaaDoor
namespace Go.Proofs.YtnbklmmampdbfaaDoor
open Go
set_option maxRecDepth 20000

/-- Does the entry at a place stand ahead of the one at another place? -/
def aheadB (x : Ent) (i : Nat) (y : Ent) (j : Nat) : Bool :=
  if x.dflt then y.dflt && decide (i < j) else y.dflt || decide (y.prio < x.prio) || (decide (x.prio = y.prio) && decide (i < j))
def aheadAt (L : List Ent) (i j : Nat) : Prop := ∃ x y, L[i]? = some x ∧ L[j]? = some y ∧ aheadB x i y j = true
theorem ahead_asymm {L : List Ent} {i j : Nat} (h1 : aheadAt L i j) (h2 : aheadAt L j i) : False := by
  obtain ⟨x, y, hx, hy, h⟩ := h1
  obtain ⟨y', x', hy', hx', h'⟩ := h2
  rw [hx] at hx'
  rw [hy] at hy'
  obtain rfl := Option.some.inj hx'
  obtain rfl := Option.some.inj hy'
  unfold aheadB at h h'
  cases hdx : x.dflt <;> cases hdy : y.dflt <;> simp [hdx, hdy] at h h' <;> omega
/-- The places of a list's entries in the order of the rows. -/
structure IsRows (L : List Ent) (R : List Nat) : Prop where
  sorted : R.Pairwise (aheadAt L)
  all : ∀ i, i ∈ R ↔ i < L.length

theorem pairwise_one {α : Type} {r : α → α → Prop} (ha : ∀ a b, r a b → r b a → False) : ∀ R R' : List α, R.Pairwise r → R'.Pairwise r → (∀ a, a ∈ R ↔ a ∈ R') → R = R'
  | [], [], _, _, _ => rfl
  | [], b :: R', _, _, h => absurd ((h b).2 (by simp)) (by simp)
  | a :: R, [], _, _, h => absurd ((h a).1 (by simp)) (by simp)
  | a :: R, b :: R', h1, h2, h => by
    obtain ⟨p1, q1⟩ := List.pairwise_cons.1 h1
    obtain ⟨p2, q2⟩ := List.pairwise_cons.1 h2
    have hab : a = b := by
      rcases List.mem_cons.1 ((h a).1 (by simp)) with e | e
      · exact e
      · rcases List.mem_cons.1 ((h b).2 (by simp)) with e' | e'
        · exact e'.symm
        · exact (ha a b (p1 b e') (p2 a e)).elim
    subst hab
    rw [pairwise_one ha R R' q1 q2 fun c => ?_]
    constructor
    · intro hc
      rcases List.mem_cons.1 ((h c).1 (List.mem_cons_of_mem _ hc)) with rfl | e
      · exact (ha c c (p1 c hc) (p1 c hc)).elim
      · exact e
    · intro hc
      rcases List.mem_cons.1 ((h c).2 (List.mem_cons_of_mem _ hc)) with rfl | e
      · exact (ha c c (p2 c hc) (p2 c hc)).elim
      · exact e
/-- There is one such order. -/
theorem rows_one {L : List Ent} {R R' : List Nat} (h : IsRows L R) (h' : IsRows L R') : R = R' :=
  pairwise_one (fun _ _ => ahead_asymm) R R' h.sorted h'.sorted fun i => by rw [h.all, h'.all]
theorem find_least {α : Type} {r : α → α → Prop} (ha : ∀ a b, r a b → r b a → False) (q : α → Bool) (a : α) (hq : q a = true) : ∀ R : List α, R.Pairwise r → a ∈ R → (∀ b ∈ R, q b = true → b ≠ a → r a b) → R.find? q = some a
  | [], _, h, _ => by simp at h
  | b :: R, h1, h, hm => by
    obtain ⟨p1, q1⟩ := List.pairwise_cons.1 h1
    rw [List.find?_cons]
    cases hb : q b with
    | true =>
      by_cases e : b = a
      · rw [e]
      · rcases List.mem_cons.1 h with e' | e'
        · exact absurd e'.symm e
        · exact (ha a b (hm b (by simp) hb e) (p1 a e')).elim
    | false =>
      rcases List.mem_cons.1 h with rfl | e'
      · rw [hb] at hq; cases hq
      · exact find_least ha q a hq R q1 e' fun c hc => hm c (List.mem_cons_of_mem _ hc)

/-- Nothing that applies beats the best one. -/
theorem bestGo_max (ap : Ent → Bool) (L : List Ent) : ∀ (l : List Ent) (i : Nat) (b : Option (Nat × Int)), (∀ k, l[k]? = L[i + k]?) →
    (∀ k y, k < i → L[k]? = some y → y.dflt = false → ap y = true → ∃ j p, b = some (j, p) ∧ (y.prio < p ∨ (y.prio = p ∧ j ≤ k))) →
    (∀ j p, b = some (j, p) → j < i) →
    ∀ k y, k < i + l.length → L[k]? = some y → y.dflt = false → ap y = true → ∃ j p, bestGo ap i b l = some (j, p) ∧ (y.prio < p ∨ (y.prio = p ∧ j ≤ k))
  | [], i, b, _, hb, _, k, y, hk, hy, hd, ha => hb k y (by simpa using hk) hy hd ha
  | x :: l, i, b, hL, hb, hj, k, y, hk, hy, hd, ha => by
    rw [bestGo]
    have hx0 : L[i]? = some x := by
      have := hL 0
      simpa using this.symm
    refine bestGo_max ap L l (i + 1) _ (fun k => ?_) (fun k y hk hy hd ha => ?_) (fun j p hjp => ?_) k y (by simp at hk; omega) hy hd ha
    · have := hL (k + 1)
      rw [List.getElem?_cons_succ] at this
      rw [this]; congr 1; omega
    · by_cases hki : k = i
      · subst hki
        rw [hx0] at hy
        obtain rfl := Option.some.inj hy
        cases b with
        | none => exact ⟨k, x.prio, by simp [beats, hd, ha], .inr ⟨rfl, Nat.le_refl _⟩⟩
        | some jp =>
          obtain ⟨j, p⟩ := jp
          by_cases hlt : p < x.prio
          · exact ⟨k, x.prio, by simp [beats, hd, ha, hlt], .inr ⟨rfl, Nat.le_refl _⟩⟩
          · refine ⟨j, p, by simp [beats, hd, ha, hlt], ?_⟩
            have := hj j p rfl
            omega
      · obtain ⟨j, p, h1, h2⟩ := hb k y (by omega) hy hd ha
        subst h1
        by_cases hc : (!x.dflt && ap x && beats x.prio (some (j, p))) = true
        · rw [if_pos hc]
          simp only [Bool.and_eq_true, beats, decide_eq_true_eq] at hc
          exact ⟨i, x.prio, rfl, by left; omega⟩
        · rw [if_neg hc]
          exact ⟨j, p, rfl, h2⟩
    · split at hjp
      · obtain ⟨rfl, rfl⟩ := Prod.mk.inj (Option.some.inj hjp); omega
      · have := hj j p hjp; omega
theorem firstD_first : ∀ (l : List Ent) (i : Nat), (∃ (k : Nat) (x : Ent), firstD i l = some (i + k) ∧ l[k]? = some x ∧ x.dflt = true ∧ ∀ (k' : Nat) (y : Ent), k' < k → l[k']? = some y → y.dflt = false) ∨ (firstD i l = none ∧ ∀ (k : Nat) (y : Ent), l[k]? = some y → y.dflt = false)
  | [], i => .inr ⟨rfl, fun k y h => by simp at h⟩
  | y :: l, i => by
    rw [firstD]
    cases hy : y.dflt with
    | true => exact .inl ⟨0, y, by rw [if_pos rfl]; rfl, rfl, hy, fun k' z hk => by omega⟩
    | false =>
      rw [if_neg (by decide)]
      rcases firstD_first l (i + 1) with ⟨k, x, h1, h2, h3, h4⟩ | ⟨h1, h2⟩
      · refine .inl ⟨k + 1, x, by rw [h1]; congr 1; omega, by simpa using h2, h3, fun k' z hk hz => ?_⟩
        cases k' with
        | zero => obtain rfl : y = z := by simpa using hz
                  exact hy
        | succ k' => exact h4 k' z (by omega) (by simpa using hz)
      · refine .inr ⟨h1, fun k z hz => ?_⟩
        cases k with
        | zero => obtain rfl : y = z := by simpa using hz
                  exact hy
        | succ k => exact h2 k z (by simpa using hz)

def appliesAt (ap : Ent → Bool) (L : List Ent) (i : Nat) : Bool := match L[i]? with | some x => x.dflt || ap x | none => false
/-- THE FIRST OF THE ROWS THAT APPLIES is the entry that says what is done. -/
theorem rows_which (ap : Ent → Bool) {L : List Ent} {R : List Nat} (h : IsRows L R) : R.find? (appliesAt ap L) = whichT ap L := by
  have hin := bestGo_in ap L L 0 none (fun k => by rw [Nat.zero_add]) (fun j p hjp => by cases hjp)
  have hmax := bestGo_max ap L L 0 none (fun k => by rw [Nat.zero_add]) (fun k y hk => absurd hk (Nat.not_lt_zero _)) (fun j p hjp => by cases hjp)
  unfold whichT
  cases hb : bestGo ap 0 none L with
  | some b =>
    obtain ⟨i, p⟩ := b
    obtain ⟨x, hx, hp, hd, ha⟩ := hin i p hb
    have hi := (List.getElem?_eq_some_iff.1 hx).1
    refine find_least (fun _ _ => ahead_asymm) _ i (by unfold appliesAt; rw [hx]; simp [ha]) R h.sorted ((h.all i).2 hi) fun j hj hq hne => ?_
    obtain ⟨y, hy⟩ : ∃ y, L[j]? = some y := ⟨_, List.getElem?_eq_getElem ((h.all j).1 hj)⟩
    refine ⟨x, y, hx, hy, ?_⟩
    have hq : (y.dflt || ap y) = true := by unfold appliesAt at hq; rw [hy] at hq; exact hq
    unfold aheadB
    rw [hd]
    cases hdy : y.dflt with
    | true => simp
    | false =>
      rw [hdy] at hq
      obtain ⟨j', p', h1, h2⟩ := hmax j y (by rw [Nat.zero_add]; exact (h.all j).1 hj) hy hdy (by simpa using hq)
      rw [hb] at h1
      obtain ⟨rfl, rfl⟩ := Prod.mk.inj (Option.some.inj h1)
      simp
      omega
  | none =>
    have hno : ∀ j y, L[j]? = some y → y.dflt = false → ap y = false := fun j y hy hd => by
      cases ha : ap y with
      | false => rfl
      | true =>
        obtain ⟨j', p', h1, _⟩ := hmax j y (by rw [Nat.zero_add]; exact (List.getElem?_eq_some_iff.1 hy).1) hy hd ha
        rw [hb] at h1; cases h1
    rcases firstD_first L 0 with ⟨k, x, h1, h2, h3, h4⟩ | ⟨h1, h2⟩
    · rw [Nat.zero_add] at h1
      show _ = firstD 0 L
      rw [h1]
      refine find_least (fun _ _ => ahead_asymm) _ k (by unfold appliesAt; rw [h2]; simp [h3]) R h.sorted ((h.all k).2 (List.getElem?_eq_some_iff.1 h2).1) fun j hj hq hne => ?_
      obtain ⟨y, hy⟩ : ∃ y, L[j]? = some y := ⟨_, List.getElem?_eq_getElem ((h.all j).1 hj)⟩
      refine ⟨x, y, h2, hy, ?_⟩
      have hq : (y.dflt || ap y) = true := by unfold appliesAt at hq; rw [hy] at hq; exact hq
      unfold aheadB
      rw [h3]
      cases hdy : y.dflt with
      | false =>
        rw [hdy, hno j y hy hdy] at hq
        cases hq
      | true =>
        have : ¬ j < k := fun hlt => by
          have := h4 j y hlt hy
          rw [hdy] at this; cases this
        simp
        omega
    · show _ = firstD 0 L
      rw [h1, List.find?_eq_none]
      intro j hj
      obtain ⟨y, hy⟩ : ∃ y, L[j]? = some y := ⟨_, List.getElem?_eq_getElem ((h.all j).1 hj)⟩
      unfold appliesAt
      rw [hy]
      simp [h2 j y hy, hno j y hy (h2 j y hy)]

/-- Rules that lie within one ahead are left out. -/
def trimGo {α : Type} (within : α → α → Bool) : List α → List α → List α
  | _, [] => []
  | A, r :: l => if A.any (within r) then trimGo within (A ++ [r]) l else r :: trimGo within (A ++ [r]) l
def trimL {α : Type} (within : α → α → Bool) (l : List α) : List α := trimGo within [] l
/-- No header's first rule is another one by it. -/
theorem trim_look {α : Type} (within : α → α → Bool) (has : α → Bool) (hw : ∀ a b, within a b = true → has a = true → has b = true) : ∀ (l A : List α), (∀ a ∈ A, has a = false) → (trimGo within A l).find? has = l.find? has
  | [], _, _ => rfl
  | r :: l, A, hA => by
    rw [trimGo]
    by_cases hr : has r = true
    · have hn : A.any (within r) = false := by
        rw [Bool.eq_false_iff]
        intro h
        obtain ⟨a, ha, h2⟩ := List.any_eq_true.1 h
        have := hw r a h2 hr
        rw [hA a ha] at this; cases this
      rw [if_neg (by rw [hn]; decide), List.find?_cons, List.find?_cons, hr]
    · have hr' : has r = false := by simpa using hr
      have ih := trim_look within has hw l (A ++ [r]) fun a ha => by
        rcases List.mem_append.1 ha with h | h
        · exact hA a h
        · obtain rfl : a = r := by simpa using h
          exact hr'
      split
      · rw [List.find?_cons, hr', ih]
      · rw [List.find?_cons, List.find?_cons, hr', ih]
/-- Trimmed again, it is the same. -/
theorem trim_again {α : Type} (within : α → α → Bool) : ∀ (l A A' : List α), (∀ a ∈ A', a ∈ A) → trimGo within A' (trimGo within A l) = trimGo within A l
  | [], _, _, _ => rfl
  | r :: l, A, A', hs => by
    rw [trimGo]
    by_cases h : A.any (within r) = true
    · rw [if_pos h]
      exact trim_again within l (A ++ [r]) A' fun a ha => List.mem_append_left _ (hs a ha)
    · rw [if_neg h, trimGo, if_neg, trim_again within l (A ++ [r]) (A' ++ [r]) fun a ha => ?_]
      · rcases List.mem_append.1 ha with h1 | h1
        · exact List.mem_append_left _ (hs a h1)
        · exact List.mem_append_right _ h1
      · intro h'
        obtain ⟨a, ha, h2⟩ := List.any_eq_true.1 h'
        exact h (List.any_eq_true.2 ⟨a, hs a ha, h2⟩)
/-- The first rule of what the rows are expanded to. -/
theorem look_expand {α β : Type} (cubes : α → List β) (has : β → Bool) : ∀ rows : List α, ((rows.flatMap fun x => (cubes x).map fun c => (c, x)).find? fun r => has r.1).map (·.2) = rows.find? fun x => (cubes x).any has
  | [] => rfl
  | x :: rows => by
    rw [List.flatMap_cons, List.find?_append, List.find?_cons]
    have ih := look_expand cubes has rows
    cases h : (cubes x).any has with
    | true =>
      obtain ⟨c, hc, h2⟩ := List.any_eq_true.1 h
      cases hf : ((cubes x).map fun c => (c, x)).find? fun r => has r.1 with
      | none =>
        rw [List.find?_eq_none] at hf
        exact absurd h2 (hf (c, x) (List.mem_map.2 ⟨c, hc, rfl⟩))
      | some r =>
        have hm := List.mem_of_find?_eq_some hf
        obtain ⟨c', _, rfl⟩ := List.mem_map.1 hm
        rfl
    | false =>
      have hf : (((cubes x).map fun c => (c, x)).find? fun r => has r.1) = none := by
        rw [List.find?_eq_none]
        intro r hr
        obtain ⟨c, hc, rfl⟩ := List.mem_map.1 hr
        intro h3
        rw [Bool.eq_false_iff] at h
        exact h (List.any_eq_true.2 ⟨c, hc, h3⟩)
      rw [hf]
      exact ih
end Go.Proofs.YtnbklmmampdbfaaDoor
namespace Go.Proofs.YtnbklmmampdbfaaDoor
open Go Go.RowKit
set_option maxRecDepth 20000

theorem wl_build0R {ops : Array Oper} {rest : List Oper} {o : Oper} {a : Act} {w : World} {Q : Exit → Act → World → Prop} {E : El} (H : E.Ok) (hg : o.guard = none) (ho : o.op = .buildSlice E.slice 0 #[])
    (h : wpList Tryd.prog ops Q rest (a.put o.dst (.slice (some ⟨w.heap.size, 0, none⟩) 0 0)) (w.alloc (.cells #[] E.elem))) : wpList Tryd.prog ops Q (o :: rest) a w := by
  obtain ⟨ie, hie, hz, hs, _⟩ := H.info
  refine wpList_plain hg fun _ hK => ?_
  unfold Oper.wp execOp
  have hrun : (Instr.buildSlice E.slice 0 #[]).run Tryd.prog w = .ok (.slice (some ⟨w.heap.size, 0, none⟩) 0 0) (w.alloc (.cells #[] E.elem)) := by
    have h0 : Array.range 0 = #[] := Array.eq_empty_of_size_eq_zero (by simp)
    simp [Instr.buildSlice, run_underlying H.hs, sizeOf, typeInfo, hie, Instr.fill, newRow, h0]
  simp only [ho, Sem.run_bind, List.map_toArray, List.map_nil, hrun, Result.andThen_ok]
  exact hK _ _ h
theorem own0R (w : World) (e : TypeId) (s : Nat) : (w.alloc (.cells #[] e)).ownsRow w.heap.size e s (.slice (some ⟨w.heap.size, 0, none⟩) 0 0) 0 [] := ⟨by simp, .inr ⟨_, 0, #[], rfl, Nat.le_refl _, heap_new _ _ _ rfl, Nat.le_refl _, Nat.zero_le _, by simp, by simp⟩⟩

set_option maxHeartbeats 8000000 in
set_option maxRecDepth 100000 in
theorem rlook_any (l : List RuleM) (hl0 : ∀ r ∈ l, okR8 r) (vl : Value) (H : List Int) (hH : Byt H) (w : World) (hl : RulesAt w vl l) :
    Calls Tryd.prog 15 #[vl, .agg (hv H)] w fun e w' => e = .returned (.tuple #[.agg (ruleV (lookT l H).1), .bool (lookT l H).2]) ∧ Below w.heap.size w w' := by
  have hHl := hH.1
  have HA : Hid (∀ (V M : List Int) W, Byt V → Byt M → Calls Tryd.prog 24 #[.agg (cv V M), .agg (hv H)] W fun e w' => e = .returned (.bool (has V M H)) ∧ Below W.heap.size W w') := fun V M W h1 h2 => rhas_any V M H h1 h2 hH W
  obtain ⟨o, cap, rfl, hc1, hc2⟩ := GSl.slice hl
  obtain ⟨n, hn0⟩ : ∃ n, n = l.length := ⟨_, rfl⟩
  have HN : Hid (n = l.length) := hn0
  rw [← hn0] at hl hc1 ⊢
  have HL : Hid (RulesAt w (.slice o n cap) l) := hl
  have HOK : Hid (∀ r ∈ l, okR8 r) := hl0
  unfold maxLen at hc2
  have K0 : Hid (((w.alloc (.cells (hv H) 23)).alloc (.cells RuleE.zero 35)).heap[w.heap.size]? = some (.cells (hv H) 23 (0, 0)) ∧ ((w.alloc (.cells (hv H) 23)).alloc (.cells RuleE.zero 35)).heap[w.heap.size + 1]? = some (.cells RuleE.zero 35 (0, 0))) := ⟨heap_past _ _ _ _ (heap_new _ _ _ rfl), heap_new _ _ _ (by simp)⟩
  have B0 : Hid (Below w.heap.size w ((w.alloc (.cells (hv H) 23)).alloc (.cells RuleE.zero 35))) := ((Below.refl _ _).alloc (Nat.le_refl _) _).alloc (by simp) _
  obtain ⟨S, hS⟩ : ∃ S, S = lookT l H := ⟨_, rfl⟩
  have HS : Hid (S = lookT l H) := hS
  rw [← hS]
  clear hl hn0 hl0 hS
  go_enter Tryd.func15, Tryd.ntmps15
  go_wp2_with fail
  go_loopw [6] (fun i wr => ∃ k : Nat, k ≤ n ∧ i = .int .i64 (k : Int) ∧ Hid ((l.take k).find? (hasR H) = none) ∧ wr.heap[w.heap.size]? = some (.cells (hv H) 23 (0, 0)) ∧ wr.heap[w.heap.size + 1]? = some (.cells RuleE.zero 35 (0, 0)) ∧ Below w.heap.size w wr) (fun i _ => n - (intOf i).toNat)
  case atStart => exact ⟨0, Nat.zero_le _, rfl, rfl, K0.out.1, K0.out.2, B0.out⟩
  case round =>
    clear K0 B0
    obtain ⟨k, hk, rfl, HF, h1, h2, hb⟩ := hrel
    have R1 : Hid (wr.heap[w.heap.size]? = some (.cells (hv H) 23 (0, 0))) := h1
    have R2 : Hid (wr.heap[w.heap.size + 1]? = some (.cells RuleE.zero 35 (0, 0))) := h2
    have HB : Hid (Below w.heap.size w wr) := hb
    clear h1 h2 hb
    by_cases hlt : k < n
    · have hlt' : (k : Int) < (n : Int) := by omega
      obtain ⟨g, off, cur, ty, fr, r, rfl, hg, hc, hxk⟩ := (GSl.below HL.out HB.out).at k hlt
      have hr : okR8 r := HOK.out r (List.mem_of_getElem? hxk)
      have HR : Hid (okR8 r) := hr
      have hsz := ruleV_size hr
      have K1 : Hid (wr.heap[g]? = some (.cells cur ty fr)) := hg
      have H1 : Hid (∀ j, j < 28 → cur[off + k * 28 + j]? = (ruleV r)[j]?) := hc
      have H2 : Hid (∀ j, j < 26 → cur[off + k * 28 + 1 + j]? = (cv r.cube.1 r.cube.2)[j]?) := fun j hj => by
        have h3 := hc (1 + j) (by show 1 + j < 28; omega)
        rw [(rule_at hr).2.1 j hj] at h3
        rw [← h3]
        congr 1
        show off + k * 28 + 1 + j = off + k * 28 + (1 + j)
        omega
      have HX : Hid (l[k]? = some r) := hxk
      clear hg hc hxk hr
      go_wp2_with fail
      have ne1 := Later.ne wr
      refine wp_region_later (by kernel_rfl) (by kernel_rfl) ?_
      repeat go_big_quiet_step (fail)
      refine qlE (E := CubE) CubOk rfl _ rfl g (off + k * 28 + 1) rfl cur ty fr (cv r.cube.1 r.cube.2) (cv_size _ _ HR.out.1.1 HR.out.2.1) (later_block K1.out) H2.out ?_
      simp only [Act.put, List.setIfInBounds_toArray, List.set_cons_succ, List.set_cons_zero]
      refine qlH rfl _ rfl w.heap.size rfl H R1.out hHl ?_
      simp only [Act.put, List.setIfInBounds_toArray, List.set_cons_succ, List.set_cons_zero]
      go_big_quiet_want; go_big_quiet_op
      refine ⟨_, fun u => Calls.later_of (HA.out r.cube.1 r.cube.2 u.world HR.out.1 HR.out.2), ?_⟩
      go_big_quiet_on
      refine wpQuiet_nil ?_
      rintro w1 ⟨v5, rfl⟩
      have hb1 := v5.below
      obtain ⟨w1, hw1⟩ : ∃ w1, w1 = v5.world := ⟨_, rfl⟩
      rw [← hw1] at hb1 ⊢
      have B1 : Hid (Below w.heap.size w w1) := HB.out.trans (hb1.mono HB.out.size)
      have R3 : Hid (w1.heap[w.heap.size]? = some (.cells (hv H) 23 (0, 0))) := (hb1.block _ (Array.getElem?_eq_some_iff.1 R1.out).1).trans R1.out
      have R4 : Hid (w1.heap[w.heap.size + 1]? = some (.cells RuleE.zero 35 (0, 0))) := (hb1.block _ (Array.getElem?_eq_some_iff.1 R2.out).1).trans R2.out
      have K2 : Hid (w1.heap[g]? = some (.cells cur ty fr)) := (hb1.block _ (Array.getElem?_eq_some_iff.1 K1.out).1).trans K1.out
      clear hb1 hw1 v5 ne1 K1 R1 R2
      cases hhas : has r.cube.1 r.cube.2 H with
      | true =>
        have HE : Hid (S = (r, true)) := by
          show _ = _
          rw [HS.out]
          unfold lookT
          rw [find_of_take HF.out HX.out hhas]
        clear hhas
        go_wp2_with (first
          | (refine wl_loadE (E := RuleE) RuleOk rfl _ rfl g (off + k * 28) rfl cur ty fr (ruleV r) hsz K2.out H1.out ?_)
          | (refine wl_storeE (E := RuleE) RuleOk rfl _ _ rfl (w.heap.size + 1) (ruleV r) (rule_fits HR.out) rfl rfl _ R4.out rfl _ rfl ?_))
        refine retRb rfl rfl (w.heap.size + 1) rfl r HR.out (setRow_heap _ _ _ _ _ _ R4.out) _ rfl ?_
        rw [HE.out]
        exact ⟨rfl, below_setRow B1.out (by omega) _⟩
      | false =>
        have HF2 : Hid ((l.take (k + 1)).find? (hasR H) = none) := find_take_none HF.out HX.out hhas
        clear hhas
        go_wp2_with fail
        go_roundw
        case rel => exact ⟨k + 1, by omega, by go_num, HF2, R3.out, R4.out, B1.out⟩
        case measure => simp [intOf]; omega
    · have hlt' : ¬ (k : Int) < (n : Int) := by omega
      have HE : Hid (S = (rule0, false)) := by
        have e := HN.out
        have hF := HF.out
        rw [List.take_of_length_le (by omega)] at hF
        show _ = _
        rw [HS.out]
        unfold lookT
        rw [hF]
      have HZ : Hid (RuleE.zero = ruleV rule0) := zero_rule
      go_wp2_with (first
        | (refine wl_storeE (E := RuleE) RuleOk rfl _ _ rfl (w.heap.size + 1) (ruleV rule0) (rule_fits rule0_ok) rfl (by rw [← HZ.out]; rfl) _ R2.out rfl _ rfl ?_))
      refine retRb rfl rfl (w.heap.size + 1) rfl rule0 rule0_ok (setRow_heap _ _ _ _ _ _ R2.out) _ rfl ?_
      rw [HE.out]
      exact ⟨rfl, below_setRow HB.out (by omega) _⟩

set_option maxHeartbeats 8000000 in
/-- Two lists alike. -/
theorem rsame8_any (C : List RuleM) (hC : ∀ r ∈ C, okR8 r) (va vb : Value) (w : World) (ha : RulesAt w va C) (hb : RulesAt w vb C) :
    Calls Tryd.prog 13 #[va, vb] w fun e w' => e = .returned (.bool true) ∧ Below w.heap.size w w' := by
  obtain ⟨oa, capa, rfl, hca, hma⟩ := GSl.slice ha
  obtain ⟨ob, capb, rfl, hcb, hmb⟩ := GSl.slice hb
  obtain ⟨n, hn⟩ : ∃ n, n = C.length := ⟨_, rfl⟩
  rw [← hn] at ha hb hca hcb ⊢
  have HA : Hid (RulesAt w (.slice oa n capa) C) := ha
  have HBB : Hid (RulesAt w (.slice ob n capb) C) := hb
  have HOK : Hid (∀ r ∈ C, okR8 r) := hC
  unfold maxLen at hma hmb
  clear ha hb hn hC
  go_enter Tryd.func13, Tryd.ntmps13
  go_wp2_with fail
  go_loopw [5] (fun i wr => ∃ k : Nat, k ≤ n ∧ i = .int .i64 (k : Int) ∧ Below w.heap.size w wr) (fun i _ => n - (intOf i).toNat)
  case atStart => exact ⟨0, Nat.zero_le _, rfl, Below.refl _ _⟩
  case round =>
    obtain ⟨k, hk, rfl, hb⟩ := hrel
    have HB : Hid (Below w.heap.size w wr) := hb
    clear hb
    by_cases hlt : k < n
    · have hlt' : (k : Int) < (n : Int) := by omega
      obtain ⟨g, off, cur, ty, fr, x, rfl, hg, hc, hxk⟩ := (GSl.below HA.out HB.out).at k hlt
      obtain ⟨g2, off2, cur2, ty2, fr2, y, rfl, hg2, hc2, hyk⟩ := (GSl.below HBB.out HB.out).at k hlt
      rw [hxk] at hyk
      obtain rfl := Option.some.inj hyk
      have hx : okR8 x := HOK.out x (List.mem_of_getElem? hxk)
      have e1 : ∀ w, (Op.equalIn 10000 35 (.agg (ruleV x)) (.agg (ruleV x))).run Tryd.prog w = .ok true w := eqR_same hx
      have e2 : ∀ op p q w, (eqGuard op 35 p q (.agg (ruleV x)) (.agg (ruleV x))).run Tryd.prog w = .ok () w := fun op p q w => egR op p q _ _ w
      have hsz := ruleV_size hx
      have K1 : Hid (wr.heap[g]? = some (.cells cur ty fr)) := hg
      have K2 : Hid (wr.heap[g2]? = some (.cells cur2 ty2 fr2)) := hg2
      have H1 : Hid (∀ i, i < 28 → cur[off + k * 28 + i]? = (ruleV x)[i]?) := hc
      have H2 : Hid (∀ i, i < 28 → cur2[off2 + k * 28 + i]? = (ruleV x)[i]?) := hc2
      clear hg hg2 hc hc2 hxk hyk hx
      go_wp2_with fail
      have ne1 := Later.ne wr
      refine wp_region_later (by kernel_rfl) (by kernel_rfl) ?_
      go_big_quiet_step (fail)
      go_big_quiet_step (fail)
      go_big_quiet_step (fail)
      refine qlE (E := RuleE) RuleOk rfl _ rfl g (off + k * 28) rfl cur ty fr (ruleV x) hsz (later_block K1.out) H1.out ?_
      simp only [Act.put, List.setIfInBounds_toArray, List.set_cons_succ, List.set_cons_zero]
      go_big_quiet_step (fail)
      go_big_quiet_step (fail)
      go_big_quiet_step (fail)
      refine qlE (E := RuleE) RuleOk rfl _ rfl g2 (off2 + k * 28) rfl cur2 ty2 fr2 (ruleV x) hsz (later_block K2.out) H2.out ?_
      simp only [Act.put, List.setIfInBounds_toArray, List.set_cons_succ, List.set_cons_zero]
      go_big_quiet_step (fail)
      refine wpQuiet_nil ?_
      rintro w1 ⟨v5, rfl⟩
      have B1 : Hid (Below w.heap.size w v5.world) := HB.out.trans (v5.below.mono HB.out.size)
      go_wp2_with fail
      go_roundw
      case rel => exact ⟨k + 1, by omega, by go_num, B1.out⟩
      case measure => simp [intOf]; omega
    · have hlt' : ¬ (k : Int) < (n : Int) := by omega
      go_wp2_with fail
      go_ret
      exact ⟨rfl, HB.out⟩
/-! The reference's trimming is the same. -/
theorem trimGo_snoc {α : Type} (q : α → α → Bool) : ∀ (t A : List α) (x : α), trimGo q A (t ++ [x]) = trimGo q A t ++ (if (A ++ t).any (q x) then [] else [x])
  | [], A, x => by
    rw [List.nil_append, trimGo, trimGo, trimGo, List.append_nil, List.nil_append]
  | y :: t, A, x => by
    rw [List.cons_append, trimGo, trimGo]
    have e : A ++ y :: t = (A ++ [y]) ++ t := by simp
    split
    · rw [trimGo_snoc q t (A ++ [y]) x, e]
    · rw [trimGo_snoc q t (A ++ [y]) x, e]
      rfl
theorem trim_same {α : Type} (q : α → α → Bool) (hr : ∀ a, q a a = true) (ht : ∀ a b c, q a b = true → q b c = true → q a c = true) : ∀ (l A out : List α), (∀ a ∈ A, ∃ b ∈ out, q a b = true) → (∀ b ∈ out, b ∈ A) → trimO q out l = out ++ trimGo q A l
  | [], A, out, _, _ => by simp [trimO, trimGo]
  | x :: l, A, out, h1, h2 => by
    have e : A.any (q x) = out.any (q x) := by
      rw [Bool.eq_iff_iff, List.any_eq_true, List.any_eq_true]
      constructor
      · rintro ⟨a, ha, hq⟩
        obtain ⟨b, hb, hq2⟩ := h1 a ha
        exact ⟨b, hb, ht _ _ _ hq hq2⟩
      · rintro ⟨b, hb, hq⟩
        exact ⟨b, h2 b hb, hq⟩
    rw [trimO, trimGo, e]
    split
    · rename_i hc
      refine trim_same q hr ht l (A ++ [x]) out (fun a ha => ?_) (fun b hb => List.mem_append_left _ (h2 b hb))
      rcases List.mem_append.1 ha with ha | ha
      · exact h1 a ha
      · obtain rfl : a = x := by simpa using ha
        obtain ⟨b, hb, hq⟩ := List.any_eq_true.1 hc
        exact ⟨b, hb, hq⟩
    · rw [trim_same q hr ht l (A ++ [x]) (out ++ [x]) (fun a ha => ?_) (fun b hb => ?_), List.append_assoc]
      · rfl
      · rcases List.mem_append.1 ha with ha | ha
        · obtain ⟨b, hb, hq⟩ := h1 a ha
          exact ⟨b, List.mem_append_left _ hb, hq⟩
        · obtain rfl : a = x := by simpa using ha
          exact ⟨a, by simp, hr a⟩
      · rcases List.mem_append.1 hb with hb | hb
        · exact List.mem_append_left _ (h2 b hb)
        · exact List.mem_append_right _ hb
theorem withinR_refl (a : RuleM) : withinR a a = true := (within_iff _ _ _ _).2 fun _ _ h => ⟨h, rfl⟩
theorem withinR_trans (a b c : RuleM) (h1 : withinR a b = true) (h2 : withinR b c = true) : withinR a c = true := by
  unfold withinR at h1 h2 ⊢
  rw [within_iff] at h1 h2 ⊢
  intro i hi h
  obtain ⟨k1, k2⟩ := h2 i hi h
  obtain ⟨k3, k4⟩ := h1 i hi k1
  exact ⟨k3, k4.trans k2⟩
theorem trimT_go (l : List RuleM) : trimT l = trimGo withinR [] l := by
  unfold trimT
  rw [trim_same withinR withinR_refl withinR_trans l [] [] (fun a ha => by simp at ha) (fun b hb => by simp at hb)]
  rfl
theorem trimT_take {l : List RuleM} {k : Nat} {r : RuleM} (h : l[k]? = some r) : trimT (l.take (k + 1)) = trimT (l.take k) ++ (if (l.take k).any (withinR r) then [] else [r]) := by
  rw [trimT_go, trimT_go, List.take_add_one, h]
  exact trimGo_snoc withinR _ [] r

set_option maxHeartbeats 8000000 in
set_option maxRecDepth 100000 in
theorem rshut_any (l : List RuleM) (hl0 : ∀ r ∈ l, okR8 r) (vl : Value) (i : Nat) (r : RuleM) (hi : l[i]? = some r) (w : World) (hl : RulesAt w vl l) :
    Calls Tryd.prog 23 #[vl, .int .i64 (i : Int)] w fun e w' => e = .returned (.bool ((l.take i).any (withinR r))) ∧ Below w.heap.size w w' := by
  have WI : Hid (∀ (V M V' M' : List Int) W, Byt V → Byt M → Byt V' → Byt M' → Calls Tryd.prog 38 #[.agg (cv V M), .agg (cv V' M')] W fun e w' => e = .returned (.bool (within V M V' M')) ∧ Below W.heap.size W w') := fun V M V' M' W h1 h2 h3 h4 => rwithin_any V M V' M' h1 h2 h3 h4 W
  obtain ⟨o, cap, rfl, hc1, hc2⟩ := GSl.slice hl
  obtain ⟨n, hn0⟩ : ∃ n, n = l.length := ⟨_, rfl⟩
  have hin : i < n := by rw [hn0]; exact (List.getElem?_eq_some_iff.1 hi).1
  rw [← hn0] at hl hc1 ⊢
  have hr : okR8 r := hl0 r (List.mem_of_getElem? hi)
  have HR : Hid (okR8 r) := hr
  obtain ⟨g, off, cur, ty, fr, r', rfl, hg, hc, hxi⟩ := hl.at i hin
  obtain rfl : r' = r := by rw [hi] at hxi; exact (Option.some.inj hxi).symm
  have KG : Hid (w.heap[g]? = some (.cells cur ty fr)) := hg
  have HL : Hid (RulesAt w (.slice (some ⟨g, off, none⟩) n cap) l) := hl
  have HI : Hid (∀ j, j < 26 → cur[off + i * 28 + 1 + j]? = (cv r'.cube.1 r'.cube.2)[j]?) := fun j hj => by
    have h3 := hc (1 + j) (by show 1 + j < 28; omega)
    rw [(rule_at hr).2.1 j hj] at h3
    rw [← h3]
    congr 1
    show off + i * 28 + 1 + j = off + i * 28 + (1 + j)
    omega
  have HOK : Hid (∀ r ∈ l, okR8 r) := hl0
  unfold maxLen at hc2
  obtain ⟨b, hb⟩ : ∃ b, b = (l.take i).any (withinR r') := ⟨_, rfl⟩
  have HBE : Hid (b = (l.take i).any (withinR r')) := hb
  rw [← hb]
  have iz : (i : Int) < (n : Int) := by omega
  clear hl hn0 hl0 hg hc hxi hr hb hi
  go_enter Tryd.func23, Tryd.ntmps23
  go_wp2_with fail
  go_loopw [5] (fun s wr => ∃ k : Nat, k ≤ i ∧ s = .int .i64 (k : Int) ∧ Hid ((l.take k).any (withinR r') = false) ∧ Below w.heap.size w wr) (fun s _ => i - (intOf s).toNat)
  case atStart => exact ⟨0, Nat.zero_le _, rfl, rfl, Below.refl _ _⟩
  case round =>
    obtain ⟨k, hk, rfl, HF, hb⟩ := hrel
    have HB : Hid (Below w.heap.size w wr) := hb
    clear hb
    by_cases hlt : k < i
    · have hlt' : (k : Int) < (i : Int) := by omega
      have kz : (k : Int) < (n : Int) := by omega
      obtain ⟨g2, off2, cur2, ty2, fr2, a, hadr, hg2, hc2', hak⟩ := (GSl.below HL.out HB.out).at k (by omega)
      simp only [Option.some.injEq, Addr.mk.injEq] at hadr
      obtain ⟨rfl, rfl, _⟩ := hadr
      have ha : okR8 a := HOK.out a (List.mem_of_getElem? hak)
      have HAO : Hid (okR8 a) := ha
      have K2 : Hid (wr.heap[g]? = some (.cells cur2 ty2 fr2)) := hg2
      have K1 : Hid (wr.heap[g]? = some (.cells cur ty fr)) := (HB.out.block _ (Array.getElem?_eq_some_iff.1 KG.out).1).trans KG.out
      have H2 : Hid (∀ j, j < 26 → cur2[off + k * 28 + 1 + j]? = (cv a.cube.1 a.cube.2)[j]?) := fun j hj => by
        have h3 := hc2' (1 + j) (by show 1 + j < 28; omega)
        rw [(rule_at ha).2.1 j hj] at h3
        rw [← h3]
        congr 1
        show off + k * 28 + 1 + j = off + k * 28 + (1 + j)
        omega
      have HAK : Hid (l[k]? = some a) := hak
      clear hg2 hc2' hak ha
      go_wp2_with fail
      have ne1 := Later.ne wr
      refine wp_region_later (by kernel_rfl) (by kernel_rfl) ?_
      go_big_quiet_step (fail)
      go_big_quiet_step (fail)
      go_big_quiet_step (fail)
      go_big_quiet_step (fail)
      refine qlE (E := CubE) CubOk rfl _ rfl g (off + i * 28 + 1) rfl cur ty fr (cv r'.cube.1 r'.cube.2) (cv_size _ _ HR.out.1.1 HR.out.2.1) (later_block K1.out) HI.out ?_
      simp only [Act.put, List.setIfInBounds_toArray, List.set_cons_succ, List.set_cons_zero]
      go_big_quiet_step (fail)
      go_big_quiet_step (fail)
      go_big_quiet_step (fail)
      go_big_quiet_step (fail)
      refine qlE (E := CubE) CubOk rfl _ rfl g (off + k * 28 + 1) rfl cur2 ty2 fr2 (cv a.cube.1 a.cube.2) (cv_size _ _ HAO.out.1.1 HAO.out.2.1) (later_block K2.out) H2.out ?_
      simp only [Act.put, List.setIfInBounds_toArray, List.set_cons_succ, List.set_cons_zero]
      go_big_quiet_want; go_big_quiet_op
      refine ⟨_, fun u => Calls.later_of (WI.out _ _ _ _ u.world HR.out.1 HR.out.2 HAO.out.1 HAO.out.2), ?_⟩
      go_big_quiet_on
      refine wpQuiet_nil ?_
      rintro w1 ⟨v5, rfl⟩
      have B1 : Hid (Below w.heap.size w v5.world) := HB.out.trans (v5.below.mono HB.out.size)
      cases hwi : within r'.cube.1 r'.cube.2 a.cube.1 a.cube.2 with
      | true =>
        have HE : Hid (b = true) := by
          show _ = _
          rw [HBE.out]
          exact any_take_yes (l := l.take i) (k := k) (x := a) (by rw [List.getElem?_take_of_lt hlt]; exact HAK.out) hwi
        clear hwi
        go_wp2_with fail
        go_ret
        exact ⟨by rw [HE.out]; rfl, B1.out⟩
      | false =>
        have HF2 : Hid ((l.take (k + 1)).any (withinR r') = false) := any_take_no HF.out HAK.out hwi
        clear hwi
        go_wp2_with fail
        go_roundw
        case rel => exact ⟨k + 1, by omega, by go_num, HF2, B1.out⟩
        case measure => simp [intOf]; omega
    · have hlt' : ¬ (k : Int) < (i : Int) := by omega
      have HE : Hid (b = false) := by
        show _ = _
        rw [HBE.out]
        have := HF.out
        rwa [show k = i by omega] at this
      go_wp2_with fail
      go_ret
      exact ⟨by rw [HE.out]; rfl, HB.out⟩

set_option maxHeartbeats 8000000 in
set_option maxRecDepth 100000 in
theorem rtrim_any (l : List RuleM) (hl0 : ∀ r ∈ l, okR8 r) (hn1 : l.length ≤ 100000) (vl : Value) (w : World) (hl : RulesAt w vl l) :
    Calls Tryd.prog 14 #[vl] w fun e w' => (∃ v, e = .returned v ∧ w'.ownsRow w.heap.size 35 28 v (trimT l).length (gcells ruleV (trimT l))) ∧ Below w.heap.size w w' := by
  obtain ⟨o, cap, rfl, hc1, hc2⟩ := GSl.slice hl
  obtain ⟨n, hn0⟩ : ∃ n, n = l.length := ⟨_, rfl⟩
  have HN : Hid (n = l.length) := hn0
  rw [← hn0] at hl hc1 hn1 ⊢
  have SH : Hid (∀ (i : Nat) (r : RuleM) W, l[i]? = some r → Below w.heap.size w W → Calls Tryd.prog 23 #[.slice o n cap, .int .i64 (i : Int)] W fun e w' => e = .returned (.bool ((l.take i).any (withinR r))) ∧ Below W.heap.size W w') := fun i r W h1 h2 => rshut_any l hl0 _ i r h1 W (GSl.below hl h2)
  have HL : Hid (RulesAt w (.slice o n cap) l) := hl
  have HOK : Hid (∀ r ∈ l, okR8 r) := hl0
  unfold maxLen at hc2
  clear hl hn0 hl0
  go_enter Tryd.func14, Tryd.ntmps14
  go_wp2_with (refine wl_build0R (E := RuleE) RuleOk rfl rfl ?_)
  go_loopw [3, 4] (fun v i wr => ∃ (k : Nat) (T : List RuleM), k ≤ n ∧ i = .int .i64 (k : Int) ∧ Hid (T = trimT (l.take k)) ∧ T.length ≤ k ∧ wr.ownsRow w.heap.size 35 28 v T.length (gcells ruleV T) ∧ Below w.heap.size w wr) (fun _ i _ => n - (intOf i).toNat)
  case atStart => exact ⟨0, [], Nat.zero_le _, rfl, rfl, Nat.le_refl _, own0R _ _ _, (Below.refl _ _).alloc (Nat.le_refl _) _⟩
  case round =>
    obtain ⟨k, T, hk, rfl, HT, hTk, hown, hb⟩ := hrel
    have HO : Hid (wr.ownsRow w.heap.size 35 28 u3 T.length (gcells ruleV T)) := hown
    have HB : Hid (Below w.heap.size w wr) := hb
    clear hown hb
    by_cases hlt : k < n
    · have hlt' : (k : Int) < (n : Int) := by omega
      obtain ⟨r, hr0⟩ : ∃ r, l[k]? = some r := ⟨_, List.getElem?_eq_getElem (by rw [← HN.out]; exact hlt)⟩
      have hr : okR8 r := HOK.out r (List.mem_of_getElem? hr0)
      have HR : Hid (okR8 r) := hr
      have hsz := ruleV_size hr
      have HNX := trimT_take hr0
      obtain ⟨g, off, cur, ty, fr, r', rfl, hg, hc, hxi⟩ := (GSl.below HL.out HB.out).at k hlt
      obtain rfl : r' = r := by rw [hr0] at hxi; exact (Option.some.inj hxi).symm
      have KG : Hid (wr.heap[g]? = some (.cells cur ty fr)) := hg
      have H1 : Hid (∀ j, j < 28 → cur[off + k * 28 + j]? = (ruleV r')[j]?) := hc
      have HR0 : Hid (l[k]? = some r') := hr0
      obtain ⟨b, hbe⟩ : ∃ b, b = (l.take k).any (withinR r') := ⟨_, rfl⟩
      have HBE : Hid (b = (l.take k).any (withinR r')) := hbe
      rw [← hbe, ← HT.out] at HNX
      have HX : Hid (trimT (l.take (k + 1)) = T ++ (if b = true then [] else [r'])) := HNX
      clear hg hc hxi hr hr0 hbe HNX
      go_wp2_with fail
      refine (SH.out k r' _ HR0.out HB.out).mono ?_
      rw [← HBE.out]
      rintro e w1 ⟨rfl, hb1⟩
      have B1 : Hid (Below w.heap.size w w1) := HB.out.trans (hb1.mono HB.out.size)
      have K1 : Hid (w1.heap[g]? = some (.cells cur ty fr)) := (hb1.block _ (Array.getElem?_eq_some_iff.1 KG.out).1).trans KG.out
      have O1 : Hid (w1.ownsRow w.heap.size 35 28 u3 T.length (gcells ruleV T)) := gown_below HO.out hb1
      clear hb1
      cases b with
      | true =>
        go_wp2_with fail
        go_roundw
        case rel => exact ⟨k + 1, T, by omega, by go_num, by show _ = _; rw [HX.out]; simp, by omega, O1.out, B1.out⟩
        case measure => simp [intOf]; omega
      | false =>
        have ON2 : Hid ((w1.alloc (.cells (ruleV r') 35)).ownsRow w.heap.size 35 28 u3 T.length (gcells ruleV T)) := O1.out.alloc _
        go_wp2_with (first
          | (refine wl_loadE (E := RuleE) RuleOk rfl _ rfl g (off + k * 28) rfl cur ty fr (ruleV r') hsz K1.out H1.out ?_)
          | (refine wl_buildE (E := RuleE) RuleOk rfl _ rfl (ruleV r') hsz rfl ?_)
          | (at_builtin; refine of_stopT ?_))
        unfold StopT
        refine wl_appendE (E := RuleE) RuleOk ruleV rfl _ _ rfl w.heap.size u3 T r' (rule_fits HR.out) rfl ON2.out w1.heap.size 1 rfl (heap_new _ _ _ rfl) (by omega) (by have := B1.out.size; simp; omega) ?_
        intro v' w3 hown3 hgr3 _
        have B3 : Hid (Below w.heap.size w w3) := (B1.out.alloc B1.out.size _).trans ((Below.refl _ _).grown hgr3 (B1.out.alloc B1.out.size _).size fun k hk => (ON2.out.lt k hk).1)
        have O3 : Hid (w3.ownsRow w.heap.size 35 28 v' (T ++ [r']).length (gcells ruleV (T ++ [r']))) := hown3
        clear hown3 hgr3
        simp only [Act.put, List.setIfInBounds_toArray, List.set_cons_succ, List.set_cons_zero]
        go_wp2_with fail
        go_roundw
        case rel => exact ⟨k + 1, T ++ [r'], by omega, by go_num, by show _ = _; rw [HX.out]; simp, by simp; omega, O3.out, B3.out⟩
        case measure => simp [intOf]; omega
    · have hlt' : ¬ (k : Int) < (n : Int) := by omega
      have HE : Hid (T = trimT l) := by
        have e := HN.out
        show _ = _
        rw [HT.out, List.take_of_length_le (by omega)]
      go_wp2_with fail
      go_ret
      exact ⟨⟨_, rfl, by rw [← HE.out]; exact HO.out⟩, HB.out⟩
end Go.Proofs.YtnbklmmampdbfaaDoor
namespace Go.Proofs.YtnbklmmampdbfaaDoor
open Go Go.RowKit
set_option maxRecDepth 20000

section
variable {P : Program} {ops : Array Oper} {md : Region.Mode} {C : World → Prop}

/-- Each operation behind the first n + 1 waits for one of those from n on. -/
def chainW (md : Region.Mode) (ops : Array Oper) (n : Nat) : Bool :=
  (List.range ops.size).all fun t => decide (t ≤ n) || (List.range t).any fun s => decide (n ≤ s) && Region.waitsFor md ops t s

theorem waits_tail {n : Nat} {listed : Array Bool} (hs : Region.sinkB md ops n = true) (hc : chainW md ops n = true) (inv : HeadInv md ops n listed) :
    ∀ (d i : Nat), n - i = d → i < n → listed.getD i true = false → ∀ t, n ≤ t → t ∉ Region.ready md ops listed := by
  intro d
  induction d using Nat.strongRecOn with
  | _ d ih =>
    intro i hd hi hun t ht hr
    obtain ⟨_, ot, hot, hall⟩ := mem_ready.1 hr
    have htlt : t < ops.size := (Array.getElem?_eq_some_iff.1 hot).1
    by_cases htn : t = n
    · subst htn
      have h1 := List.all_eq_true.1 hs i (List.mem_range.2 hi)
      obtain ⟨j, hj, hj2⟩ := List.any_eq_true.1 h1
      simp only [Bool.and_eq_true, decide_eq_true_eq] at hj2
      obtain ⟨oj, hoj, e, he, hb, hon⟩ := Region.waitsFor_spec hj2.2
      have hjle : j ≤ t := by have := List.mem_range.1 hj; omega
      by_cases hjt : j = t
      · subst hjt
        have : oj = ot := Option.some.inj (hoj.symm.trans hot)
        subst this
        have h2 := hall e he hb
        rw [hon, getD_both hun] at h2
        cases h2
      · cases hl : listed.getD j false with
        | true =>
          have h2 := inv.closed j oj hoj hl e he hb
          rw [hon, getD_both hun] at h2
          cases h2
        | false =>
          have hjs : j < listed.size := by rw [inv.size]; omega
          exact ih (t - j) (by omega) j rfl (by omega) (getD_in hjs hl) t (Nat.le_refl _) hr
    · have h1 := List.all_eq_true.1 hc t (List.mem_range.2 htlt)
      simp only [Bool.or_eq_true, decide_eq_true_eq] at h1
      rcases h1 with h1 | h1
      · omega
      · obtain ⟨s, hs1, hs2⟩ := List.any_eq_true.1 h1
        simp only [Bool.and_eq_true, decide_eq_true_eq] at hs2
        have hst := List.mem_range.1 hs1
        obtain ⟨o', ho', e, he, hb, hon⟩ := Region.waitsFor_spec hs2.2
        have : o' = ot := Option.some.inj (ho'.symm.trans hot)
        subst this
        have h2 := hall e he hb
        rw [hon, getD_both (inv.tail s hs2.1 (by omega))] at h2
        cases h2

theorem anyH_first {n i : Nat} {oi : Oper} {v : Value} {L : Array Bool → Act → Prop} (hi : ops[i]? = some oi) (hsel : ∀ (j : Nat) (o : Oper) cs b, ops[j]? = some o → o.op ≠ .select cs b)
    (hs : Region.sinkB md ops n = true) (hc : chainW md ops n = true) (hin : i < n)
    (hdone : ∀ listed a, L listed a → ∀ j ∈ Region.ready md ops listed, n ≤ j) :
    ∀ (f : Nat) (listed : Array Bool) (a : Act), HeadInv md ops n listed →
      (∀ j oj, ops[j]? = some oj → j ≠ i → listed.getD j true = false → (∀ e ∈ oj.after, Region.binds md e = true → e.on ≠ i) → oi.apart ops oj = true) →
      i ∈ Region.ready md ops listed → YieldsIn P ops C oi v a →
      anyL P md ops C n L f (listed.setIfInBounds i true) (a.put oi.dst v) → anyL P md ops C n L (f + 1) listed a := by
  intro f
  induction f with
  | zero =>
    intro listed a inv _ hr hy H
    have hun := (mem_ready.1 hr).1
    refine ⟨fun h => (by rw [h] at hr; cases hr), fun j hj => ?_⟩
    have hjn : j < n := by
      rcases Nat.lt_or_ge j n with h | h
      · exact h
      · exact absurd hj (waits_tail hs hc inv _ i rfl hin hun j h)
    refine ⟨hjn, ?_⟩
    by_cases hji : j = i
    · subst hji; exact hy.qOp hi H
    · have := hdone _ _ H j (ready_mono hj hji)
      omega
  | succ f ih =>
    intro listed a inv hfree hr hy H
    have hun := (mem_ready.1 hr).1
    refine ⟨fun h => (by rw [h] at hr; cases hr), fun j hj => ?_⟩
    have hjn : j < n := by
      rcases Nat.lt_or_ge j n with h | h
      · exact h
      · exact absurd hj (waits_tail hs hc inv _ i rfl hin hun j h)
    refine ⟨hjn, ?_⟩
    by_cases hji : j = i
    · subst hji; exact hy.qOp hi H
    · have h1 := (H.2 j (ready_mono hj hji)).2
      obtain ⟨hjun, oj, hoj, hall⟩ := mem_ready.1 hj
      have hnot : ∀ e ∈ oj.after, Region.binds md e = true → e.on ≠ i := fun e he hb heq => by
        have h1 := hall e he hb
        rw [heq, getD_both hun] at h1
        cases h1
      have h2 := qOp_put hoj (hfree j oj hoj hji hjun hnot) (fun cs b => hsel i oi cs b hi) (fun cs b => hsel j oj cs b hoj) hy h1
      have hfree' : ∀ k ok, ops[k]? = some ok → k ≠ i → (listed.setIfInBounds j true).getD k true = false →
          (∀ e ∈ ok.after, Region.binds md e = true → e.on ≠ i) → oi.apart ops ok = true := fun k ok hk hki hun hno => by
        refine hfree k ok hk hki ?_ hno
        by_cases hjk : j = k
        · subst hjk; exact hjun
        · rw [getD_set_ne true hjk] at hun; exact hun
      refine qOp_mono (fun a' h3 => ih (listed.setIfInBounds j true) a' (inv.set hj hjn) hfree' (ready_mono hr (Ne.symm hji)) h3.1 ?_) h2
      rw [Array.setIfInBounds_comm _ _ hji]
      exact h3.2

def headB (md : Region.Mode) (ops : Array Oper) (L0 : Array Bool) : Nat → Nat → Array Bool → Bool
  | 0, _, listed => decide (listed = L0)
  | f + 1, k, listed => (Region.ready md ops listed).contains k && Region.free md ops listed k && headB md ops L0 f (k + 1) (listed.setIfInBounds k true)

theorem anyH_lex {n : Nat} {L0 : Array Bool} {Lq : Act → Prop} (hsel : Region.noSelect ops = true) (hs : Region.sinkB md ops n = true) (hc : chainW md ops n = true) (hd : ∀ j ∈ Region.ready md ops L0, n ≤ j) :
    ∀ (l : List Oper) (k : Nat) (listed : Array Bool) (a : Act), (∀ j, j < l.length → l[j]? = ops[k + j]?) → k + l.length = n → HeadInv md ops n listed →
    headB md ops L0 l.length k listed = true → wpQuiet P ops C Lq l a →
    anyL P md ops C n (fun listed' a' => listed' = L0 ∧ Lq a') l.length listed a
  | [], k, listed, a, _, hk, _, hB, h => ⟨by simpa [headB] using hB, h⟩
  | o :: l, k, listed, a, hl, hk, inv, hB, h => by
    have h0 : ops[k]? = some o := by simpa using (hl 0 (by simp)).symm
    simp only [List.length_cons, headB, Bool.and_eq_true] at hB
    obtain ⟨⟨hr, hf⟩, hB'⟩ := hB
    have hkn : k < n := by simp only [List.length_cons] at hk; omega
    have hr' : k ∈ Region.ready md ops listed := by simpa using hr
    have hst : qOp P ops C k (wpQuiet P ops C Lq l) a := by unfold qOp; simp only [h0]; exact h
    obtain ⟨v, hy, hK⟩ := yieldsIn_of_qOp h0 hst
    exact anyH_first h0 (Region.noSelect_spec hsel) hs hc hkn (fun listed' a' hL => by rw [hL.1]; exact hd) l.length listed a inv (Region.free_spec h0 hf) hr' hy
      (anyH_lex hsel hs hc hd l (k + 1) _ _ (fun j hj => by have := hl (j + 1) (by simp; omega); simpa [Nat.add_assoc, Nat.add_comm 1 j] using this) (by simp only [List.length_cons] at hk; omega) (inv.set hr' hkn) hB' hK)
end

/-- A drawn region whose first n operations only read and call; what is left is asked of every order. -/
theorem wp_region_head {P : Program} {id : Nat} {Q : Exit → Act → World → Prop} {a : Act} {w : World} {l : List Oper} (n g : Nat) (L0 : Array Bool) (hm : P.follows .mixedOrders = true)
    (hsel : Region.noSelect l.toArray = true) (hs : Region.sinkB .any l.toArray n = true) (hc : chainW .any l.toArray n = true) (hd : (Region.ready .any l.toArray L0).all (fun j => decide (n ≤ j)) = true) (hB : headB .any l.toArray L0 n 0 (Array.replicate l.toArray.size false) = true) (hg : l.length = n + g)
    (h : wpQuiet P l.toArray (fun w' => ∃ u : Later w, w' = u.world) (fun a' => ∀ w', (∃ u : Later w, w' = u.world) → wpAny P .any l.toArray Q g L0 a' w') (l.take n) a) : (Code.region id l.toArray true).wp P Q a w := by
  have htl : (l.take n).length = n := by simp; omega
  have inv0 : HeadInv .any l.toArray n (Array.replicate l.toArray.size false) :=
    ⟨by simp, fun j oj _ hl => (by rw [getD_replicate_false] at hl; cases hl), fun t _ ht => getD_in (by simpa using ht) (getD_replicate_false _ _)⟩
  have H := anyH_lex (md := .any) (L0 := L0) hsel hs hc (fun j hj => of_decide_eq_true (List.all_eq_true.1 hd j hj)) (l.take n) 0 _ a (fun j hj => by
    have hj' : j < n := by rw [htl] at hj; exact hj
    simp [hj']) (by simpa using htl) inv0 (by rw [htl]; exact hB) h
  refine wp_region_any hm ?_
  have hC : (fun w' => ∃ u : Later w, w' = u.world) w.drew := ⟨⟨w.drew, (Below.refl _ _).drew⟩, rfl⟩
  have := any_of_head (Q' := Q) (g := g) (fun listed a' w' hw' hL => by rw [hL.1]; exact hL.2 w' hw') _ _ _ _ hC H
  rw [htl] at this
  rw [show l.toArray.size = n + g by simpa using hg]
  rw [show l.toArray.size = n + g by simpa using hg] at this
  exact this

/-- Two that reckon, then a store that waits for the first one alone. -/
theorem any_two {P : Program} {ops : Array Oper} {Q : Exit → Act → World → Prop} {a : Act} {w w' : World} {i0 i1 i2 : Nat} {o0 o1 o2 : Oper} {v0 v1 : Value} (L : Array Bool) (h0 : ops[i0]? = some o0) (h1 : ops[i1]? = some o1) (h2 : ops[i2]? = some o2)
    (r0 : Region.ready .any ops L = [i0, i1]) (r1 : Region.ready .any ops (L.setIfInBounds i0 true) = [i1, i2]) (r2 : Region.ready .any ops (L.setIfInBounds i1 true) = [i0]) (r3 : Region.ready .any ops ((L.setIfInBounds i0 true).setIfInBounds i1 true) = [i2])
    (r4 : Region.ready .any ops ((L.setIfInBounds i0 true).setIfInBounds i2 true) = [i1]) (r5 : Region.ready .any ops (((L.setIfInBounds i0 true).setIfInBounds i1 true).setIfInBounds i2 true) = []) (d1 : i1 ≠ i0) (d2 : i2 ≠ i1)
    (q0 : o0.guard = none) (q1 : o1.guard = none) (q2 : o2.guard = none) (q3 : o2.dst = none)
    (e0 : (execOp a.eval o0).run P w = .ok (.value v0) w) (e0' : (execOp (a.put o1.dst v1).eval o0).run P w = .ok (.value v0) w)
    (e1 : (execOp a.eval o1).run P w = .ok (.value v1) w) (e1a : (execOp (a.put o0.dst v0).eval o1).run P w = .ok (.value v1) w) (e1b : (execOp (a.put o0.dst v0).eval o1).run P w' = .ok (.value v1) w')
    (e2 : (execOp (a.put o0.dst v0).eval o2).run P w = .ok .skip w') (e2a : (execOp ((a.put o0.dst v0).put o1.dst v1).eval o2).run P w = .ok .skip w')
    (comm : (a.put o1.dst v1).put o0.dst v0 = (a.put o0.dst v0).put o1.dst v1)
    (h : Q .normal ((a.put o0.dst v0).put o1.dst v1) w') : wpAny P .any ops Q 3 L a w := by
  have pn : ∀ (b : Act) (v : Value), b.put none v = b := fun b v => rfl
  have fin : wpAny P .any ops Q 0 (((L.setIfInBounds i0 true).setIfInBounds i1 true).setIfInBounds i2 true) ((a.put o0.dst v0).put o1.dst v1) w' := ⟨r5, h⟩
  refine any_step [i0, i1] r0 (by simp) fun i hi => ?_
  simp only [List.mem_cons, List.not_mem_nil, or_false] at hi
  rcases hi with rfl | rfl
  · refine wpOp_value h0 q0 e0 (any_step [i1, i2] r1 (by simp) fun j hj => ?_)
    simp only [List.mem_cons, List.not_mem_nil, or_false] at hj
    rcases hj with rfl | rfl
    · refine wpOp_value h1 q1 e1a (any_step [i2] r3 (by simp) fun j hj => ?_)
      simp only [List.mem_cons, List.not_mem_nil, or_false] at hj
      subst hj
      refine wpOp_skip h2 q2 e2a ?_
      rw [q3, pn]
      exact fin
    · refine wpOp_skip h2 q2 e2 ?_
      rw [q3, pn]
      refine any_step [i1] r4 (by simp) fun j hj => ?_
      simp only [List.mem_cons, List.not_mem_nil, or_false] at hj
      subst hj
      refine wpOp_value h1 q1 e1b ?_
      rw [Array.setIfInBounds_comm _ _ d2]
      exact fin
  · refine wpOp_value h1 q1 e1 (any_step [i0] r2 (by simp) fun j hj => ?_)
    simp only [List.mem_cons, List.not_mem_nil, or_false] at hj
    subst hj
    refine wpOp_value h0 q0 e0' ?_
    rw [comm, Array.setIfInBounds_comm _ _ d1]
    refine any_step [i2] r3 (by simp) fun j hj => ?_
    simp only [List.mem_cons, List.not_mem_nil, or_false] at hj
    subst hj
    refine wpOp_skip h2 q2 e2a ?_
    rw [q3, pn]
    exact fin
theorem any_fix {P : Program} {Q : Exit → Act → World → Prop} {a : Act} {w w' : World} {p0 p1 p2 p3 p4 p5 p6 o7 o8 o9 o10 : Oper} {v v0 v1 : Value}
    (r7 : Region.ready .any (p0 :: p1 :: p2 :: p3 :: p4 :: p5 :: p6 :: o7 :: o8 :: o9 :: o10 :: []).toArray #[true, true, true, true, true, true, true, false, false, false, false] = [7])
    (r0 : Region.ready .any (p0 :: p1 :: p2 :: p3 :: p4 :: p5 :: p6 :: o7 :: o8 :: o9 :: o10 :: []).toArray #[true, true, true, true, true, true, true, true, false, false, false] = [8, 9])
    (r1 : Region.ready .any (p0 :: p1 :: p2 :: p3 :: p4 :: p5 :: p6 :: o7 :: o8 :: o9 :: o10 :: []).toArray #[true, true, true, true, true, true, true, true, true, false, false] = [9, 10])
    (r2 : Region.ready .any (p0 :: p1 :: p2 :: p3 :: p4 :: p5 :: p6 :: o7 :: o8 :: o9 :: o10 :: []).toArray #[true, true, true, true, true, true, true, true, false, true, false] = [8])
    (r3 : Region.ready .any (p0 :: p1 :: p2 :: p3 :: p4 :: p5 :: p6 :: o7 :: o8 :: o9 :: o10 :: []).toArray #[true, true, true, true, true, true, true, true, true, true, false] = [10])
    (r4 : Region.ready .any (p0 :: p1 :: p2 :: p3 :: p4 :: p5 :: p6 :: o7 :: o8 :: o9 :: o10 :: []).toArray #[true, true, true, true, true, true, true, true, true, false, true] = [9])
    (r5 : Region.ready .any (p0 :: p1 :: p2 :: p3 :: p4 :: p5 :: p6 :: o7 :: o8 :: o9 :: o10 :: []).toArray #[true, true, true, true, true, true, true, true, true, true, true] = [])
    (q7 : o7.guard = none) (q0 : o8.guard = none) (q1 : o9.guard = none) (q2 : o10.guard = none) (q3 : o10.dst = none)
    (e7 : (execOp a.eval o7).run P w = .ok (.value v) w)
    (e0 : (execOp (a.put o7.dst v).eval o8).run P w = .ok (.value v0) w) (e0' : (execOp ((a.put o7.dst v).put o9.dst v1).eval o8).run P w = .ok (.value v0) w)
    (e1 : (execOp (a.put o7.dst v).eval o9).run P w = .ok (.value v1) w) (e1a : (execOp ((a.put o7.dst v).put o8.dst v0).eval o9).run P w = .ok (.value v1) w) (e1b : (execOp ((a.put o7.dst v).put o8.dst v0).eval o9).run P w' = .ok (.value v1) w')
    (e2 : (execOp ((a.put o7.dst v).put o8.dst v0).eval o10).run P w = .ok .skip w') (e2a : (execOp (((a.put o7.dst v).put o8.dst v0).put o9.dst v1).eval o10).run P w = .ok .skip w')
    (comm : ((a.put o7.dst v).put o9.dst v1).put o8.dst v0 = ((a.put o7.dst v).put o8.dst v0).put o9.dst v1)
    (h : Q .normal (((a.put o7.dst v).put o8.dst v0).put o9.dst v1) w') :
    wpAny P .any (p0 :: p1 :: p2 :: p3 :: p4 :: p5 :: p6 :: o7 :: o8 :: o9 :: o10 :: []).toArray Q 4 #[true, true, true, true, true, true, true, false, false, false, false] a w := by
  refine any_step [7] r7 (by simp) fun i hi => ?_
  simp only [List.mem_cons, List.not_mem_nil, or_false] at hi
  subst hi
  refine wpOp_value (o := o7) rfl q7 e7 ?_
  exact any_two (i0 := 8) (i1 := 9) (i2 := 10) (o0 := o8) (o1 := o9) (o2 := o10) _ rfl rfl rfl r0 r1 r2 r3 r4 r5 (by decide) (by decide) q0 q1 q2 q3 e0 e0' e1 e1a e1b e2 e2a comm h
theorem run_move (P : Program) (a : Act) (o : Oper) (w : World) (x : Operand) (v : Value) (ho : o.op = .move x) (hx : a.eval x = v) : (execOp a.eval o).run P w = .ok (.value v) w := by
  unfold execOp
  simp only [ho, Sem.run_pure, hx]
theorem run_extract (P : Program) (a : Act) (o : Oper) (w : World) (x : Operand) (i : Nat) (vs : Array Value) (v : Value) (ho : o.op = .extract x i) (hx : a.eval x = .tuple vs) (hv : vs[i]? = some v) : (execOp a.eval o).run P w = .ok (.value v) w := by
  unfold execOp
  simp [ho, hx, Instr.extract, hv]
end Go.Proofs.YtnbklmmampdbfaaDoor
namespace Go.Proofs.YtnbklmmampdbfaaDoor
open Go Go.RowKit
set_option maxRecDepth 20000

/-- Thirteen bytes of ones. -/
def F : List Int := mk fun _ => true
theorem F_byt : Byt F := mk_byt _
theorem F_at (k : Nat) (hk : k < 13) : F.getD k 0 = 255 := by unfold F; rw [mk_at _ k hk]; rfl

theorem built1 (L : List Int) (hL : L.length = 13) (w : World) : (Instr.build 33 #[(0, .agg (hv L))]).run Tryd.prog w = .ok (.agg (cv L Z)) w := by
  have hz : ∀ w, (zeroValue 33).run Tryd.prog w = .ok (.agg zeroC) w := fun w => by kernel_rfl
  have hs : ∀ w, (sizeOf 23).run Tryd.prog w = .ok 13 w := fun w => by kernel_rfl
  have hsz : (hv L).size = 13 := by rw [hv_size, hL]
  have hfold : (hv L).zipIdx.foldl (fun cs (x : Value × Nat) => cs.setIfInBounds (0 + x.2) x.1) zeroC = cv L Z := by
    have e : (hv L).zipIdx.foldl (fun cs (x : Value × Nat) => cs.setIfInBounds (0 + x.2) x.1) zeroC = ((hv L).toList.zipIdx 0).foldl (fun cs (x : Value × Nat) => cs.setIfInBounds (0 + x.2) x.1) zeroC := by
      rw [← Array.foldl_toList]; simp
    rw [e]
    apply Array.ext_getElem?
    intro k
    rw [fold_get 0 (hv L).toList 0 zeroC k (by simp [hsz])]
    simp only [Array.length_toList, hsz, Nat.zero_add, Nat.sub_zero]
    by_cases hk : k < 13
    · rw [if_pos (by omega), Array.getElem?_toList, hv_at L hL k hk, cv_val L Z hL k hk]
    · rw [if_neg (by omega), zeroC_eq]
      by_cases h2 : k < 26
      · have e2 : k = 13 + (k - 13) := by omega
        rw [e2, cv_mask Z Z Z_byt.1 Z_byt.1 _ (by omega), cv_mask L Z hL Z_byt.1 _ (by omega)]
      · rw [Array.getElem?_eq_none (by rw [cv_size _ _ Z_byt.1 Z_byt.1]; omega), Array.getElem?_eq_none (by rw [cv_size _ _ hL Z_byt.1]; omega)]
  have hfill : ∀ pl : Nat → Option (Nat × Nat), pl 0 = some (0, 13) → Instr.fill pl zeroC [(0, .agg (hv L))] = some (cv L Z) := fun pl h0 => by
    simp only [Instr.fill, h0, Value.cells, hsz]
    rw [if_neg (by simp)]
    exact congrArg some hfold
  simp only [Instr.build, Sem.run_bind, hz, run_underlying Tryd.underlying33, Result.andThen_ok, Value.cells]
  simp [Sem.run_bind, hs, hfill]

theorem wl_buildC {ops : Array Oper} {rest : List Oper} {o : Oper} {a : Act} {w : World} {Q : Exit → Act → World → Prop} (hg : o.guard = none) (x : Operand) (ho : o.op = .build 33 #[(0, x)]) (L : List Int) (hL : L.length = 13) (hx : a.eval x = .agg (hv L))
    (h : wpList Tryd.prog ops Q rest (a.put o.dst (.agg (cv L Z))) w) : wpList Tryd.prog ops Q (o :: rest) a w :=
  wpList_plain hg fun _ hK => by
    unfold Oper.wp execOp
    have e : (#[(0, x)] : Array (Nat × Operand)).map (fun (i, x) => (i, a.eval x)) = #[(0, .agg (hv L))] := by simp [hx]
    simp only [ho, Sem.run_bind]
    rw [e, built1 L hL]
    exact hK _ _ h

end Go.Proofs.YtnbklmmampdbfaaDoor
namespace Go.Proofs.YtnbklmmampdbfaaDoor
open Go Go.RowKit
set_option maxRecDepth 20000

/-- The mask of so many bits from a place on. -/
def frM (F k : Nat) : List Int := mk fun i => decide (F ≤ i ∧ i < F + k)
/-- A header's so many bits from a place on. -/
def frV (L : List Int) (F k : Nat) : List Int := mk fun i => decide (F ≤ i ∧ i < F + k) && bt L i
theorem frM_byt (F k : Nat) : Byt (frM F k) := mk_byt _
theorem frV_byt (L : List Int) (F k : Nat) : Byt (frV L F k) := mk_byt _
theorem frM_bt (F k i : Nat) (hi : i < 104) : bt (frM F k) i = decide (F ≤ i ∧ i < F + k) := mk_bt _ i hi
theorem frV_bt (L : List Int) (F k i : Nat) (hi : i < 104) : bt (frV L F k) i = (decide (F ≤ i ∧ i < F + k) && bt L i) := mk_bt _ i hi
theorem dec_0 (F i : Nat) : decide (F ≤ i ∧ i < F + 0) = false := decide_eq_false (by omega)
theorem frM_0 (F : Nat) : frM F 0 = Z := bt_ext _ _ (frM_byt F 0) Z_byt fun i hi => by
  rw [frM_bt F 0 i hi, Z_bt i hi, dec_0]
theorem frV_0 (L : List Int) (F : Nat) : frV L F 0 = Z := bt_ext _ _ (frV_byt L F 0) Z_byt fun i hi => by
  rw [frV_bt L F 0 i hi, Z_bt i hi, dec_0]; rfl
theorem dec_step (F k i : Nat) : decide (F ≤ i ∧ i < F + (k + 1)) = if i = F + k then true else decide (F ≤ i ∧ i < F + k) := by
  by_cases e : i = F + k
  · rw [if_pos e]; simp; omega
  · rw [if_neg e, Bool.eq_iff_iff, decide_eq_true_eq, decide_eq_true_eq]; omega
theorem setM_step (F k : Nat) : setb (frM F k) (F + k) true = frM F (k + 1) := bt_ext _ _ (setb_byt _ _ _) (frM_byt _ _) fun i hi => by
  rw [setb_bt _ _ _ i hi, frM_bt _ _ i hi, frM_bt _ _ i hi, dec_step]
theorem setV_step (L : List Int) (F k : Nat) : setb (frV L F k) (F + k) (bt L (F + k)) = frV L F (k + 1) := bt_ext _ _ (setb_byt _ _ _) (frV_byt _ _ _) fun i hi => by
  rw [setb_bt _ _ _ i hi, frV_bt _ _ _ i hi, frV_bt _ _ _ i hi, dec_step]
  by_cases e : i = F + k
  · rw [if_pos e, if_pos e, e]; rfl
  · rw [if_neg e, if_neg e]
theorem can_fr (L : List Int) (F k : Nat) : can (frV L F k) (frM F k) = frV L F k := bt_ext _ _ (can_byt _ _) (frV_byt _ _ _) fun i hi => by
  rw [can_bt _ _ i hi, frV_bt _ _ _ i hi, frM_bt _ _ i hi]
  cases decide (F ≤ i ∧ i < F + k) <;> cases bt L i <;> rfl
theorem fixV_step (L : List Int) (F k : Nat) : fixV (frV L F k) (frM F k) (F + k) (bt L (F + k)) = frV L F (k + 1) := by
  unfold fixV; rw [can_fr, setV_step]
theorem fixM_step (F k : Nat) : fixM (frM F k) (F + k) = frM F (k + 1) := setM_step F k

theorem any_fix6 {P : Program} {Q : Exit → Act → World → Prop} {a : Act} {w w' : World} {p0 p1 p2 p3 p4 p5 o6 o7 o8 o9 : Oper} {v v0 v1 : Value}
    (r7 : Region.ready .any (p0 :: p1 :: p2 :: p3 :: p4 :: p5 :: o6 :: o7 :: o8 :: o9 :: []).toArray #[true, true, true, true, true, true, false, false, false, false] = [6])
    (r0 : Region.ready .any (p0 :: p1 :: p2 :: p3 :: p4 :: p5 :: o6 :: o7 :: o8 :: o9 :: []).toArray #[true, true, true, true, true, true, true, false, false, false] = [7, 8])
    (r1 : Region.ready .any (p0 :: p1 :: p2 :: p3 :: p4 :: p5 :: o6 :: o7 :: o8 :: o9 :: []).toArray #[true, true, true, true, true, true, true, true, false, false] = [8, 9])
    (r2 : Region.ready .any (p0 :: p1 :: p2 :: p3 :: p4 :: p5 :: o6 :: o7 :: o8 :: o9 :: []).toArray #[true, true, true, true, true, true, true, false, true, false] = [7])
    (r3 : Region.ready .any (p0 :: p1 :: p2 :: p3 :: p4 :: p5 :: o6 :: o7 :: o8 :: o9 :: []).toArray #[true, true, true, true, true, true, true, true, true, false] = [9])
    (r4 : Region.ready .any (p0 :: p1 :: p2 :: p3 :: p4 :: p5 :: o6 :: o7 :: o8 :: o9 :: []).toArray #[true, true, true, true, true, true, true, true, false, true] = [8])
    (r5 : Region.ready .any (p0 :: p1 :: p2 :: p3 :: p4 :: p5 :: o6 :: o7 :: o8 :: o9 :: []).toArray #[true, true, true, true, true, true, true, true, true, true] = [])
    (q7 : o6.guard = none) (q0 : o7.guard = none) (q1 : o8.guard = none) (q2 : o9.guard = none) (q3 : o9.dst = none)
    (e7 : (execOp a.eval o6).run P w = .ok (.value v) w)
    (e0 : (execOp (a.put o6.dst v).eval o7).run P w = .ok (.value v0) w) (e0' : (execOp ((a.put o6.dst v).put o8.dst v1).eval o7).run P w = .ok (.value v0) w)
    (e1 : (execOp (a.put o6.dst v).eval o8).run P w = .ok (.value v1) w) (e1a : (execOp ((a.put o6.dst v).put o7.dst v0).eval o8).run P w = .ok (.value v1) w) (e1b : (execOp ((a.put o6.dst v).put o7.dst v0).eval o8).run P w' = .ok (.value v1) w')
    (e2 : (execOp ((a.put o6.dst v).put o7.dst v0).eval o9).run P w = .ok .skip w') (e2a : (execOp (((a.put o6.dst v).put o7.dst v0).put o8.dst v1).eval o9).run P w = .ok .skip w')
    (comm : ((a.put o6.dst v).put o8.dst v1).put o7.dst v0 = ((a.put o6.dst v).put o7.dst v0).put o8.dst v1)
    (h : Q .normal (((a.put o6.dst v).put o7.dst v0).put o8.dst v1) w') :
    wpAny P .any (p0 :: p1 :: p2 :: p3 :: p4 :: p5 :: o6 :: o7 :: o8 :: o9 :: []).toArray Q 4 #[true, true, true, true, true, true, false, false, false, false] a w := by
  refine any_step [6] r7 (by simp) fun i hi => ?_
  simp only [List.mem_cons, List.not_mem_nil, or_false] at hi
  subst hi
  refine wpOp_value (o := o6) rfl q7 e7 ?_
  exact any_two (i0 := 7) (i1 := 8) (i2 := 9) (o0 := o7) (o1 := o8) (o2 := o9) _ rfl rfl rfl r0 r1 r2 r3 r4 r5 (by decide) (by decide) q0 q1 q2 q3 e0 e0' e1 e1a e1b e2 e2a comm h

/-- The header of a field alone. -/
def fh (f v : Int) : List Int := putN Z13 (atOf f) (sizeOfF f) v (sizeOfF f)
theorem Z13_byt : Byt Z13 := byt_of _ rfl (by decide)
theorem fh_byt (f v : Int) (h0 : 0 ≤ f) (h1 : f < 5) : Byt (fh f v) := putN_byt Z13 Z13_byt _ _ _ (place_facts f h0 h1).2.2.1

set_option maxHeartbeats 2000000 in
theorem begins_any (f v : Int) (k : Nat) (w : World) (h0 : 0 ≤ f) (h1 : f < 5) (hv0 : 0 ≤ v) (hv1 : v < 4294967296) (hvw : v < 2 ^ (8 * sizeOfF f)) (hk : k ≤ 8 * sizeOfF f) (hP : Places w) :
    Calls Tryd.prog 75 #[.int .i64 f, .int .u32 v, .int .i64 (k : Int)] w fun e w' => e = .returned (.agg (cv (frV (fh f v) (8 * atOf f) k) (frM (8 * atOf f) k))) ∧ Below w.heap.size w w' := by
  have P1 : Hid (∀ W, Places W → Calls Tryd.prog 91 #[.int .i64 f] W fun e w' => e = .returned (.tuple #[.int .i64 (8 * (atOf f : Int)), .int .i64 (8 * (sizeOfF f : Int)), .int .i64 0]) ∧ Below W.heap.size W w') := place_at f h0 h1
  have P2 : Hid (∀ W, Places W → Calls Tryd.prog 92 #[.agg zero26, .int .i64 f, .int .u32 v] W fun e w' => e = .returned (.tuple #[.agg (hv (fh f v)), .int .i64 0]) ∧ Below W.heap.size W w') := fun W hW => with_ok Z13 Z13_byt f v W h0 h1 hv0 hv1 hW hvw
  have hpf := place_facts f h0 h1
  have hLb := fh_byt f v h0 h1
  obtain ⟨F, hF⟩ : ∃ F, F = 8 * atOf f := ⟨_, rfl⟩
  obtain ⟨Wd, hWd⟩ : ∃ Wd, Wd = 8 * sizeOfF f := ⟨_, rfl⟩
  obtain ⟨L, hL⟩ : ∃ L, L = fh f v := ⟨_, rfl⟩
  have eF : (8 * (atOf f : Int)) = (F : Int) := by rw [hF]; omega
  have eW : (8 * (sizeOfF f : Int)) = (Wd : Int) := by rw [hWd]; omega
  have hFk : F + k ≤ 104 := by omega
  rw [eF, eW] at P1
  rw [← hL] at P2 hLb
  rw [← hF, ← hL]
  have HLB : Hid (Byt L) := hLb
  have hLl := hLb.1
  have hpos := hP.pos
  clear hpf hF hWd hL eF eW hk hv0 hv1 hvw h0 h1 hLb
  have B0 : Below w.heap.size w (w.alloc (.cells zeroC 33)) := (Below.refl _ _).alloc (Nat.le_refl _) _
  have o0 := heap_new w (.cells zeroC 33) _ rfl
  go_enter Tryd.func75, Tryd.ntmps75
  go_wp2_with fail
  refine (P1.out _ (hP.later hpos B0)).mono ?_
  rintro e w1 ⟨rfl, hb1⟩
  have B1 := B0.trans (hb1.mono B0.size)
  have o1 : w1.heap[w.heap.size]? = some (.cells zeroC 33 (0, 0)) := by rw [hb1.block _ (by simp)]; exact o0
  clear hb1 o0 B0
  go_wp2_with fail
  refine (P2.out _ (hP.later hpos B1)).mono ?_
  rintro e w2 ⟨rfl, hb2⟩
  have B2 := B1.trans (hb2.mono B1.size)
  have o2 : w2.heap[w.heap.size]? = some (.cells zeroC 33 (0, 0)) := by rw [hb2.block _ (Array.getElem?_eq_some_iff.1 o1).1]; exact o1
  have o3 := heap_past w2 (.cells (hv L) 23) _ _ o2
  have l3 := heap_new w2 (.cells (hv L) 23) _ rfl
  have B3 := B2.alloc B2.size (.cells (hv L) 23)
  have hz2 := B2.size
  clear hb2 o1 B1 o2
  go_wp2_with (first
    | (refine wl_store26 rfl _ _ rfl w2.heap.size L rfl rfl _ (heap_new _ _ _ rfl) rfl hLl _ (setRow_new _ _ _ _ _ rfl) ?_))
  refine (all_any _).mono ?_
  rintro e w3 ⟨rfl, hb3⟩
  have B4 := B3.trans (hb3.mono B3.size)
  have o4 : w3.heap[w.heap.size]? = some (.cells zeroC 33 (0, 0)) := by rw [hb3.block _ (Array.getElem?_eq_some_iff.1 o3).1]; exact o3
  have l4 : w3.heap[w2.heap.size]? = some (.cells (hv L) 23 (0, 0)) := by rw [hb3.block _ (Array.getElem?_eq_some_iff.1 l3).1]; exact l3
  have o5 := heap_past w3 (.cells (cv Z Z) 33) _ _ o4
  have l5 := heap_past w3 (.cells (cv Z Z) 33) _ _ l4
  have c5 := heap_new w3 (.cells (cv Z Z) 33) _ rfl
  have B5 := B4.alloc B4.size (.cells (cv Z Z) 33)
  have hz3 : w2.heap.size < w3.heap.size := (Array.getElem?_eq_some_iff.1 l4).1
  have hZl := Z_byt.1
  clear hb3 o3 l3 B3 o4 l4 B4 B2 hP P1 P2
  go_wp2_with (first
    | (refine wl_storeC rfl _ _ rfl w3.heap.size Z Z rfl rfl _ (heap_new _ _ _ rfl) rfl hZl hZl _ (setRow_new _ _ _ _ _ rfl) ?_))
  go_loopw [13] (fun i wr => ∃ j : Nat, j ≤ k ∧ i = .int .i64 ((F : Int) + (j : Int)) ∧ wr.heap[w.heap.size]? = some (.cells zeroC 33 (0, 0)) ∧ wr.heap[w2.heap.size]? = some (.cells (hv L) 23 (0, 0)) ∧ wr.heap[w3.heap.size]? = some (.cells (cv (frV L F j) (frM F j)) 33 (0, 0)) ∧ Below w.heap.size w wr) (fun i _ => F + k - (intOf i).toNat)
  case atStart => exact ⟨0, Nat.zero_le _, by simp, o5, l5, by rw [frV_0, frM_0]; exact c5, B5⟩
  case round =>
    clear o5 l5 c5 B5
    obtain ⟨j, hj, rfl, o5, l5, c5, B5⟩ := hrel
    have hVl := (frV_byt L F j).1
    have hMl := (frM_byt F j).1
    by_cases hlt : j < k
    · have CB : Hid (∀ W, Calls Tryd.prog 94 #[.agg (hv L), .int .i64 ((F : Int) + (j : Int))] W fun e w' => e = .returned (.bool (bt L (F + j))) ∧ Below W.heap.size W w') := fun W => hbit_nat L HLB.out (F + j) (by omega) W
      have CF : Hid (∀ W, Calls Tryd.prog 93 #[.agg (cv (frV L F j) (frM F j)), .int .i64 ((F : Int) + (j : Int)), .bool (bt L (F + j))] W fun e w' => e = .returned (.tuple #[.agg (cv (frV L F (j + 1)) (frM F (j + 1))), .int .i64 0]) ∧ Below W.heap.size W w') := fun W => by
        have := fix_in (frV L F j) (frM F j) (frV_byt _ _ _) (frM_byt _ _) (F + j) (bt L (F + j)) (by omega) W
        rw [fixV_step, fixM_step] at this
        exact this
      have hVl2 := (frV_byt L F (j + 1)).1
      have hMl2 := (frM_byt F (j + 1)).1
      obtain ⟨V, hV⟩ : ∃ V, V = frV L F j := ⟨_, rfl⟩
      obtain ⟨M, hM⟩ : ∃ M, M = frM F j := ⟨_, rfl⟩
      obtain ⟨V2, hV2⟩ : ∃ V2, V2 = frV L F (j + 1) := ⟨_, rfl⟩
      obtain ⟨M2, hM2⟩ : ∃ M2, M2 = frM F (j + 1) := ⟨_, rfl⟩
      obtain ⟨b, hb⟩ : ∃ b, b = bt L (F + j) := ⟨_, rfl⟩
      rw [← hb] at CB CF
      rw [← hV, ← hM, ← hV2, ← hM2] at CF
      rw [← hV] at hVl c5
      rw [← hM] at hMl c5
      rw [← hV2] at hVl2
      rw [← hM2] at hMl2
      have HV2 : Hid (V2 = frV L F (j + 1)) := hV2
      have HM2 : Hid (M2 = frM F (j + 1)) := hM2
      clear hV hM hV2 hM2 hb
      go_wp2_with fail
      have ne1 := Later.ne wr
      refine wp_region_head 6 4 #[true, true, true, true, true, true, false, false, false, false] (by kernel_rfl) (by kernel_rfl) (by kernel_rfl) (by kernel_rfl) (by kernel_rfl) (by kernel_rfl) rfl ?_
      simp only [List.take_succ_cons, List.take_zero]
      refine qlC rfl _ rfl w3.heap.size rfl V M c5 hVl hMl ?_
      simp only [Act.put, List.setIfInBounds_toArray, List.set_cons_succ, List.set_cons_zero]
      go_big_quiet_step (fail)
      refine qlH rfl _ rfl w2.heap.size rfl L l5 hLl ?_
      simp only [Act.put, List.setIfInBounds_toArray, List.set_cons_succ, List.set_cons_zero]
      go_big_quiet_step (fail)
      go_big_quiet_want; go_big_quiet_op
      refine ⟨_, fun u => Calls.later_of (CB.out u.world), ?_⟩
      go_big_quiet_on
      go_big_quiet_want; go_big_quiet_op
      refine ⟨_, fun u => Calls.later_of (CF.out u.world), ?_⟩
      go_big_quiet_on
      refine wpQuiet_nil ?_
      rintro w' ⟨u, rfl⟩
      have k0 := later_block o5 _ ⟨u, rfl⟩
      have k1 := later_block l5 _ ⟨u, rfl⟩
      have k2 := later_block c5 _ ⟨u, rfl⟩
      have hb2 := B5.trans (u.below.mono B5.size)
      clear o5 l5 c5 B5 ne1 CB CF
      refine any_fix6 (v := .tuple #[.agg (cv V2 M2), .int .i64 0]) (v0 := .agg (cv V2 M2)) (v1 := .int .i64 0) (w' := u.world.setRow w3.heap.size (cv V2 M2)) (by kernel_rfl) (by kernel_rfl) (by kernel_rfl) (by kernel_rfl) (by kernel_rfl) (by kernel_rfl) (by kernel_rfl) rfl rfl rfl rfl rfl (run_move _ _ _ _ _ _ rfl rfl)
        (run_extract _ _ _ _ _ _ _ _ rfl rfl rfl) (run_extract _ _ _ _ _ _ _ _ rfl rfl rfl) (run_extract _ _ _ _ _ _ _ _ rfl rfl rfl) (run_extract _ _ _ _ _ _ _ _ rfl rfl rfl) (run_extract _ _ _ _ _ _ _ _ rfl rfl rfl)
        (run_storeC _ _ _ _ _ rfl w3.heap.size _ _ rfl rfl _ k2 (cv_size _ _ hVl hMl) hVl2 hMl2) (run_storeC _ _ _ _ _ rfl w3.heap.size _ _ rfl rfl _ k2 (cv_size _ _ hVl hMl) hVl2 hMl2) rfl ?_
      simp only [Act.put, List.setIfInBounds_toArray, List.set_cons_succ, List.set_cons_zero]
      go_wp2_with fail
      go_roundw
      case rel => exact ⟨j + 1, by omega, by go_num, (setRow_other _ _ _ _ (by omega)).trans k0, (setRow_other _ _ _ _ (by omega)).trans k1, by rw [← HV2.out, ← HM2.out]; exact setRow_heap _ _ _ _ _ _ k2, below_setRow hb2 (by omega) _⟩
      case measure => simp [intOf]; omega
    · obtain rfl : j = k := by omega
      go_wp2_with (first
        | (refine wl_loadC rfl _ rfl w3.heap.size rfl (frV L F j) (frM F j) c5 hVl hMl ?_)
        | (refine wl_storeC rfl _ _ rfl w.heap.size (frV L F j) (frM F j) rfl rfl _ o5 rfl hVl hMl _ rfl ?_))
      refine retC (p := 6) rfl rfl w.heap.size rfl (frV L F j) (frM F j) hVl hMl (setRow_heap _ _ _ _ _ _ o5) ⟨rfl, ?_⟩
      exact below_setRow B5 (Nat.le_refl _) _
end Go.Proofs.YtnbklmmampdbfaaDoor
namespace Go.Proofs.YtnbklmmampdbfaaDoor
open Go Go.RowKit
set_option maxRecDepth 20000

theorem has_meet (V M V' M' H : List Int) (h : meets V M V' M' = true) : has (meetV V M V' M') (meetM M M') H = (has V M H && has V' M' H) := by
  rw [Bool.eq_iff_iff, Bool.and_eq_true, has_iff, has_iff, has_iff]
  have hm := (meets_iff V M V' M').1 h
  have e1 : ∀ i, i < 104 → bt (meetV V M V' M') i = ((bt V i && bt M i) || (bt V' i && bt M' i)) := fun i hi => mk_bt _ i hi
  have e2 : ∀ i, i < 104 → bt (meetM M M') i = (bt M i || bt M' i) := fun i hi => mk_bt _ i hi
  constructor
  · intro g
    constructor
    · intro i hi h1
      have h3 := g i hi (by rw [e2 i hi, h1]; rfl)
      rw [e1 i hi, h1] at h3
      have h4 := hm i hi h1
      revert h3 h4
      cases bt V i <;> cases bt V' i <;> cases bt M' i <;> cases bt H i <;> simp
    · intro i hi h1
      have h3 := g i hi (by rw [e2 i hi, h1]; simp)
      rw [e1 i hi, h1] at h3
      have h4 := fun h => hm i hi h h1
      revert h3 h4
      cases bt V i <;> cases bt V' i <;> cases bt M i <;> cases bt H i <;> simp
  · rintro ⟨g1, g2⟩ i hi h1
    have h3 := g1 i hi
    have h4 := g2 i hi
    rw [e2 i hi] at h1
    rw [e1 i hi]
    revert h1 h3 h4
    cases bt V i <;> cases bt V' i <;> cases bt M i <;> cases bt M' i <;> cases bt H i <;> simp
theorem has_meets {V M V' M' H : List Int} (h : has V M H = true) (h' : has V' M' H = true) : meets V M V' M' = true := by
  rw [has_iff] at h h'
  exact (meets_iff _ _ _ _).2 fun i hi h1 h2 => by rw [h i hi h1, h' i hi h2]
end Go.Proofs.YtnbklmmampdbfaaDoor
namespace Go.Proofs.YtnbklmmampdbfaaDoor
open Go Go.RowKit
set_option maxRecDepth 20000

theorem has_fr (L H : List Int) (F k : Nat) (hFk : F + k ≤ 104) : has (frV L F k) (frM F k) H = true ↔ ∀ i, i < k → bt L (F + i) = bt H (F + i) := by
  rw [has_iff]
  constructor
  · intro h i hi
    have h1 := h (F + i) (by omega) (by rw [frM_bt _ _ _ (by omega)]; simp; omega)
    rw [frV_bt _ _ _ _ (by omega), decide_eq_true (by omega), Bool.true_and] at h1
    exact h1
  · intro h i hi hm
    rw [frM_bt _ _ _ hi, decide_eq_true_eq] at hm
    have h1 := h (i - F) (by omega)
    rw [show F + (i - F) = i by omega] at h1
    rw [frV_bt _ _ _ _ hi, decide_eq_true hm, Bool.true_and]
    exact h1

/-- Numbers with the same first k of W bits are the same without the others. -/
theorem top_eq (W a b : Nat) (ha : a < 2 ^ W) (hb : b < 2 ^ W) : ∀ k, k ≤ W → ((∀ i, i < k → (a / 2 ^ (W - 1 - i) % 2 == 1) = (b / 2 ^ (W - 1 - i) % 2 == 1)) ↔ a / 2 ^ (W - k) = b / 2 ^ (W - k))
  | 0, _ => by
    rw [Nat.sub_zero, Nat.div_eq_of_lt ha, Nat.div_eq_of_lt hb]
    simp
  | k + 1, hk => by
    have ih := top_eq W a b ha hb k (by omega)
    have e : W - k = (W - (k + 1)) + 1 := by omega
    have e2 : W - 1 - k = W - (k + 1) := by omega
    rw [e, Nat.pow_succ, ← Nat.div_div_eq_div_mul, ← Nat.div_div_eq_div_mul] at ih
    constructor
    · intro h
      have h1 := ih.1 fun i hi => h i (by omega)
      have h2 := h k (by omega)
      rw [e2, Bool.eq_iff_iff, beq_iff_eq, beq_iff_eq] at h2
      omega
    · intro h i hi
      rcases Nat.lt_or_ge i k with h3 | h3
      · exact ih.2 (by rw [h]) i h3
      · obtain rfl : i = k := by omega
        rw [e2, h]

theorem fh_bit (f : Int) (v : Nat) (h0 : 0 ≤ f) (h1 : f < 5) (i : Nat) (hi : i < 8 * sizeOfF f) : bt (fh f (v : Int)) (8 * atOf f + i) = (v / 2 ^ (8 * sizeOfF f - 1 - i) % 2 == 1) := by
  have hp := place_facts f h0 h1
  have h2 := (withB_bit Z13 Z13_byt (8 * atOf f) (8 * sizeOfF f) v (by omega) (8 * sizeOfF f) (Nat.le_refl _)).2 (8 * atOf f + i) (by omega)
  rw [withB_put Z13 Z13_byt _ _ _ hp.2.2.1, if_pos (by omega), bitB_bt _ _ (by omega), show 8 * atOf f + 8 * sizeOfF f - 1 - (8 * atOf f + i) = 8 * sizeOfF f - 1 - i by omega] at h2
  exact h2

/-- A field's number. -/
def fld (H : List Int) (f : Int) : Nat := (getN H (atOf f) (sizeOfF f)).toNat
theorem fld_eq (H : List Int) (hH : Byt H) (f : Int) : getN H (atOf f) (sizeOfF f) = (fld H f : Int) := by
  have := (getN_bd H hH (atOf f) (sizeOfF f)).1
  unfold fld; omega
theorem fld_lt (H : List Int) (hH : Byt H) (f : Int) : fld H f < 2 ^ (8 * sizeOfF f) := by
  have h := (getN_bd H hH (atOf f) (sizeOfF f)).2
  rw [fld_eq H hH f] at h
  have h2 : ((fld H f : Nat) : Int) < ((256 ^ sizeOfF f : Nat) : Int) := by rw [Int.natCast_pow]; exact h
  rw [Nat.pow_mul, show 2 ^ 8 = 256 from rfl]
  exact Int.ofNat_lt.1 h2
theorem fld_bit (H : List Int) (hH : Byt H) (f : Int) (h0 : 0 ≤ f) (h1 : f < 5) (i : Nat) (hi : i < 8 * sizeOfF f) : bt H (8 * atOf f + i) = (fld H f / 2 ^ (8 * sizeOfF f - 1 - i) % 2 == 1) := by
  have hp := place_facts f h0 h1
  have h := getN_bit H hH (atOf f) (sizeOfF f) i hp.2.2.1 hi
  rw [bitB_bt _ _ (by omega), fld_eq H hH f] at h
  rw [h, Bool.eq_iff_iff, beq_iff_eq, beq_iff_eq]
  have hc : (fld H f : Int) / 2 ^ (8 * sizeOfF f - 1 - i) = ((fld H f / 2 ^ (8 * sizeOfF f - 1 - i) : Nat) : Int) := by simp
  rw [hc]; omega

/-- A cube of a field's first bits has the headers whose field begins so. -/
theorem has_field (H : List Int) (hH : Byt H) (f : Int) (v k : Nat) (h0 : 0 ≤ f) (h1 : f < 5) (hv : v < 2 ^ (8 * sizeOfF f)) (hk : k ≤ 8 * sizeOfF f) :
    has (frV (fh f (v : Int)) (8 * atOf f) k) (frM (8 * atOf f) k) H = decide (v / 2 ^ (8 * sizeOfF f - k) = fld H f / 2 ^ (8 * sizeOfF f - k)) := by
  have hp := place_facts f h0 h1
  rw [Bool.eq_iff_iff, decide_eq_true_eq, has_fr _ _ _ _ (by omega), ← top_eq (8 * sizeOfF f) v (fld H f) hv (fld_lt H hH f) k hk]
  constructor
  · intro h i hi
    rw [← fh_bit f v h0 h1 i (by omega), ← fld_bit H hH f h0 h1 i (by omega)]
    exact h i hi
  · intro h i hi
    rw [fh_bit f v h0 h1 i (by omega), fld_bit H hH f h0 h1 i (by omega)]
    exact h i hi

theorem ofInt32 (x : Int) (h0 : 0 ≤ x) (h1 : x < 4294967296) : (BitVec.ofInt 32 x).toNat = x.toNat := by
  rw [BitVec.toNat_ofInt]; omega
theorem xor32 (x y : Nat) (hx : x < 4294967296) (hy : y < 4294967296) : bits .xor .u32 (x : Int) (y : Int) = ((x ^^^ y : Nat) : Int) := by
  have e : bits .xor .u32 (x : Int) (y : Int) = ((BitVec.ofInt 32 x ^^^ BitVec.ofInt 32 y).toNat : Int) % 4294967296 := by
    unfold bits
    simp only []
    rw [IntKind.wrap_u32]
    rfl
  rw [e, BitVec.toNat_xor, ofInt32 x (by omega) (by omega), ofInt32 y (by omega) (by omega), Int.toNat_natCast, Int.toNat_natCast]
  have := Nat.xor_lt_two_pow (n := 32) (x := x) (y := y) (by omega) (by omega)
  omega
theorem xor_top (x y n : Nat) : ((x ^^^ y) / 2 ^ n = 0) ↔ (x / 2 ^ n = y / 2 ^ n) := by
  rw [← Nat.shiftRight_eq_div_pow, ← Nat.shiftRight_eq_div_pow, ← Nat.shiftRight_eq_div_pow, Nat.shiftRight_xor_distrib]
  constructor
  · intro h
    have h2 := congrArg (fun z => z ^^^ (y >>> n)) h
    simpa [Nat.xor_assoc] using h2
  · intro h; rw [h]; exact Nat.xor_self _
end Go.Proofs.YtnbklmmampdbfaaDoor
namespace Go.Proofs.YtnbklmmampdbfaaDoor
open Go Go.RowKit
set_option maxRecDepth 20000

theorem size_01 (f : Int) (hf : f = 0 ∨ f = 1) : sizeOfF f = 4 := by rcases hf with rfl | rfl <;> rfl
theorem size_23 (f : Int) (hf : f = 2 ∨ f = 3) : sizeOfF f = 2 := by rcases hf with rfl | rfl <;> rfl
theorem size_4 : sizeOfF 4 = 1 := rfl

/-- The cube of a field's first bits. -/
def pxV (f : Int) (v k : Nat) : List Int := frV (fh f (v : Int)) (8 * atOf f) k
def pxM (f : Int) (k : Nat) : List Int := frM (8 * atOf f) k
theorem pxV_byt (f : Int) (v k : Nat) : Byt (pxV f v k) := frV_byt _ _ _
theorem pxM_byt (f : Int) (k : Nat) : Byt (pxM f k) := frM_byt _ _

theorem begins_at (f : Int) (v k : Nat) (w : World) (h0 : 0 ≤ f) (h1 : f < 5) (hv : v < 2 ^ (8 * sizeOfF f)) (hk : k ≤ 8 * sizeOfF f) (hP : Places w) :
    Calls Tryd.prog 75 #[.int .i64 f, .int .u32 (v : Int), .int .i64 (k : Int)] w fun e w' => e = .returned (.agg (cv (pxV f v k) (pxM f k))) ∧ Below w.heap.size w w' := by
  have hs := (place_facts f h0 h1).2.2.2.1
  have h32 : v < 4294967296 := Nat.lt_of_lt_of_le hv (Nat.le_trans (Nat.pow_le_pow_right (by decide) (show 8 * sizeOfF f ≤ 32 by omega)) (by decide))
  exact begins_any f v k w h0 h1 (by omega) (by omega) (by exact_mod_cast hv) hk hP
set_option maxHeartbeats 1000000 in
theorem prefix_ok (f : Int) (v k : Nat) (w : World) (hf : f = 0 ∨ f = 1) (hv : v < 2 ^ 32) (hk : k ≤ 32) (hP : Places w) :
    Calls Tryd.prog 77 #[.int .i64 f, .int .u32 (v : Int), .int .i64 (k : Int)] w fun e w' => e = .returned (.tuple #[.agg (cv (pxV f v k) (pxM f k)), .int .i64 0]) ∧ Below w.heap.size w w' := by
  have hs := size_01 f hf
  have BG : Hid (∀ W, Places W → Calls Tryd.prog 75 #[.int .i64 f, .int .u32 (v : Int), .int .i64 (k : Int)] W fun e w' => e = .returned (.agg (cv (pxV f v k) (pxM f k))) ∧ Below W.heap.size W w') := fun W hW => begins_at f v k W (by omega) (by omega) (by rw [hs]; exact hv) (by omega) hW
  have B0 : Below w.heap.size w (w.alloc (.cells zeroC 33)) := (Below.refl _ _).alloc (Nat.le_refl _) _
  have o0 := heap_new w (.cells zeroC 33) _ rfl
  have HP : Hid (Places (w.alloc (.cells zeroC 33))) := hP.later hP.pos B0
  have hVl := (pxV_byt f v k).1
  have hMl := (pxM_byt f k).1
  obtain ⟨V, hV⟩ : ∃ V, V = pxV f v k := ⟨_, rfl⟩
  obtain ⟨M, hM⟩ : ∃ M, M = pxM f k := ⟨_, rfl⟩
  rw [← hV] at BG hVl ⊢
  rw [← hM] at BG hMl ⊢
  clear hP hv hs hV hM
  rcases hf with rfl | rfl
  all_goals
    go_enter Tryd.func77, Tryd.ntmps77
    go_wp2_with fail
    refine (BG.out _ HP.out).mono ?_
    rintro e w1 ⟨rfl, hb1⟩
    have o1 : w1.heap[w.heap.size]? = some (.cells zeroC 33 (0, 0)) := by rw [hb1.block _ (by simp)]; exact o0
    have B1 := B0.trans (hb1.mono B0.size)
    go_wp2_with (first
      | (refine wl_storeC rfl _ _ rfl w.heap.size V M rfl rfl _ o1 rfl hVl hMl _ rfl ?_))
    refine retCe (p := 6) (u := 7) rfl rfl w.heap.size rfl V M hVl hMl (setRow_heap _ _ _ _ _ _ o1) _ rfl ⟨rfl, ?_⟩
    exact below_setRow B1 (Nat.le_refl _) _

set_option maxHeartbeats 1000000 in
theorem prefix_no (f v k : Int) (w : World) (h : ¬ ((f = 0 ∨ f = 1) ∧ 0 ≤ k ∧ k ≤ 32)) :
    Calls Tryd.prog 77 #[.int .i64 f, .int .u32 v, .int .i64 k] w fun e w' => e = .returned (.tuple #[.agg (cv Z Z), .int .i64 1]) ∧ Below w.heap.size w w' := by
  have hZl := Z_byt.1
  by_cases hf : f = 0 ∨ f = 1
  · by_cases hk : k < 0
    · rcases hf with rfl | rfl
      all_goals
        go_enter Tryd.func77, Tryd.ntmps77
        go_wp2_with (first
          | (refine wl_storeC rfl _ _ rfl w.heap.size Z Z rfl (by rw [← zeroC_eq]; rfl) _ (heap_new _ _ _ rfl) rfl hZl hZl _ (setRow_new _ _ _ _ _ rfl) ?_))
        refine retCe (p := 6) (u := 7) rfl rfl w.heap.size rfl Z Z hZl hZl (heap_new _ _ _ rfl) _ rfl ⟨rfl, (Below.refl _ _).alloc (Nat.le_refl _) _⟩
    · have hk2 : k > 32 := by omega
      clear h
      rcases hf with rfl | rfl
      all_goals
        go_enter Tryd.func77, Tryd.ntmps77
        go_wp2_with (first
          | (refine wl_storeC rfl _ _ rfl w.heap.size Z Z rfl (by rw [← zeroC_eq]; rfl) _ (heap_new _ _ _ rfl) rfl hZl hZl _ (setRow_new _ _ _ _ _ rfl) ?_))
        refine retCe (p := 6) (u := 7) rfl rfl w.heap.size rfl Z Z hZl hZl (heap_new _ _ _ rfl) _ rfl ⟨rfl, (Below.refl _ _).alloc (Nat.le_refl _) _⟩
  · have e0 : (f == 0) = false := by simp; omega
    have e1 : (f == 1) = false := by simp; omega
    have n0 : ¬ f = 0 := by omega
    have n1 : ¬ f = 1 := by omega
    clear h hf
    go_enter Tryd.func77, Tryd.ntmps77
    go_wp2_with (first
      | (refine wl_storeC rfl _ _ rfl w.heap.size Z Z rfl (by rw [← zeroC_eq]; rfl) _ (heap_new _ _ _ rfl) rfl hZl hZl _ (setRow_new _ _ _ _ _ rfl) ?_))
    refine retCe (p := 6) (u := 7) rfl rfl w.heap.size rfl Z Z hZl hZl (heap_new _ _ _ rfl) _ rfl ⟨rfl, (Below.refl _ _).alloc (Nat.le_refl _) _⟩

end Go.Proofs.YtnbklmmampdbfaaDoor
namespace Go.Proofs.YtnbklmmampdbfaaDoor
open Go Go.RowKit
set_option maxRecDepth 20000

theorem part_p0 (n b : Int) (w : World) : (part 3 (pv n b) 0).run Tryd.prog w = .ok (.int .i64 n) w := by
  have ha : ∀ w, (isAgg 3).run Tryd.prog w = .ok false w := fun w => by kernel_rfl
  simp [part, ha, Sem.run_bind]
theorem part_p1 (n b : Int) (w : World) : (part 3 (pv n b) 1).run Tryd.prog w = .ok (.int .i64 b) w := by
  have ha : ∀ w, (isAgg 3).run Tryd.prog w = .ok false w := fun w => by kernel_rfl
  simp [part, ha, Sem.run_bind]
theorem eqP (n b : Int) (w : World) : (Op.equalIn 10000 137 (.agg (pv n b)) (.agg (pv n b))).run Tryd.prog w = .ok true w := by
  have e : ∀ a : Int, ∀ w, (Op.equalIn 9999 3 (.int .i64 a) (.int .i64 a)).run Tryd.prog w = .ok true w := fun a w => by
    have := run_equalIn_int (P := Tryd.prog) w 9998 3 .i64 .i64 a a Tryd.underlying3
    simpa using this
  rw [show (10000 : Nat) = 9999 + 1 from rfl, run_equalIn_struct w 9999 137 _ _ (by kernel_rfl) (by kernel_rfl)]
  rw [show (Tryd.prog.fieldsOf 137).toList = [{ name := "Value", type := 3, offset := 0, embedded := false, tag := "", pkgPath := "", byteOffset := 0 }, { name := "Bits", type := 3, offset := 1, embedded := false, tag := "", pkgPath := "", byteOffset := 8 }] from by kernel_rfl]
  simp only [Op.eqFields, ne_eq, String.reduceEq, not_false_eq_true, if_true, Sem.run_bind, part_p0, Result.andThen_ok, e]
  simp [part_p1, e]
theorem egP (op : BinOp) (x y : Operand) (xs ys : Array Value) (w : World) : (eqGuard op 137 x y (.agg xs) (.agg ys)).run Tryd.prog w = .ok () w :=
  run_eqGuard_agg w op 137 x y xs ys (by kernel_rfl)

theorem ran_16 : ran 1 6 = [(1, 16), (2, 15), (4, 15), (6, 16)] := by
  rw [ran, show isR 1 6 = true by decide, if_pos rfl]
  exact rng_16
theorem ranE_16 : ranE 1 6 = 0 := by decide

end Go.Proofs.YtnbklmmampdbfaaDoor
