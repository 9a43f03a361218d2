import Derived.Test.YtplnlmkmaapbaaaDoorJ5
import Derived.Test.YtplnlmkmaapbaaaDoorJ1
import Derived.Laws.AppendOwnNone
namespace Go.Proofs.YtplnlmkmaapbaaaDoor
open Go Go.RowKit

/-- Has one of these cubes a header? -/
def hasL (C : List (List Int × List Int)) (H : List Int) : Bool := C.any fun c => has c.1 c.2 H

/-- A slice, wherever it lies, whose elements are these cubes. -/
def Sl (w : World) (v : Value) (C : List (List Int × List Int)) : Prop :=
  Byts C ∧ ∃ (o : Option Addr) (cap : Nat), v = .slice o C.length cap ∧ C.length ≤ cap ∧ cap ≤ maxLen ∧ ∀ (i : Nat) (hi : i < C.length), ∃ g off cur t fr, o = some ⟨g, off, none⟩ ∧ w.heap[g]? = some (.cells cur t fr) ∧ ∀ j, j < 26 → cur[off + i * 26 + j]? = (cv C[i].1 C[i].2)[j]?

theorem Sl.byts {w : World} {v : Value} {C : List (List Int × List Int)} (h : Sl w v C) : Byts C := h.1
theorem Sl.below {w w' : World} {v : Value} {C : List (List Int × List Int)} (h : Sl w v C) (hb : Below w.heap.size w w') : Sl w' v C := by
  obtain ⟨h0, o, cap, rfl, h1, h2, h3⟩ := h
  refine ⟨h0, o, cap, rfl, h1, h2, fun i hi => ?_⟩
  obtain ⟨g, off, cur, t, fr, h4, h5, h6⟩ := h3 i hi
  exact ⟨g, off, cur, t, fr, h4, (hb.block g (Array.getElem?_eq_some_iff.1 h5).1).trans h5, h6⟩
/-- The same, but that blocks from a place on may have turned. -/
theorem Sl.belowAt {w w' : World} {v : Value} {C : List (List Int × List Int)} {B : Nat} (h : Sl w v C) (hw : w.heap.size ≤ B) (hb : Below B w w') : Sl w' v C := h.below (hb.mono hw)
theorem Sl.slice {w : World} {v : Value} {C : List (List Int × List Int)} (h : Sl w v C) : ∃ (o : Option Addr) (cap : Nat), v = .slice o C.length cap ∧ C.length ≤ cap ∧ cap ≤ maxLen := by
  obtain ⟨_, o, cap, h1, h2, h3, _⟩ := h
  exact ⟨o, cap, h1, h2, h3⟩
/-- One element. -/
theorem Sl.at {w : World} {o : Option Addr} {n cap : Nat} {C : List (List Int × List Int)} (h : Sl w (.slice o n cap) C) (k : Nat) (hk : k < n) :
    ∃ g off cur t fr U N, o = some ⟨g, off, none⟩ ∧ w.heap[g]? = some (.cells cur t fr) ∧ (∀ j, j < 26 → cur[off + k * 26 + j]? = (cv U N)[j]?) ∧ C[k]? = some (U, N) ∧ Byt U ∧ Byt N := by
  obtain ⟨h0, o', cap', h1, _, _, h3⟩ := h
  simp only [Value.slice.injEq] at h1
  obtain ⟨rfl, rfl, rfl⟩ := h1
  obtain ⟨g, off, cur, t, fr, h4, h5, h6⟩ := h3 k hk
  exact ⟨g, off, cur, t, fr, C[k].1, C[k].2, h4, h5, h6, List.getElem?_eq_getElem hk, (h0 _ (List.getElem_mem _)).1, (h0 _ (List.getElem_mem _)).2⟩
theorem Sl.len {w : World} {o : Option Addr} {n cap : Nat} {C : List (List Int × List Int)} (h : Sl w (.slice o n cap) C) : n = C.length ∧ n ≤ cap ∧ cap ≤ maxLen := by
  obtain ⟨h0, o', cap', h1, h2, h3, _⟩ := h
  simp only [Value.slice.injEq] at h1
  obtain ⟨rfl, rfl, rfl⟩ := h1
  exact ⟨rfl, h2, h3⟩
/-- The first ones of a slice. -/
theorem Sl.take {w : World} {o : Option Addr} {n cap : Nat} {C : List (List Int × List Int)} (h : Sl w (.slice o n cap) C) (k : Nat) (hk : k ≤ n) : Sl w (.slice o k cap) (C.take k) := by
  obtain ⟨h0, o', cap', h1, h2, h3, h4⟩ := h
  simp only [Value.slice.injEq] at h1
  obtain ⟨rfl, rfl, rfl⟩ := h1
  have e : (C.take k).length = k := by rw [List.length_take]; omega
  refine ⟨fun c hc => h0 c (List.mem_of_mem_take hc), o, cap, by rw [e], by omega, h3, fun i hi => ?_⟩
  obtain ⟨g, off, cur, t, fr, h5, h6, h7⟩ := h4 i (by omega)
  exact ⟨g, off, cur, t, fr, h5, h6, fun j hj => by rw [h7 j hj, List.getElem_take]⟩
theorem sl_of {w : World} {B : Nat} {v : Value} {C : List (List Int × List Int)} (h : w.ownsRow B 37 26 v C.length (ccells C)) (hC : Byts C) : Sl w v C := by
  refine ⟨hC, ?_⟩
  obtain ⟨h1, ⟨rfl, h2⟩ | ⟨g, cap, cur, rfl, hB, hcur, h5, h6, _, h4⟩⟩ := h
  · exact ⟨none, 0, by rw [h2], by omega, Nat.zero_le _, fun i hi => by omega⟩
  · refine ⟨_, cap, rfl, h5, h6, fun i hi => ⟨g, 0, cur, _, _, rfl, hcur, fun j hj => ?_⟩⟩
    rw [← ccells_at C hC i hi j hj, ← h4, List.getElem?_take_of_lt (by omega), Nat.zero_add, Nat.mul_comm]
    simp

theorem qlSl {W : World} {ops : Array Oper} {Q : Act → Prop} {rest : List Oper} {o : Oper} {a : Act} (hw : Region.wanted o (yielded ops a.tmps) = true) (x : Operand) (ho : o.op = .load 37 x)
    (g off : Nat) (hx : a.eval x = .pointer (some ⟨g, off, none⟩)) (cs : Array Value) (t : TypeId) (fr : Nat × Nat) (V M : List Int) (hV : V.length = 13) (hM : M.length = 13) (hg : W.heap[g]? = some (.cells cs t fr)) (hc : ∀ j, j < 26 → cs[off + j]? = (cv V M)[j]?)
    (h : wpQuiet Tryd.prog ops (fun w' => ∃ u : Later W, w' = u.world) Q rest (a.put o.dst (.agg (cv V M)))) : wpQuiet Tryd.prog ops (fun w' => ∃ u : Later W, w' = u.world) Q (o :: rest) a := by
  refine BigFrame.wpQuiet_want hw fun K hK => ⟨.agg (cv V M), fun w hC => ?_, hK _ h⟩
  unfold Oper.quietAt execOp
  simp only [ho, hx, Instr.loadAt, Instr.sureAddr, Sem.run_bind, Sem.run_pure, Result.andThen_ok, load_cube w g off cs t fr V M hV hM (later_block hg w hC) hc]
  exact ⟨rfl, rfl⟩

theorem hasL_at {C : List (List Int × List Int)} {H U N : List Int} {k : Nat} (hk : C[k]? = some (U, N)) (h : has U N H = true) : hasL C H = true := by
  unfold hasL
  rw [List.any_eq_true]
  exact ⟨(U, N), List.mem_of_getElem? hk, h⟩
theorem hasL_take {C : List (List Int × List Int)} {H U N : List Int} {k : Nat} (hk : C[k]? = some (U, N)) (h : has U N H = false) (hp : hasL (C.take k) H = false) : hasL (C.take (k + 1)) H = false := by
  unfold hasL at *
  rw [List.take_add_one, hk, List.any_append, hp]
  simp [h]
end Go.Proofs.YtplnlmkmaapbaaaDoor
namespace Go.Proofs.YtplnlmkmaapbaaaDoor
open Go Go.RowKit

/-- How many numbers a piece of so many bits has. -/
def sz (b : Nat) : Nat := 2 ^ (16 - b)
theorem sz_pos (b : Nat) : 0 < sz b := Nat.pow_pos (by decide)
theorem sz_le (b : Nat) : sz b ≤ 65536 := by
  unfold sz
  exact Nat.le_trans (Nat.pow_le_pow_right (by decide) (Nat.sub_le 16 b)) (by decide)
theorem sz_half (b : Nat) (h : b < 16) : sz b = 2 * sz (b + 1) := by
  unfold sz
  rw [show 16 - b = (16 - (b + 1)) + 1 by omega, Nat.pow_succ]; omega
theorem sz_16 : sz 16 = 1 := rfl
theorem sz_0 : sz 0 = 65536 := rfl

/-- A piece of so many bits begins at n and has no number beyond h. -/
def okP (n h b : Nat) : Bool := n % sz b == 0 && decide (n + sz b ≤ h + 1)
theorem okP_iff (n h b : Nat) : okP n h b = true ↔ n % sz b = 0 ∧ n + sz b ≤ h + 1 := by simp [okP]
theorem okP_16 (n h : Nat) (hn : n ≤ h) : okP n h 16 = true := by rw [okP_iff, sz_16]; omega

/-- The fewest bits. -/
def gr (n h : Nat) : Nat := ((List.range 17).find? (okP n h)).getD 16
def IsGr (n h b : Nat) : Prop := b ≤ 16 ∧ okP n h b = true ∧ ∀ c, c < b → okP n h c = false
theorem IsGr.eq {n h b c : Nat} (h1 : IsGr n h b) (h2 : IsGr n h c) : b = c := by
  rcases Nat.lt_trichotomy b c with h3 | h3 | h3
  · exact absurd h1.2.1 (by rw [h2.2.2 b h3]; decide)
  · exact h3
  · exact absurd h2.2.1 (by rw [h1.2.2 c h3]; decide)
theorem gr_is (n h : Nat) (hn : n ≤ h) : IsGr n h (gr n h) := by
  unfold gr
  cases e : (List.range 17).find? (okP n h) with
  | none =>
    rw [List.find?_eq_none] at e
    exact absurd (okP_16 n h hn) (e 16 (by simp))
  | some b =>
    rw [List.find?_range_eq_some] at e
    obtain ⟨h1, h2, h3⟩ := e
    refine ⟨by simp at h2; simp; omega, h1, fun c hc => by simpa using h3 c hc⟩
theorem gr_eq {n h b : Nat} (hn : n ≤ h) (hb : IsGr n h b) : gr n h = b := (gr_is n h hn).eq hb

/-- The pieces from n on, up to h, so many at most. -/
def rngF (h : Nat) : Nat → Nat → List (Nat × Nat)
  | 0, _ => []
  | f + 1, n => if n ≤ h then (n, gr n h) :: rngF h f (n + sz (gr n h)) else []
/-- The pieces from n on, up to h. -/
def rng (h n : Nat) : List (Nat × Nat) := rngF h (h + 1 - n) n
theorem rngF_more (h : Nat) : ∀ f g n, h + 1 - n ≤ f → h + 1 - n ≤ g → rngF h f n = rngF h g n
  | 0, 0, _, _, _ => rfl
  | 0, g + 1, n, hf, _ => by rw [rngF, rngF, if_neg (by omega)]
  | f + 1, 0, n, _, hg => by rw [rngF, rngF, if_neg (by omega)]
  | f + 1, g + 1, n, hf, hg => by
    rw [rngF, rngF]
    by_cases hn : n ≤ h
    · have := sz_pos (gr n h)
      rw [if_pos hn, if_pos hn, rngF_more h f g (n + sz (gr n h)) (by omega) (by omega)]
    · rw [if_neg hn, if_neg hn]
theorem rng_cons {h n : Nat} (hn : n ≤ h) : rng h n = (n, gr n h) :: rng h (n + sz (gr n h)) := by
  have := sz_pos (gr n h)
  unfold rng
  rw [show h + 1 - n = (h - n) + 1 by omega, rngF, if_pos hn, rngF_more h (h - n) (h + 1 - (n + sz (gr n h))) (n + sz (gr n h)) (by omega) (by omega)]
theorem rng_nil {h n : Nat} (hn : h < n) : rng h n = [] := by
  unfold rng
  rw [show h + 1 - n = 0 by omega, rngF]
theorem rng_next {h n : Nat} (hn : n ≤ h) : n < n + sz (gr n h) ∧ n + sz (gr n h) ≤ h + 1 := by
  have := sz_pos (gr n h)
  have := ((okP_iff _ _ _).1 (gr_is n h hn).2.1).2
  omega

theorem rng_induct (h : Nat) (P : Nat → Prop) (h0 : ∀ n, h < n → P n) (h1 : ∀ n, n ≤ h → P (n + sz (gr n h)) → P n) : ∀ n, P n := by
  have key : ∀ d n, h + 1 - n ≤ d → P n := by
    intro d
    induction d with
    | zero => intro n hn; exact h0 n (by omega)
    | succ d ih =>
      intro n hn
      by_cases hl : n ≤ h
      · exact h1 n hl (ih _ (by have := rng_next hl; omega))
      · exact h0 n (by omega)
  exact fun n => key _ n (Nat.le_refl _)

theorem rng_mem (h : Nat) (n : Nat) : ∀ p ∈ rng h n, n ≤ p.1 ∧ p.1 ≤ h ∧ p.2 = gr p.1 h := by
  refine rng_induct h (fun n => ∀ p ∈ rng h n, n ≤ p.1 ∧ p.1 ≤ h ∧ p.2 = gr p.1 h) (fun n hn => by rw [rng_nil hn]; simp) (fun n hn ih => ?_) n
  rw [rng_cons hn]
  intro p hp
  rcases List.mem_cons.1 hp with rfl | hp
  · exact ⟨Nat.le_refl _, hn, rfl⟩
  · have := ih p hp
    have := rng_next hn
    omega
theorem rng_bits {h n : Nat} {p : Nat × Nat} (hp : p ∈ rng h n) : p.2 ≤ 16 := by
  obtain ⟨_, h2, h3⟩ := rng_mem h n p hp
  rw [h3]; exact (gr_is _ _ h2).1

/-- Has a piece a number? -/
def inP (p : Nat × Nat) (x : Nat) : Bool := decide (p.1 ≤ x) && decide (x < p.1 + sz p.2)
theorem cnt_rng (h x : Nat) : ∀ n, ((rng h n).filter fun p => inP p x).length = if n ≤ x ∧ x ≤ h then 1 else 0 := by
  refine rng_induct h _ (fun n hn => ?_) (fun n hn ih => ?_)
  · rw [rng_nil hn, if_neg (by omega)]; rfl
  · have hx := rng_next hn
    rw [rng_cons hn, List.filter_cons]
    by_cases c : n ≤ x ∧ x < n + sz (gr n h)
    · rw [if_pos (by simp [inP, c]), List.length_cons, ih, if_neg (by omega), if_pos (by omega)]
    · rw [if_neg (by simp only [inP, Bool.and_eq_true, decide_eq_true_eq]; exact c), ih]
      by_cases d : n + sz (gr n h) ≤ x ∧ x ≤ h
      · rw [if_pos d, if_pos (by omega)]
      · rw [if_neg d, if_neg (by omega)]

/-- Neighbours rise, and are no two halves of one piece. -/
theorem rng_near (h : Nat) : ∀ n, ∀ k a b, (rng h n)[k]? = some a → (rng h n)[k + 1]? = some b → b.1 = a.1 + sz a.2 ∧ ¬ (a.2 = b.2 ∧ 0 < a.2 ∧ a.1 / sz a.2 % 2 = 0) := by
  refine rng_induct h _ (fun n hn => ?_) (fun n hn ih => ?_)
  · rw [rng_nil hn]; intro k a b ha; simp at ha
  · intro k a b ha hb
    rw [rng_cons hn] at ha hb
    cases k with
    | succ k => exact ih k a b (by simpa using ha) (by simpa using hb)
    | zero =>
      obtain rfl : a = (n, gr n h) := by simpa using ha.symm
      rw [List.getElem?_cons_succ] at hb
      by_cases hl : n + sz (gr n h) ≤ h
      · rw [rng_cons hl] at hb
        obtain rfl : b = (n + sz (gr n h), gr (n + sz (gr n h)) h) := by simpa using hb.symm
        refine ⟨rfl, ?_⟩
        rintro ⟨e1, e2, e3⟩
        have g1 := gr_is n h hn
        have g2 := ((okP_iff _ _ _).1 (gr_is _ h hl).2.1).2
        have g0 := ((okP_iff _ _ _).1 g1.2.1).1
        simp only at e1 e2 e3
        rw [← e1] at g2
        have no := g1.2.2 (gr n h - 1) (by omega)
        have hs : sz (gr n h - 1) = 2 * sz (gr n h) := by
          have := sz_half (gr n h - 1) (by have := g1.1; omega)
          rwa [show gr n h - 1 + 1 = gr n h by omega] at this
        have yes : okP n h (gr n h - 1) = true := by
          rw [okP_iff, hs]
          refine ⟨?_, by omega⟩
          have h1 := Nat.div_add_mod n (sz (gr n h))
          rw [g0] at h1
          have h2 : n / sz (gr n h) = 2 * (n / sz (gr n h) / 2) := by omega
          have h3 : n = 2 * sz (gr n h) * (n / sz (gr n h) / 2) := by
            rw [Nat.mul_comm 2 (sz _), Nat.mul_assoc, ← h2]; omega
          exact Nat.mod_eq_zero_of_dvd ⟨_, h3⟩
        rw [yes] at no
        exact absurd no (by decide)
      · rw [rng_nil (by omega)] at hb; simp at hb

/-- The down-going half: so many pieces at most. -/
theorem rng_down (h : Nat) : ∀ k n, k ≤ 16 → n % 2 ^ k = 0 → h + 1 < n + 2 ^ k → (rng h n).length ≤ k
  | 0, n, _, _, hr => by rw [rng_nil (by simpa using hr)]; exact Nat.le_refl _
  | k + 1, n, hk, hd, hr => by
    have e1 : 2 ^ (k + 1) = 2 * 2 ^ k := by rw [Nat.pow_succ]; omega
    have hdk : n % 2 ^ k = 0 := by
      rw [e1] at hd
      have := Nat.div_add_mod n (2 * 2 ^ k)
      rw [hd] at this
      rw [← this, Nat.add_zero, Nat.mul_comm 2, Nat.mul_assoc]
      exact Nat.mul_mod_right _ _
    by_cases hs : h + 1 < n + 2 ^ k
    · exact Nat.le_succ_of_le (rng_down h k n (by omega) hdk hs)
    · have hp : 0 < 2 ^ k := Nat.pow_pos (by decide)
      have hn : n ≤ h := by omega
      have hg : gr n h = 16 - k := by
        refine gr_eq hn ⟨by omega, ?_, fun c hc => ?_⟩
        · rw [okP_iff, sz, show 16 - (16 - k) = k by omega]; exact ⟨hdk, by omega⟩
        · cases e : okP n h c with
          | false => rfl
          | true =>
            have h2 := ((okP_iff _ _ _).1 e).2
            have : 2 ^ (k + 1) ≤ sz c := Nat.pow_le_pow_right (by decide) (by omega)
            omega
      have hz : sz (gr n h) = 2 ^ k := by rw [hg, sz, show 16 - (16 - k) = k by omega]
      rw [rng_cons hn, List.length_cons, hz]
      have := rng_down h k (n + 2 ^ k) (by omega) (by rw [Nat.add_mod_right]; exact hdk) (by omega)
      omega

/-- The up-going half. -/
theorem rng_up (h : Nat) (hh : h ≤ 65535) : ∀ d n, d ≤ 15 → 0 < n → n ≤ 65536 → n % 2 ^ (15 - d) = 0 → (rng h n).length ≤ 15 + d
  | 0, n, _, h0, h1, hd => by
    have hd' : n % 32768 = 0 := hd
    rcases (show n = 32768 ∨ n = 65536 by omega) with rfl | rfl
    · by_cases hr : h + 1 < 32768 + 32768
      · exact rng_down h 15 32768 (by decide) (by decide) hr
      · obtain rfl : h = 65535 := by omega
        have hg : gr 32768 65535 = 1 := by decide
        rw [rng_cons (by decide), hg, rng_nil (by decide)]
        decide
    · rw [rng_nil (by omega)]; exact Nat.zero_le _
  | d + 1, n, hd1, h0, h1, hd => by
    obtain ⟨j, hj⟩ : ∃ j, j = 15 - (d + 1) := ⟨_, rfl⟩
    have hj1 : 15 - d = j + 1 := by omega
    rw [← hj] at hd
    have e1 : 2 ^ (j + 1) = 2 * 2 ^ j := by rw [Nat.pow_succ]; omega
    have hp : 0 < 2 ^ j := Nat.pow_pos (by decide)
    by_cases he : n % 2 ^ (j + 1) = 0
    · exact Nat.le_succ_of_le (rng_up h hh d n (by omega) h0 h1 (by rw [hj1]; exact he))
    · by_cases hr : h + 1 < n + 2 ^ j
      · have := rng_down h j n (by omega) hd hr
        omega
      · have hn : n ≤ h := by omega
        have hg : gr n h = 16 - j := by
          refine gr_eq hn ⟨by omega, ?_, fun c hc => ?_⟩
          · rw [okP_iff, sz, show 16 - (16 - j) = j by omega]; exact ⟨hd, by omega⟩
          · cases e : okP n h c with
            | false => rfl
            | true =>
              have h2 := ((okP_iff _ _ _).1 e).1
              refine absurd ?_ he
              have : 2 ^ (j + 1) ∣ sz c := Nat.pow_dvd_pow 2 (by omega)
              exact Nat.mod_eq_zero_of_dvd (Nat.dvd_trans this (Nat.dvd_of_mod_eq_zero h2))
        have hz : sz (gr n h) = 2 ^ j := by rw [hg, sz, show 16 - (16 - j) = j by omega]
        rw [rng_cons hn, List.length_cons, hz]
        have hm : (n + 2 ^ j) % 2 ^ (j + 1) = 0 := by
          rw [e1] at he ⊢
          have h2 := Nat.div_add_mod n (2 ^ j)
          rw [hd] at h2
          have h3 : ¬ (n / 2 ^ j) % 2 = 0 := fun h4 => he (by
            have h5 : n / 2 ^ j = 2 * (n / 2 ^ j / 2) := by omega
            have h6 : n = 2 * 2 ^ j * (n / 2 ^ j / 2) := by
              rw [Nat.mul_comm 2 (2 ^ j), Nat.mul_assoc, ← h5]; omega
            rw [h6]; exact Nat.mul_mod_right _ _)
          have h5 : n / 2 ^ j + 1 = 2 * ((n / 2 ^ j + 1) / 2) := by omega
          have h6 : n + 2 ^ j = 2 * 2 ^ j * ((n / 2 ^ j + 1) / 2) := by
            rw [Nat.mul_comm 2 (2 ^ j), Nat.mul_assoc, ← h5, Nat.mul_add]; omega
          rw [h6]; exact Nat.mul_mod_right _ _
        have := rng_up h hh d (n + 2 ^ j) (by omega) (by omega) (by omega) (by rw [hj1]; exact hm)
        omega

theorem rng_few (h n : Nat) (hh : h ≤ 65535) (hn : n ≤ 65536) : (rng h n).length ≤ 30 := by
  by_cases h0 : n = 0
  · subst h0
    by_cases hr : h + 1 < 0 + 2 ^ 16
    · have := rng_down h 16 0 (by decide) (by decide) hr
      omega
    · obtain rfl : h = 65535 := by omega
      have hg : gr 0 65535 = 0 := by decide
      rw [rng_cons (by decide), hg, rng_nil (by decide)]
      decide
  · exact rng_up h hh 15 n (by decide) (by omega) hn (by rw [show 15 - 15 = 0 from rfl, Nat.pow_zero]; exact Nat.mod_one n)

theorem rng_16 : rng 6 1 = [(1, 16), (2, 15), (4, 15), (6, 16)] := by
  rw [rng_cons (by decide), show gr 1 6 = 16 by decide, show 1 + sz 16 = 2 by decide, rng_cons (by decide), show gr 2 6 = 15 by decide, show 2 + sz 15 = 4 by decide, rng_cons (by decide), show gr 4 6 = 15 by decide, show 4 + sz 15 = 6 by decide, rng_cons (by decide), show gr 6 6 = 16 by decide, show 6 + sz 16 = 7 by decide, rng_nil (by decide)]
end Go.Proofs.YtplnlmkmaapbaaaDoor
namespace Go.Proofs.YtplnlmkmaapbaaaDoor
open Go Go.RowKit

/-- The cells of a piece. -/
abbrev pv (n b : Int) : Array Value := #[.int .i64 n, .int .i64 b]

set_option maxHeartbeats 1000000 in
theorem size_any (n : Int) (b : Nat) (hb : b ≤ 16) (w : World) :
    Calls Tryd.prog 30 #[.agg (pv n (b : Int))] w fun e w' => e = .returned (.int .i64 ((sz b : Nat) : Int)) ∧ Below w.heap.size w w' := by
  have h : b = 0 ∨ b = 1 ∨ b = 2 ∨ b = 3 ∨ b = 4 ∨ b = 5 ∨ b = 6 ∨ b = 7 ∨ b = 8 ∨ b = 9 ∨ b = 10 ∨ b = 11 ∨ b = 12 ∨ b = 13 ∨ b = 14 ∨ b = 15 ∨ b = 16 := by omega
  clear hb
  rcases h with h | h | h | h | h | h | h | h | h | h | h | h | h | h | h | h | h
  all_goals
    subst h
    go_enter Tryd.func30, Tryd.ntmps30
    go_wp2
    go_ret
    exact ⟨rfl, (Below.refl _ _).alloc (Nat.le_refl _) _⟩

theorem infoP : ∃ i, Tryd.prog.info? 50 = some i ∧ i.zero = some (.agg (pv 0 0)) ∧ i.size = 2 ∧ i.bytes = 16 := by
  cases h : Tryd.prog.info? 50 with
  | none => exact absurd (show (Tryd.prog.info? 50).isSome = true by kernel_rfl) (by rw [h]; simp)
  | some i =>
    have h1 : (Tryd.prog.info? 50).map (fun i => (i.zero, i.size, i.bytes)) = some (some (.agg (pv 0 0)), 2, 16) := by kernel_rfl
    rw [h] at h1
    simp only [Option.map_some, Option.some.injEq, Prod.mk.injEq] at h1
    exact ⟨i, rfl, h1.1, h1.2.1, h1.2.2⟩
theorem sizeP (n b : Int) : (Tryd.prog.info? 50).map (·.size) = some (pv n b).size := by kernel_rfl
theorem oneP (n b : Int) : (pv n b).all (·.oneCell') = true := by simp [pv, Value.oneCell']

/-- A piece that lies within a block, from a place on. -/
theorem load_piece (w : World) (g off : Nat) (cs : Array Value) (t : TypeId) (fr : Nat × Nat) (n b : Int) (hg : w.heap[g]? = some (.cells cs t fr)) (hc : ∀ j, j < 2 → cs[off + j]? = (pv n b)[j]?) :
    (loadVar 50 ⟨g, off, none⟩).run Tryd.prog w = .ok (.agg (pv n b)) w := by
  have hl : (loadCells ⟨g, off, none⟩ (pv n b).toList.length).run Tryd.prog w = .ok (pv n b).toList.toArray w :=
    run_loadCells_list (P := Tryd.prog) w ⟨g, off, none⟩ (pv n b).toList (fun j v hv => by
      have hadd : (⟨g, off, none⟩ : Addr).add j = ⟨g, off + j, none⟩ := by unfold Addr.add; split <;> simp_all
      have hj : j < 2 := by
        have := (List.getElem?_eq_some_iff.1 hv).1
        simpa using this
      rw [hadd, cell_of_row w g (off + j) cs t fr hg, hc j hj]
      simpa using hv)
  obtain ⟨i, hq, _, hs, _⟩ := infoP
  have hagg : (isAgg 50).run Tryd.prog w = .ok true w := by
    unfold isAgg
    rw [Sem.run_bind, run_underlying Tryd.underlying50 w]
    rfl
  rw [Array.length_toList, Array.toArray_toList] at hl
  have hl' : (loadCells ⟨g, off, none⟩ 2).run Tryd.prog w = .ok (pv n b) w := hl
  simp [loadVar, Sem.run_bind, hagg, sizeOf, typeInfo, hq, hs, hl']
theorem wl_loadP {ops : Array Oper} {rest : List Oper} {o : Oper} {a : Act} {w : World} {Q : Exit → Act → World → Prop} (hw : Region.wanted o (yielded ops a.tmps) = true) (x : Operand) (ho : o.op = .load 50 x)
    (g off : Nat) (hx : a.eval x = .pointer (some ⟨g, off, none⟩)) (cs : Array Value) (t : TypeId) (fr : Nat × Nat) (n b : Int) (hg : w.heap[g]? = some (.cells cs t fr)) (hc : ∀ j, j < 2 → cs[off + j]? = (pv n b)[j]?)
    (h : wpList Tryd.prog ops Q rest (a.put o.dst (.agg (pv n b))) w) : wpList Tryd.prog ops Q (o :: rest) a w := by
  refine wpList_step fun K hK => ?_
  rw [if_pos hw]
  unfold Oper.wp execOp
  simp only [ho, hx, Instr.loadAt, Instr.sureAddr, Sem.run_bind, Sem.run_pure, Result.andThen_ok, load_piece w g off cs t fr n b hg hc]
  exact hK _ _ h
theorem own_piece (n b : Int) : ∀ j, j < 2 → (pv n b)[0 + j]? = (pv n b)[j]? := fun j _ => by rw [Nat.zero_add]
/-- A whole piece is stored into a block that holds one. -/
theorem wl_storeP {ops : Array Oper} {rest : List Oper} {o : Oper} {a : Act} {w : World} {Q : Exit → Act → World → Prop} (hgd : o.guard = none) (x y : Operand) (ho : o.op = .store 50 x y)
    (g : Nat) (n b : Int) (hx : a.eval x = .pointer (some ⟨g, 0, none⟩)) (hy : a.eval y = .agg (pv n b)) (n0 b0 : Int) (hg : w.heap[g]? = some (.cells (pv n0 b0) 50 (0, 0)))
    (w' : World) (hw' : w.setRow g (pv n b) = w')
    (h : wpList Tryd.prog ops Q rest (a.put o.dst undef) w') : wpList Tryd.prog ops Q (o :: rest) a w :=
  wpList_store_row hgd 50 x y ho g (pv n b) hx hy 50 (pv n0 b0) hg (sizeP n b) rfl (oneP n b) (by rw [hw']; exact h)
/-- The end of a function whose one result is a piece in memory. -/
theorem retP {fn : Func} {R : Ending → World → Prop} {a : Act} {w : World} {p : Tmp} (hr : fn.results = #[.cell p 50]) (hd : a.defers = []) (g : Nat) (hp : a.tmps.getD p undef = .pointer (some ⟨g, 0, none⟩)) (n b : Int)
    (hg : w.heap[g]? = some (.cells (pv n b) 50 (0, 0))) (h : R (.returned (.agg (pv n b))) w) : bodyPost Tryd.prog fn R .ret a w :=
  bodyPost_ret (v := .agg (pv n b)) (results_cell_row hr _ _ g 50 (pv n b) (0, 0) _ hp hg Tryd.underlying50 rfl (sizeP n b)) hd h

theorem setCell_row {w : World} {g k : Nat} {cs : Array Value} {t : TypeId} {fr : Nat × Nat} (h : w.heap[g]? = some (.cells cs t fr)) (v : Value) : (w.setCell ⟨g, k, none⟩ v).heap[g]? = some (.cells (cs.setIfInBounds k v) t fr) := by
  simp [World.setCell, Array.getElem?_modify, h]
theorem setCell_far {w : World} {g g' k : Nat} (h : g ≠ g') (v : Value) : (w.setCell ⟨g, k, none⟩ v).heap[g']? = w.heap[g']? := by
  simp [World.setCell, Array.getElem?_modify, h]
theorem below_setCell {B : Nat} {a w : World} (h : Below B a w) {g : Nat} (hg : B ≤ g) (k : Nat) (v : Value) : Below B a (w.setCell ⟨g, k, none⟩ v) :=
  ⟨h.os, h.tape, h.output, by simpa [World.setCell] using h.size, fun j hj => (setCell_far (by omega) v).trans (h.block j hj)⟩
theorem frozen_row {w : World} {g k : Nat} {cs : Array Value} {t : TypeId} {fr : Nat × Nat} (h : w.heap[g]? = some (.cells cs t fr)) (hf : fr = (0, 0)) : w.frozen? ⟨g, k, none⟩ = false := by
  subst hf
  simp [World.frozen?, h]

/-- A piece's bits, as they lie in memory. -/
def bitsAt (w : World) (g : Nat) : Nat := match w.heap[g]? with
  | some (.cells cs _ _) => (intOf (cs.getD 1 undef)).toNat
  | _ => 0
theorem bitsAt_eq {w : World} {g : Nat} {n : Int} {b : Nat} {t : TypeId} {fr : Nat × Nat} (h : w.heap[g]? = some (.cells (pv n (b : Int)) t fr)) : bitsAt w g = b := by
  unfold bitsAt
  rw [h]
  simp [intOf]

theorem next_no {n h b : Nat} (h1 : ∀ c, c < b → okP n h c = false) (h2 : ¬ n % sz b = 0 ∨ h + 1 < n + sz b) : ∀ c, c < b + 1 → okP n h c = false := fun c hc => by
  rcases Nat.lt_or_ge c b with hl | hl
  · exact h1 c hl
  · obtain rfl : c = b := by omega
    cases e : okP n h c with
    | false => rfl
    | true =>
      have := (okP_iff _ _ _).1 e
      omega

set_option maxHeartbeats 1000000 in
theorem greatest_any (n h : Nat) (hn : n ≤ h) (hh : h ≤ 65535) (w : World) :
    Calls Tryd.prog 29 #[.int .i64 (n : Int), .int .i64 (h : Int)] w fun e w' => e = .returned (.agg (pv (n : Int) ((gr n h : Nat) : Int))) ∧ Below w.heap.size w w' := by
  have SZ : Hid (∀ b : Nat, b ≤ 16 → ∀ W, Calls Tryd.prog 30 #[.agg (pv (n : Int) (b : Int))] W fun e w' => e = .returned (.int .i64 ((sz b : Nat) : Int)) ∧ Below W.heap.size W w') := fun b hb W => size_any (n : Int) b hb W
  go_enter Tryd.func29, Tryd.ntmps29
  go_wp2
  go_loopw [] (fun wr => ∃ b : Nat, b ≤ 16 ∧ (∀ c, c < b → okP n h c = false) ∧ wr.heap[w.heap.size]? = some (.cells (pv 0 0) 50 (0, 0)) ∧ wr.heap[w.heap.size + 1]? = some (.cells (pv (n : Int) (b : Int)) 50 (0, 0)) ∧ Below w.heap.size w wr) (fun wr => 16 - bitsAt wr (w.heap.size + 1))
  case atStart => exact ⟨0, Nat.zero_le _, fun c hc => by omega, heap_past _ _ _ _ (heap_new _ _ _ rfl), heap_new _ _ _ (by simp), ((Below.refl _ _).alloc (Nat.le_refl _) _).alloc (by simp) _⟩
  case round =>
    obtain ⟨b, hb, hno, g0, g1, hbw⟩ := hrel
    have D : Hid (∀ W, Calls Tryd.prog 30 #[.agg (pv (n : Int) (b : Int))] W fun e w' => e = .returned (.int .i64 ((sz b : Nat) : Int)) ∧ Below W.heap.size W w') := SZ.out b hb
    have HNO : Hid (∀ c, c < b → okP n h c = false) := hno
    have hs0 := sz_pos b
    have hs1 := sz_le b
    obtain ⟨s, hs⟩ : ∃ s, s = sz b := ⟨_, rfl⟩
    rw [← hs] at D hs0 hs1
    have HS : Hid (s = sz b) := hs
    clear hno hs
    have c0 : wr.cell? ⟨w.heap.size + 1, 0, none⟩ = some (.int .i64 (n : Int)) := by rw [cell_of_row _ _ _ _ _ _ g1]; rfl
    have c1 : wr.cell? ⟨w.heap.size + 1, 1, none⟩ = some (.int .i64 (b : Int)) := by rw [cell_of_row _ _ _ _ _ _ g1]; rfl
    go_wp2_with fail
    refine (D.out _).mono ?_
    rintro e w1 ⟨rfl, hb1⟩
    have k1 : w1.heap[w.heap.size + 1]? = some (.cells (pv (n : Int) (b : Int)) 50 (0, 0)) := by rw [hb1.block _ (Array.getElem?_eq_some_iff.1 g1).1]; exact g1
    have k0 : w1.heap[w.heap.size]? = some (.cells (pv 0 0) 50 (0, 0)) := by rw [hb1.block _ (Array.getElem?_eq_some_iff.1 g0).1]; exact g0
    have c2 : w1.cell? ⟨w.heap.size + 1, 0, none⟩ = some (.int .i64 (n : Int)) := by rw [cell_of_row _ _ _ _ _ _ k1]; rfl
    have c3 : w1.cell? ⟨w.heap.size + 1, 1, none⟩ = some (.int .i64 (b : Int)) := by rw [cell_of_row _ _ _ _ _ _ k1]; rfl
    have B1 := hbw.trans (hb1.mono hbw.size)
    clear c0 c1 hb1 hbw
    by_cases hm : (n : Int) % (s : Int) = 0
    · go_wp2_with fail
      refine (D.out _).mono ?_
      rintro e w2 ⟨rfl, hb2⟩
      have k3 : w2.heap[w.heap.size + 1]? = some (.cells (pv (n : Int) (b : Int)) 50 (0, 0)) := by rw [hb2.block _ (Array.getElem?_eq_some_iff.1 k1).1]; exact k1
      have k2 : w2.heap[w.heap.size]? = some (.cells (pv 0 0) 50 (0, 0)) := by rw [hb2.block _ (Array.getElem?_eq_some_iff.1 k0).1]; exact k0
      have c4 : w2.cell? ⟨w.heap.size + 1, 0, none⟩ = some (.int .i64 (n : Int)) := by rw [cell_of_row _ _ _ _ _ _ k3]; rfl
      have c5 : w2.cell? ⟨w.heap.size + 1, 1, none⟩ = some (.int .i64 (b : Int)) := by rw [cell_of_row _ _ _ _ _ _ k3]; rfl
      have B2 := B1.trans (hb2.mono B1.size)
      clear c2 c3 hb2 B1
      have f5 := frozen_row (k := 1) k3 rfl
      by_cases hf : (n : Int) + (s : Int) - 1 > (h : Int)
      · go_wp2_with fail
        refine ⟨⟨b + 1, ?_, ?_, (setCell_far (by omega) _).trans k2, setCell_row k3 _, below_setCell B2 (by omega) _ _⟩, ?_⟩
        · rcases Nat.lt_or_ge b 16 with h16 | h16
          · omega
          · obtain rfl : b = 16 := by omega
            have := HS.out
            rw [sz_16] at this
            omega
        · exact next_no HNO.out (by rw [← HS.out]; exact .inr (by omega))
        · rw [bitsAt_eq (n := (n : Int)) (b := b + 1) (setCell_row k3 _), bitsAt_eq g1]
          rcases Nat.lt_or_ge b 16 with h16 | h16
          · omega
          · obtain rfl : b = 16 := by omega
            have := HS.out
            rw [sz_16] at this
            omega
      · go_wp2_with (first
          | (refine wl_loadP rfl _ rfl (w.heap.size + 1) 0 rfl _ _ _ (n : Int) (b : Int) k3 (own_piece _ _) ?_)
          | (refine wl_storeP rfl _ _ rfl w.heap.size (n : Int) (b : Int) rfl rfl 0 0 k2 _ rfl ?_))
        refine retP (p := 4) rfl rfl w.heap.size rfl (n : Int) (b : Int) (setRow_heap _ _ _ _ _ _ k2) ⟨?_, below_setRow B2 (Nat.le_refl _) _⟩
        rw [gr_eq hn ⟨hb, (okP_iff _ _ _).2 ?_, HNO.out⟩]
        rw [← HS.out]
        exact ⟨by omega, by omega⟩
    · have f3 := frozen_row (k := 1) k1 rfl
      go_wp2_with fail
      refine ⟨⟨b + 1, ?_, ?_, (setCell_far (by omega) _).trans k0, setCell_row k1 _, below_setCell B1 (by omega) _ _⟩, ?_⟩
      · rcases Nat.lt_or_ge b 16 with h16 | h16
        · omega
        · obtain rfl : b = 16 := by omega
          have := HS.out
          rw [sz_16] at this
          subst this
          omega
      · exact next_no HNO.out (by rw [← HS.out]; exact .inl (by omega))
      · rw [bitsAt_eq (n := (n : Int)) (b := b + 1) (setCell_row k1 _), bitsAt_eq g1]
        rcases Nat.lt_or_ge b 16 with h16 | h16
        · omega
        · obtain rfl : b = 16 := by omega
          have := HS.out
          rw [sz_16] at this
          subst this
          omega
end Go.Proofs.YtplnlmkmaapbaaaDoor
namespace Go.Proofs.YtplnlmkmaapbaaaDoor
open Go Go.RowKit

theorem own_slice {w : World} {B : Nat} {e : TypeId} {s : Nat} {v : Value} {n : Nat} {xs : List Value} (h : w.ownsRow B e s v n xs) : ∃ o cap, v = .slice o n cap := by
  obtain ⟨_, ⟨rfl, rfl⟩ | ⟨g, cap, cur, rfl, _⟩⟩ := h
  · exact ⟨none, 0, rfl⟩
  · exact ⟨_, cap, rfl⟩
theorem ccells_len (C : List (List Int × List Int)) (hC : Byts C) : (ccells C).length = C.length * 26 := by
  induction C with
  | nil => rfl
  | cons c C ih =>
    have h1 := hC c (by simp)
    rw [show ccells (c :: C) = (cv c.1 c.2).toList ++ ccells C by simp [ccells], List.length_append, ih (fun d hd => hC d (by simp [hd])), Array.length_toList, cv_size _ _ h1.1.1 h1.2.1, List.length_cons]
    omega
theorem ccells_one' (C : List (List Int × List Int)) : ∀ u ∈ ccells C, u.oneCell' = true := fun u hu => by
  unfold ccells at hu
  rw [List.mem_flatMap] at hu
  obtain ⟨c, _, hc⟩ := hu
  exact (Array.all_eq_true_iff_forall_mem.1 (cv_one c.1 c.2)) u (by simpa using hc)

/-- Cubes of one's own row appended to another one's. -/
theorem wl_appendC {ops : Array Oper} {rest : List Oper} {o : Oper} {a : Act} {w : World} {Q : Exit → Act → World → Prop} (hgd : o.guard = none) (s x : Operand) (ho : o.op = .call { callee := .builtin .append, args := #[s, x], argTypes := #[25, 25] })
    (base base' : Nat) (v u : Value) (C D : List (List Int × List Int)) (hs : a.eval s = v) (hown : w.ownsRow base 37 26 v C.length (ccells C)) (hx : a.eval x = u) (hu : w.ownsRow base' 37 26 u D.length (ccells D)) (hD : Byts D)
    (hn : C.length + D.length ≤ 1000000) (hbase : base ≤ w.heap.size)
    (h : ∀ v' w', w'.ownsRow base 37 26 v' (C ++ D).length (ccells (C ++ D)) → w.grownBy w' v.ownBlock → wpList Tryd.prog ops Q rest (a.put o.dst v') w') : wpList Tryd.prog ops Q (o :: rest) a w := by
  obtain ⟨i0, hi, hz0, hz1, hz2⟩ := infoC
  have hu0 := hu
  obtain ⟨_, ⟨rfl, h0⟩ | ⟨g, cap, cur, rfl, hB, hcur, h1, h2, h3, h4⟩⟩ := hu
  · have hD0 : D = [] := List.eq_nil_of_length_eq_zero h0
    subst hD0
    refine wpList_append_own_none hgd s x 25 ho base 37 i0 26 Tryd.underlying25 hi v _ _ hs hown hx (h v w ?_ ?_)
    · rw [List.append_nil]; exact hown
    · exact ⟨rfl, rfl, rfl, Nat.le_refl _, fun k _ _ => rfl⟩
  · refine wpList_append_own w hgd s x 25 ho base 37 i0 (.agg zeroC) 26 26 Tryd.underlying25 hi hz0 hz1 hz2 rfl (by decide) v _ _ hs hown ⟨g, 0, none⟩ D.length cap (ccells D) hx (ccells_len D hD) (fun j y hy => ?_) (ccells_one' D) (by unfold maxLen; omega) (by omega) hbase ?_
    · have hj : j < D.length * 26 := by rw [← ccells_len D hD]; exact (List.getElem?_eq_some_iff.1 hy).1
      have hadd : (⟨g, 0, none⟩ : Addr).add j = ⟨g, j, none⟩ := by unfold Addr.add; split <;> simp_all
      rw [hadd, hu0.cellAt j hj]; exact hy
    · intro v' w' h5 h6 _
      refine h v' w' ?_ h6
      rw [List.length_append, ccells_append]; exact h5
end Go.Proofs.YtplnlmkmaapbaaaDoor
namespace Go.Proofs.YtplnlmkmaapbaaaDoor
open Go Go.RowKit

/-- The cells of a list of pieces. -/
def pcells (P : List (Nat × Nat)) : List Value := P.flatMap fun p => (pv (p.1 : Int) (p.2 : Int)).toList
theorem pcells_append (P Q : List (Nat × Nat)) : pcells (P ++ Q) = pcells P ++ pcells Q := by simp [pcells]
theorem pcells_one (p : Nat × Nat) : pcells [p] = (pv (p.1 : Int) (p.2 : Int)).toList := by simp [pcells]
theorem pcells_len (P : List (Nat × Nat)) : (pcells P).length = P.length * 2 := by
  induction P with
  | nil => rfl
  | cons p P ih =>
    rw [show pcells (p :: P) = (pv (p.1 : Int) (p.2 : Int)).toList ++ pcells P by simp [pcells], List.length_append, ih, List.length_cons]
    simp; omega
theorem pcells_at : ∀ (P : List (Nat × Nat)) (i : Nat) (hi : i < P.length) (j : Nat), j < 2 → (pcells P)[2 * i + j]? = (pv (P[i].1 : Int) (P[i].2 : Int))[j]?
  | [], i, hi, _, _ => absurd hi (by simp)
  | p :: P, 0, _, j, hj => by
    rw [show pcells (p :: P) = (pv (p.1 : Int) (p.2 : Int)).toList ++ pcells P by simp [pcells], Nat.mul_zero, Nat.zero_add, List.getElem?_append_left (by simpa using hj)]
    simp
  | p :: P, i + 1, hi, j, hj => by
    have ih := pcells_at P i (by simpa using hi) j hj
    rw [show pcells (p :: P) = (pv (p.1 : Int) (p.2 : Int)).toList ++ pcells P by simp [pcells], show 2 * (i + 1) + j = 2 + (2 * i + j) by omega, List.getElem?_append_right (by simp)]
    simpa using ih

/-- A slice of one piece. -/
theorem wl_buildP {ops : Array Oper} {rest : List Oper} {o : Oper} {a : Act} {w : World} {Q : Exit → Act → World → Prop} (hg : o.guard = none) (x : Operand) (ho : o.op = .buildSlice 46 1 #[(0, x)]) (n b : Int) (hx : a.eval x = .agg (pv n b))
    (h : wpList Tryd.prog ops Q rest (a.put o.dst (.slice (some ⟨w.heap.size, 0, none⟩) 1 1)) (w.alloc (.cells (pv n b) 50))) : wpList Tryd.prog ops Q (o :: rest) a w := by
  obtain ⟨ie, hie, hz, hs, _⟩ := infoP
  refine wpList_buildSlice hg 46 50 1 _ ho (pv n b) ie (.agg (pv 0 0)) Tryd.underlying46 hie hz (by rw [hs]; decide) (by rw [hs]; decide) ?_ h
  simp only [List.map_toArray, List.map_cons, List.map_nil, hx, Instr.fill, hs, Nat.zero_mul, Value.cells]
  rw [if_neg (by simp)]
  congr 1
  exact fold_all _ _ (by simp)

/-- One piece appended to one's own row of them. -/
theorem wl_appendP {ops : Array Oper} {rest : List Oper} {o : Oper} {a : Act} {w : World} {Q : Exit → Act → World → Prop} (hgd : o.guard = none) (s x : Operand) (ho : o.op = .call { callee := .builtin .append, args := #[s, x], argTypes := #[46, 46] })
    (base : Nat) (v : Value) (P : List (Nat × Nat)) (p : Nat × Nat) (hs : a.eval s = v) (hown : w.ownsRow base 50 2 v P.length (pcells P)) (g cap : Nat) (hx : a.eval x = .slice (some ⟨g, 0, none⟩) 1 cap) (hg : w.heap[g]? = some (.cells (pv (p.1 : Int) (p.2 : Int)) 50 (0, 0)))
    (hn : P.length ≤ 1000000) (hbase : base ≤ w.heap.size)
    (h : ∀ v' w', w'.ownsRow base 50 2 v' (P ++ [p]).length (pcells (P ++ [p])) → w.grownBy w' v.ownBlock → wpList Tryd.prog ops Q rest (a.put o.dst v') w') : wpList Tryd.prog ops Q (o :: rest) a w := by
  obtain ⟨i0, hi, hz0, hz1, hz2⟩ := infoP
  refine wpList_append_own w hgd s x 46 ho base 50 i0 (.agg (pv 0 0)) 2 16 Tryd.underlying46 hi hz0 hz1 hz2 rfl (by decide) v _ _ hs hown ⟨g, 0, none⟩ 1 cap (pcells [p]) hx (by rw [pcells_len]; rfl) (fun j y hy => ?_) (fun u hu => ?_) (by unfold maxLen; omega) (by omega) hbase ?_
  · have hadd : (⟨g, 0, none⟩ : Addr).add j = ⟨g, j, none⟩ := by unfold Addr.add; split <;> simp_all
    rw [hadd, cell_of_row w g j _ _ _ hg, ← hy, pcells_one]
    simp
  · rw [pcells_one] at hu
    exact (Array.all_eq_true_iff_forall_mem.1 (oneP _ _)) u (by simpa using hu)
  · intro v' w' h5 h6 _
    refine h v' w' ?_ h6
    rw [List.length_append, pcells_append]; exact h5

/-- A slice, wherever it lies, whose elements are these pieces. -/
def Sp (w : World) (v : Value) (P : List (Nat × Nat)) : Prop :=
  ∃ (o : Option Addr) (cap : Nat), v = .slice o P.length cap ∧ P.length ≤ cap ∧ cap ≤ maxLen ∧ ∀ (i : Nat) (hi : i < P.length), ∃ g off cur t fr, o = some ⟨g, off, none⟩ ∧ w.heap[g]? = some (.cells cur t fr) ∧ ∀ j, j < 2 → cur[off + i * 2 + j]? = (pv (P[i].1 : Int) (P[i].2 : Int))[j]?
theorem Sp.below {w w' : World} {v : Value} {P : List (Nat × Nat)} (h : Sp w v P) (hb : Below w.heap.size w w') : Sp w' v P := by
  obtain ⟨o, cap, rfl, h1, h2, h3⟩ := h
  refine ⟨o, cap, rfl, h1, h2, fun i hi => ?_⟩
  obtain ⟨g, off, cur, t, fr, h4, h5, h6⟩ := h3 i hi
  exact ⟨g, off, cur, t, fr, h4, (hb.block g (Array.getElem?_eq_some_iff.1 h5).1).trans h5, h6⟩
theorem Sp.slice {w : World} {v : Value} {P : List (Nat × Nat)} (h : Sp w v P) : ∃ (o : Option Addr) (cap : Nat), v = .slice o P.length cap ∧ P.length ≤ cap ∧ cap ≤ maxLen := by
  obtain ⟨o, cap, h1, h2, h3, _⟩ := h
  exact ⟨o, cap, h1, h2, h3⟩
theorem Sp.at {w : World} {o : Option Addr} {n cap : Nat} {P : List (Nat × Nat)} (h : Sp w (.slice o n cap) P) (k : Nat) (hk : k < n) :
    ∃ g off cur t fr, ∃ p : Nat × Nat, o = some ⟨g, off, none⟩ ∧ w.heap[g]? = some (.cells cur t fr) ∧ (∀ j, j < 2 → cur[off + k * 2 + j]? = (pv (p.1 : Int) (p.2 : Int))[j]?) ∧ P[k]? = some p := by
  obtain ⟨o', cap', h1, _, _, h3⟩ := h
  simp only [Value.slice.injEq] at h1
  obtain ⟨rfl, rfl, rfl⟩ := h1
  obtain ⟨g, off, cur, t, fr, h4, h5, h6⟩ := h3 k hk
  exact ⟨g, off, cur, t, fr, P[k], h4, h5, h6, List.getElem?_eq_getElem hk⟩
theorem sp_of {w : World} {B : Nat} {v : Value} {P : List (Nat × Nat)} (h : w.ownsRow B 50 2 v P.length (pcells P)) : Sp w v P := by
  obtain ⟨h1, ⟨rfl, h2⟩ | ⟨g, cap, cur, rfl, hB, hcur, h5, h6, _, h4⟩⟩ := h
  · exact ⟨none, 0, by rw [h2], by omega, Nat.zero_le _, fun i hi => by omega⟩
  · refine ⟨_, cap, rfl, h5, h6, fun i hi => ⟨g, 0, cur, _, _, rfl, hcur, fun j hj => ?_⟩⟩
    rw [← pcells_at P i hi j hj, ← h4, List.getElem?_take_of_lt (by omega), Nat.zero_add, Nat.mul_comm]
    simp

theorem qlP {W : World} {ops : Array Oper} {Q : Act → Prop} {rest : List Oper} {o : Oper} {a : Act} (hw : Region.wanted o (yielded ops a.tmps) = true) (x : Operand) (ho : o.op = .load 50 x)
    (g off : Nat) (hx : a.eval x = .pointer (some ⟨g, off, none⟩)) (cs : Array Value) (t : TypeId) (fr : Nat × Nat) (n b : Int) (hg : W.heap[g]? = some (.cells cs t fr)) (hc : ∀ j, j < 2 → cs[off + j]? = (pv n b)[j]?)
    (h : wpQuiet Tryd.prog ops (fun w' => ∃ u : Later W, w' = u.world) Q rest (a.put o.dst (.agg (pv n b)))) : wpQuiet Tryd.prog ops (fun w' => ∃ u : Later W, w' = u.world) Q (o :: rest) a := by
  refine BigFrame.wpQuiet_want hw fun K hK => ⟨.agg (pv n b), fun w hC => ?_, hK _ h⟩
  unfold Oper.quietAt execOp
  simp only [ho, hx, Instr.loadAt, Instr.sureAddr, Sem.run_bind, Sem.run_pure, Result.andThen_ok, load_piece w g off cs t fr n b (later_block hg w hC) hc]
  exact ⟨rfl, rfl⟩
end Go.Proofs.YtplnlmkmaapbaaaDoor
