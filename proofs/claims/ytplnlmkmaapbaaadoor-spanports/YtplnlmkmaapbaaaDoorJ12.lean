import Derived.Test.YtplnlmkmaapbaaaDoorJ11
import Derived.Test.YtplnlmkmaapbaaaDoorJ9
namespace Go.Proofs.YtplnlmkmaapbaaaDoor
open Go Go.RowKit

/-- A piece's cube has the headers whose port is one of its numbers. -/
theorem has_port (H : List Int) (hH : Byt H) (f : Int) (hf : f = 2 ∨ f = 3) (a b : Nat) (ha : a ≤ 65535) (hb : b ≤ 16) (hm : a % sz b = 0) : has (pxV f a b) (pxM f b) H = inP (a, b) (fld H f) := by
  have hs := size_23 f hf
  have h := has_field H hH f a b (by omega) (by omega) (by rw [hs]; exact Nat.lt_of_le_of_lt ha (by decide)) (by omega)
  rw [hs] at h
  rw [show has (pxV f a b) (pxM f b) H = _ from h]
  unfold inP
  rw [show 8 * 2 - b = 16 - b by omega]
  show decide (a / sz b = fld H f / sz b) = (decide (a ≤ fld H f) && decide (fld H f < a + sz b))
  have hp := sz_pos b
  generalize fld H f = g
  generalize sz b = s at hm hp
  rw [Bool.eq_iff_iff, decide_eq_true_eq, Bool.and_eq_true, decide_eq_true_eq, decide_eq_true_eq]
  have h1 := Nat.div_add_mod a s
  have h2 := Nat.div_add_mod g s
  have h3 := Nat.mod_lt g hp
  rw [hm, Nat.add_zero] at h1
  constructor
  · intro e
    rw [e] at h1
    omega
  · rintro ⟨h4, h5⟩
    have h6 : a / s ≤ g / s := Nat.div_le_div_right h4
    have h7 : g / s < a / s + 1 := by
      rw [Nat.div_lt_iff_lt_mul hp, Nat.add_mul, Nat.one_mul, Nat.mul_comm, h1]
      exact h5
    omega
theorem rng_mod {h n : Nat} {p : Nat × Nat} (hp : p ∈ rng h n) : p.1 % sz p.2 = 0 ∧ p.1 + sz p.2 ≤ h + 1 := by
  obtain ⟨_, h2, h3⟩ := rng_mem h n p hp
  rw [h3]
  exact (okP_iff _ _ _).1 (gr_is _ _ h2).2.1
theorem rng_apart (h : Nat) : ∀ n, ∀ (i k : Nat) (a b : Nat × Nat), i < k → (rng h n)[i]? = some a → (rng h n)[k]? = some b → a.1 + sz a.2 ≤ b.1 := by
  refine rng_induct h _ (fun n hn => ?_) (fun n hn ih => ?_)
  · rw [rng_nil hn]; intro i k a b _ ha; simp at ha
  · intro i k a b hik ha hb
    rw [rng_cons hn] at ha hb
    obtain ⟨k', rfl⟩ : ∃ k', k = k' + 1 := ⟨k - 1, by omega⟩
    rw [List.getElem?_cons_succ] at hb
    cases i with
    | zero =>
      obtain rfl : a = (n, gr n h) := by simpa using ha.symm
      exact (rng_mem _ _ _ (List.mem_of_getElem? hb)).1
    | succ i =>
      rw [List.getElem?_cons_succ] at ha
      exact ih i k' a b (by omega) ha hb

theorem hasL_ports (H : List Int) (hH : Byt H) (f l h : Int) (hf : f = 2 ∨ f = 3) (c : isR l h = true) : hasL (portC f (ran l h)) H = decide (l ≤ (fld H f : Int) ∧ (fld H f : Int) ≤ h) := by
  have hc := (isR_iff l h).1 c
  have hran : ran l h = rng h.toNat l.toNat := by rw [ran, if_pos c]
  rw [Bool.eq_iff_iff, decide_eq_true_eq]
  have hcn := cnt_rng h.toNat (fld H f) l.toNat
  unfold hasL portC
  rw [List.any_eq_true, hran]
  constructor
  · rintro ⟨x, hx, h1⟩
    rw [List.mem_map] at hx
    obtain ⟨p, hp, rfl⟩ := hx
    have hm := rng_mod hp
    have hmm := rng_mem _ _ _ hp
    rw [has_port H hH f hf p.1 p.2 (by omega) (rng_bits hp) hm.1] at h1
    unfold inP at h1
    rw [Bool.and_eq_true, decide_eq_true_eq, decide_eq_true_eq] at h1
    simp only at h1
    omega
  · intro h1
    rw [if_pos (by omega)] at hcn
    obtain ⟨p, hp⟩ := List.exists_mem_of_length_pos (by rw [hcn]; decide : 0 < ((rng h.toNat l.toNat).filter fun p => inP p (fld H f)).length)
    rw [List.mem_filter] at hp
    have hmm := rng_mem _ _ _ hp.1
    refine ⟨_, List.mem_map.2 ⟨p, hp.1, rfl⟩, ?_⟩
    rw [has_port H hH f hf p.1 p.2 (by omega) (rng_bits hp.1) (rng_mod hp.1).1]
    exact hp.2

theorem has_self (V M : List Int) : has V M V = true := (has_iff _ _ _).2 fun _ _ _ => rfl
theorem apart_ports (f l h : Int) (hf : f = 2 ∨ f = 3) (c : isR l h = true) : Apart (portC f (ran l h)) := by
  have hc := (isR_iff l h).1 c
  have hran : ran l h = rng h.toNat l.toNat := by rw [ran, if_pos c]
  rw [hran]
  intro i k U N U' N' hik h1 h2
  unfold portC at h1 h2
  rw [List.getElem?_map, Option.map_eq_some_iff] at h1 h2
  obtain ⟨p, hp, hp'⟩ := h1
  obtain ⟨q, hq, hq'⟩ := h2
  obtain ⟨rfl, rfl⟩ := Prod.mk.inj hp'
  obtain ⟨rfl, rfl⟩ := Prod.mk.inj hq'
  cases hm : meets (pxV f p.1 p.2) (pxM f p.2) (pxV f q.1 q.2) (pxM f q.2) with
  | false => rfl
  | true =>
    have hs := has_self (meetV (pxV f p.1 p.2) (pxM f p.2) (pxV f q.1 q.2) (pxM f q.2)) (meetM (pxM f p.2) (pxM f q.2))
    rw [has_meet _ _ _ _ _ hm, Bool.and_eq_true] at hs
    have mp := List.mem_of_getElem? hp
    have mq := List.mem_of_getElem? hq
    have gp := rng_mem _ _ _ mp
    have gq := rng_mem _ _ _ mq
    have ha := rng_apart _ _ i k p q hik hp hq
    rw [has_port _ (meetV_byt _ _ _ _) f hf p.1 p.2 (by omega) (rng_bits mp) (rng_mod mp).1, has_port _ (meetV_byt _ _ _ _) f hf q.1 q.2 (by omega) (rng_bits mq) (rng_mod mq).1] at hs
    unfold inP at hs
    simp only [Bool.and_eq_true, decide_eq_true_eq] at hs
    omega

set_option maxHeartbeats 4000000 in
theorem lawPorts_any (f l h : Int) (H : List Int) (hH : Byt H) (w : World) (hP : Places w) :
    Calls Tryd.prog 3 #[.int .i64 f, .int .i64 l, .int .i64 h, .agg (hv H)] w fun e w' => e = .returned (.bool true) ∧ Below w.heap.size w w' := by
  have hHl := hH.1
  have hpos := hP.pos
  have HP : Hid (Places w) := hP
  have g00 := heap_new w (.cells (hv H) 23) _ rfl
  have B00 : Below w.heap.size w (w.alloc (.cells (hv H) 23)) := (Below.refl _ _).alloc (Nat.le_refl _) _
  have D1 : Hid (∀ W, Places W → Calls Tryd.prog 7 #[.int .i64 f, .int .i64 l, .int .i64 h] W fun e w' => ∃ u, e = .returned (.tuple #[u, .int .i64 (portE f l h)]) ∧ Sl w' u (portP f l h) ∧ Below W.heap.size W w') := fun W hW => ports_any f l h W hW
  have D2 : Hid (∀ W, Calls Tryd.prog 8 #[.int .i64 f, .int .i64 l, .int .i64 h] W fun e w' => ∃ u, e = .returned (.tuple #[u, .int .i64 (portE f l h)]) ∧ Sl w' u (portP f l h) ∧ Below W.heap.size W w') := fun W => rports_any f l h W
  have HX : Hid (Apart (portP f l h) ∧ (portP f l h).length ≤ 30 ∧ ((portE f l h = 1 ∨ portE f l h = 10) ∧ portP f l h = [] ∨ portE f l h = 0 ∧ (f = 2 ∨ f = 3) ∧ hasL (portP f l h) H = decide (l ≤ (fld H f : Int) ∧ (fld H f : Int) ≤ h))) := by
    have no : Apart [] := fun i k U N U' N' _ h1 => by simp at h1
    show _ ∧ _ ∧ _
    unfold portP portE
    by_cases hf : f = 2 ∨ f = 3
    · rw [decide_eq_true hf, if_pos rfl, Bool.true_and]
      cases c : isR l h
      · exact ⟨no, Nat.zero_le _, .inl ⟨.inr rfl, rfl⟩⟩
      · exact ⟨apart_ports f l h hf c, by rw [if_pos rfl, portC_len]; exact ran_few l h, .inr ⟨rfl, hf, hasL_ports H hH f l h hf c⟩⟩
    · rw [decide_eq_false hf, Bool.false_and]
      exact ⟨no, Nat.zero_le _, .inl ⟨.inl rfl, rfl⟩⟩
  obtain ⟨P, hPp⟩ : ∃ P, P = portP f l h := ⟨_, rfl⟩
  obtain ⟨E, hE⟩ : ∃ E, E = portE f l h := ⟨_, rfl⟩
  rw [← hPp, ← hE] at D1 D2 HX
  have hl30 := HX.out.2.1
  have DA : Hid (∀ (v : Value) (W : World), Sl W v P → Calls Tryd.prog 10 #[v] W fun e w' => e = .returned (.bool true) ∧ Below W.heap.size W w') := fun v W hs => by
    have := apart_any P (by omega) v W hs
    rwa [apartL_yes HX.out.1] at this
  have DH : Hid (∀ (v : Value) (W : World), Sl W v P → Calls Tryd.prog 12 #[v, .agg (hv H)] W fun e w' => e = .returned (.bool (hasL P H)) ∧ Below W.heap.size W w') := fun v W hs => chas_any P H hH (by omega) v W hs
  have D3 : Hid (0 ≤ f → f < 5 → ∀ W, Calls Tryd.prog 11 #[.agg (hv H), .int .i64 f] W fun e w' => e = .returned (.tuple #[.int .u32 (fld H f : Int), .int .i64 0]) ∧ Below W.heap.size W w') := fun h0 h1 W => by
    have := refField_ok H hH f W h0 h1
    rwa [fld_eq H hH f] at this
  have hfl : f = 2 ∨ f = 3 → fld H f ≤ 65535 := fun hf => by have := fld_lt H hH f; rw [size_23 f hf] at this; omega
  have HFL : Hid (f = 2 ∨ f = 3 → fld H f ≤ 65535) := hfl
  clear hPp hE hH hP hfl
  go_enter Tryd.func3, Tryd.ntmps3
  go_wp2_with fail
  refine (awake_any _).mono ?_
  rintro e w1 ⟨rfl, hb1⟩
  have g1 : w1.heap[w.heap.size]? = some (.cells (hv H) 23 (0, 0)) := by rw [hb1.block _ (by simp)]; exact g00
  have B1 := B00.trans (hb1.mono B00.size)
  clear hb1
  go_wp2_with fail
  refine (D1.out _ (HP.out.later hpos B1)).mono ?_
  rintro e w2 ⟨u, rfl, hsu, hb2⟩
  have g2 : w2.heap[w.heap.size]? = some (.cells (hv H) 23 (0, 0)) := by rw [hb2.block _ (Array.getElem?_eq_some_iff.1 g1).1]; exact g1
  have B2 := B1.trans (hb2.mono B1.size)
  have HSU : Hid (Sl w2 u P) := hsu
  clear hb2 g1 B1 hsu
  go_wp2_with fail
  refine (D2.out _).mono ?_
  rintro e w3 ⟨v, rfl, hsv, hb3⟩
  have g3 : w3.heap[w.heap.size]? = some (.cells (hv H) 23 (0, 0)) := by rw [hb3.block _ (Array.getElem?_eq_some_iff.1 g2).1]; exact g2
  have B3 := B2.trans (hb3.mono B2.size)
  have HSU3 : Hid (Sl w3 u P) := HSU.out.below hb3
  have HSV : Hid (Sl w3 v P) := hsv
  clear hb3 g2 B2 hsv HSU
  go_wp2_with fail
  refine (sameSl_any P (by omega) _ _ _ HSU3.out HSV.out).mono ?_
  rintro e w4 ⟨rfl, hb4⟩
  have g4 : w4.heap[w.heap.size]? = some (.cells (hv H) 23 (0, 0)) := by rw [hb4.block _ (Array.getElem?_eq_some_iff.1 g3).1]; exact g3
  have B4 := B3.trans (hb4.mono B3.size)
  have HSU4 : Hid (Sl w4 u P) := HSU3.out.below hb4
  clear hb4 g3 B3 HSU3 HSV
  go_wp2_with fail
  refine (DA.out _ _ HSU4.out).mono ?_
  rintro e w5 ⟨rfl, hb5⟩
  have g5 : w5.heap[w.heap.size]? = some (.cells (hv H) 23 (0, 0)) := by rw [hb5.block _ (Array.getElem?_eq_some_iff.1 g4).1]; exact g4
  have B5 := B4.trans (hb5.mono B4.size)
  have HSU5 : Hid (Sl w5 u P) := HSU4.out.below hb5
  clear hb5 g4 B4 HSU4
  rcases HX.out.2.2 with ⟨hE, hPn⟩ | ⟨hE, hf, hh⟩
  · have hsl := HSU5.out
    rw [hPn] at hsl
    obtain ⟨o, cap, rfl, _, _⟩ := hsl.slice
    rcases hE with rfl | rfl
    · go_wp2_with fail
      go_ret
      exact ⟨rfl, B5⟩
    · go_wp2_with fail
      go_ret
      exact ⟨rfl, B5⟩
  · subst hE
    have D3' : Hid (∀ W, Calls Tryd.prog 11 #[.agg (hv H), .int .i64 f] W fun e w' => e = .returned (.tuple #[.int .u32 (fld H f : Int), .int .i64 0]) ∧ Below W.heap.size W w') := D3.out (by omega) (by omega)
    have hg := HFL.out hf
    rw [hh] at DH
    obtain ⟨g, hgg⟩ : ∃ g, g = fld H f := ⟨_, rfl⟩
    rw [← hgg] at D3' DH hg
    clear hh hgg hf
    go_wp2_with (first
      | (refine wl_load26 rfl _ rfl w.heap.size rfl H g5 hHl ?_))
    refine (D3'.out _).mono ?_
    rintro e w6 ⟨rfl, hb6⟩
    have g6 : w6.heap[w.heap.size]? = some (.cells (hv H) 23 (0, 0)) := by rw [hb6.block _ (Array.getElem?_eq_some_iff.1 g5).1]; exact g5
    have B6 := B5.trans (hb6.mono B5.size)
    have HSU6 : Hid (Sl w6 u P) := HSU5.out.below hb6
    clear hb6 g5 B5 HSU5
    go_wp2_with (first
      | (refine wl_load26 rfl _ rfl w.heap.size rfl H g6 hHl ?_))
    refine (DH.out _ _ HSU6.out).mono ?_
    rintro e w7 ⟨rfl, hb7⟩
    have B7 := B6.trans (hb7.mono B6.size)
    by_cases d1 : l ≤ (g : Int)
    · by_cases d2 : (g : Int) ≤ h
      · rw [decide_eq_true ⟨d1, d2⟩]
        go_wp2_with fail
        go_ret
        exact ⟨ret_bool (by simp), B7⟩
      · rw [decide_eq_false (fun hc => d2 hc.2)]
        go_wp2_with fail
        go_ret
        exact ⟨ret_bool (by simp; omega), B7⟩
    · rw [decide_eq_false (fun hc => d1 hc.1)]
      go_wp2_with fail
      go_ret
      exact ⟨ret_bool (by simp), B7⟩
end Go.Proofs.YtplnlmkmaapbaaaDoor
