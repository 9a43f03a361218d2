import Derived.Test.YtgbmfifalfedbaaLexAwake
namespace Go.Proofs.Ytgbmfifalfedbaa
open Go Go.RowKit

theorem lexT_places (S : List UInt8) : (∀ (i : Nat) (t : Tok), (lexT S).1[i]? = some t → t.pos < S.length ∧ (t.kind = 1 → t.pos + t.text.length ≤ S.length ∧ (S.drop t.pos).take t.text.length = t.text)) ∧
    (∀ (i : Nat) (a b : Tok), (lexT S).1[i]? = some a → (lexT S).1[i + 1]? = some b → a.pos < b.pos) ∧ (lexT S).1.length ≤ 4096 := by
  unfold lexT
  by_cases h : 4096 < S.length
  · rw [if_pos h]; exact ⟨fun i t ht => by simp at ht, fun i a b ha => by simp at ha, Nat.zero_le _⟩
  · rw [if_neg h]
    cases hx : lexW 0 S with
    | ok l =>
      obtain ⟨h1, h2, h3⟩ := lexW_places S 0 l hx
      refine ⟨fun i t ht => ?_, h2, Nat.le_trans h3 (by omega)⟩
      obtain ⟨_, g2, g3⟩ := h1 i t ht
      rw [Nat.zero_add] at g2 g3
      exact ⟨g2, g3⟩
    | error x => exact ⟨fun i t ht => by simp at ht, fun i a b ha => by simp at ha, Nat.zero_le _⟩

theorem later_cellT {W : World} {g k : Nat} {cs : Array Value} {t : TypeId} {fr : Nat × Nat} {v : Value} (hg : W.heap[g]? = some (.cells cs t fr)) (hk : cs[k]? = some v) : ∀ u : Later W, u.world.cell? ⟨g, k, none⟩ = some v := fun u => by
  rw [cell_of_row _ _ _ _ _ _ (later_block hg _ ⟨u, rfl⟩), hk]

set_option maxRecDepth 100000 in
set_option maxHeartbeats 4000000 in
theorem lawPlaces_any (s : ByteArray) (hs : s.size ≤ maxLen) (w : World) :
    Calls Try.prog 4 #[.string s] w fun e w' => e = .returned (.bool true) ∧ Below w.heap.size w w' := by
  have AW : Hid (∀ W, Calls Try.prog 7 #[] W fun e w' => e = .returned (.bool true) ∧ Below W.heap.size W w') := awake_any
  have C1 : Hid (∀ W, Calls Try.prog 8 #[.string s] W fun e w' => ∃ u, e = .returned (.tuple #[u, .int .i64 ((lexT s.data.toList).2.1 : Nat), .int .i64 ((lexT s.data.toList).2.2 : Nat)]) ∧ w'.ownsRow W.heap.size 28 4 u (lexT s.data.toList).1.length (gcells encT (lexT s.data.toList).1) ∧ Below W.heap.size W w') := tokens_any s hs
  have hpl := lexT_places s.data.toList
  obtain ⟨⟨L, E, A⟩, hT⟩ : ∃ T, T = lexT s.data.toList := ⟨_, rfl⟩
  rw [← hT] at C1 hpl
  simp only at C1 hpl
  rw [← Lib.size_eq] at hpl
  obtain ⟨hp1, hp2, hp3⟩ := hpl
  have HP1 : Hid (∀ (i : Nat) (t : Tok), L[i]? = some t → t.pos < s.size ∧ (t.kind = 1 → t.pos + t.text.length ≤ s.size ∧ s.extract t.pos (t.pos + t.text.length) = ⟨t.text.toArray⟩)) := fun i t ht => by
    refine ⟨(hp1 i t ht).1, fun hk => ⟨((hp1 i t ht).2 hk).1, ?_⟩⟩
    rw [Lib.extract_eq, Nat.add_sub_cancel_left, ((hp1 i t ht).2 hk).2]
  have HP2 : Hid (∀ (i : Nat) (a b : Tok), L[i]? = some a → L[i + 1]? = some b → a.pos < b.pos) := hp2
  obtain ⟨n, hn⟩ : ∃ n, n = L.length := ⟨_, rfl⟩
  have hn2 : n ≤ 4096 := by omega
  have HN : Hid (n = L.length) := hn
  unfold maxLen at hs
  clear hT hp1 hp2 hp3
  go_enter Try.func4, Try.ntmps4
  go_wp2_with fail
  refine (AW.out _).mono ?_
  rintro e w1 ⟨rfl, hb1⟩
  go_wp2_with fail
  refine (C1.out _).mono ?_
  rintro e w3 ⟨u, rfl, ho2, hb2⟩
  have G2 : GSl TokE encT w3 u L := gsl_of (E := TokE) ho2 fun c _ => rfl
  obtain ⟨o, cap, rfl, _, hcap⟩ := G2.slice
  have B3 : Below w.heap.size w w3 := hb1.trans (hb2.mono hb1.size)
  rw [← hn] at G2 ⊢
  have HG2 : Hid (GSl TokE encT w3 (.slice o n cap) L) := G2
  clear G2 ho2 hb1 hb2 hn AW C1
  go_wp2_with fail
  go_loopw [6] (fun i wr => ∃ k : Nat, k ≤ n ∧ i = .int .i64 (k : Int) ∧ Below w3.heap.size w3 wr) (fun i _ => n - (intOf i).toNat)
  case atStart => exact ⟨0, Nat.zero_le _, rfl, Below.refl _ _⟩
  case round =>
    obtain ⟨k, hk, rfl, hb⟩ := hrel
    by_cases hlt : k < n
    · obtain ⟨g, off, cur, t, fr, c, rfl, hg, hc, hLk⟩ := HG2.out.at k hlt
      have k1 : wr.heap[g]? = some (.cells cur t fr) := (hb.block g (Array.getElem?_eq_some_iff.1 hg).1).trans hg
      obtain ⟨hpos, hword⟩ := HP1.out k c hLk
      obtain ⟨kd, p, tx, m⟩ := c
      simp only at hpos hword
      have hlt' : (k : Int) < (n : Int) := by omega
      have ne1 := Later.ne wr
      have hp0 : decide ((p : Int) < 0) = false := decide_eq_false (by omega)
      have hp1 : decide (s.size ≤ p) = false := decide_eq_false (by omega)
      obtain ⟨tb, htb⟩ : ∃ tb : ByteArray, tb = ⟨tx.toArray⟩ := ⟨_, rfl⟩
      have hts : tb.size = tx.length := by rw [htb]; rfl
      have HWD : Hid (kd = 1 → p + tb.size ≤ s.size ∧ s.extract p (p + tb.size) = tb) := by rw [hts, htb]; exact hword
      have hc3 : cur[off + k * 4 + 2]? = some (.string tb) := by rw [htb]; exact hc 2 (by decide)
      clear hword htb hts
      cases k with
      | zero =>
        rw [Nat.zero_mul, Nat.add_zero] at hc3
        have E0 : Hid (cur[off]? = some (.int .i64 (kd : Int))) := by have := hc 0 (by decide); rw [Nat.zero_mul, Nat.add_zero] at this; exact this
        have E1 : Hid (cur[off + 1]? = some (.int .i64 (p : Int))) := by have := hc 1 (by decide); rw [Nat.zero_mul, Nat.add_zero] at this; exact this
        have E2 : Hid (cur[off + 2]? = some (.string tb)) := hc3
        have e1 : ∀ u : Later wr, u.world.cell? ⟨g, off + 1, none⟩ = some (.int .i64 (p : Int)) := later_cellT k1 E1.out
        clear hc hg hLk hc3
        go_wp2_with fail
        refine wp_region_later (by kernel_rfl) (by kernel_rfl) ?_
        repeat go_big_quiet_step (fail)
        refine wpQuiet_nil ?_
        rintro w' ⟨u, rfl⟩
        have k2 := later_block k1 _ ⟨u, rfl⟩
        obtain ⟨W, hW⟩ : ∃ W, W = u.world := ⟨_, rfl⟩
        have hb5 : Below w3.heap.size w3 W := by rw [hW]; exact hb.trans (u.below.mono hb.size)
        rw [← hW] at k2 ⊢
        have ne2 := Later.ne W
        have f0 : ∀ u : Later W, u.world.cell? ⟨g, off, none⟩ = some (.int .i64 (kd : Int)) := later_cellT k2 E0.out
        have f1 : ∀ u : Later W, u.world.cell? ⟨g, off + 1, none⟩ = some (.int .i64 (p : Int)) := later_cellT k2 E1.out
        have f2 : ∀ u : Later W, u.world.cell? ⟨g, off + 2, none⟩ = some (.string tb) := later_cellT k2 E2.out
        clear hW k1 e1 hb
        by_cases hkd : kd = 1
        · have hkb : ((kd : Int) == 1) = true := by simp; omega
          obtain ⟨hw1, hw2⟩ := HWD.out hkd
          have hlen : decide ((s.size : Int) - (p : Int) < (tb.size : Int)) = false := decide_eq_false (by omega)
          have hne : (tb.toList != tb.toList) = false := by simp
          clear hkd
          go_wp2_with fail
          refine wp_region_later (by kernel_rfl) (by kernel_rfl) ?_
          repeat go_big_quiet_step (fail)
          refine wpQuiet_nil ?_
          rintro w' ⟨u, rfl⟩
          go_wp2_with fail
          go_roundw
          case rel => exact ⟨1, by omega, by go_num, hb5.trans (u.below.mono hb5.size)⟩
          case measure => simp [intOf]; omega
        · have hkb : ((kd : Int) == 1) = false := by simp; omega
          clear hkd
          go_wp2_with fail
          refine wp_region_later (by kernel_rfl) (by kernel_rfl) ?_
          repeat go_big_quiet_step (fail)
          refine wpQuiet_nil ?_
          rintro w' ⟨u, rfl⟩
          go_wp2_with fail
          go_roundw
          case rel => exact ⟨1, by omega, by go_num, hb5.trans (u.below.mono hb5.size)⟩
          case measure => simp [intOf]; omega
      | succ k =>
        obtain ⟨g', off', cur', t', fr', c', ho', hg', hc', hLk'⟩ := HG2.out.at k (by omega)
        obtain ⟨rfl, rfl⟩ : g = g' ∧ off = off' := by simpa using ho'
        rw [hg] at hg'
        obtain ⟨rfl, rfl, rfl⟩ : cur = cur' ∧ t = t' ∧ fr = fr' := by simpa using hg'
        have hri := HP2.out k c' _ hLk' hLk
        obtain ⟨kd', p', tx', m'⟩ := c'
        simp only at hri
        have E0 : Hid (cur[off + (k + 1) * 4]? = some (.int .i64 (kd : Int))) := by have := hc 0 (by decide); exact this
        have E1 : Hid (cur[off + (k + 1) * 4 + 1]? = some (.int .i64 (p : Int))) := by have := hc 1 (by decide); exact this
        have E2 : Hid (cur[off + (k + 1) * 4 + 2]? = some (.string tb)) := hc3
        have e1 : ∀ u : Later wr, u.world.cell? ⟨g, off + (k + 1) * 4 + 1, none⟩ = some (.int .i64 (p : Int)) := later_cellT k1 E1.out
        have e2 : ∀ u : Later wr, u.world.cell? ⟨g, off + k * 4 + 1, none⟩ = some (.int .i64 (p' : Int)) := later_cellT k1 (by have := hc' 1 (by decide); exact this)
        have hpp : decide (p ≤ p') = false := decide_eq_false (by omega)
        have hk0 : decide (0 < (k : Int) + 1) = true := decide_eq_true (by omega)
        clear hc hc' hg hg' hLk hLk' ho' hc3
        go_wp2_with fail
        refine wp_region_later (by kernel_rfl) (by kernel_rfl) ?_
        repeat go_big_quiet_step (fail)
        refine wpQuiet_nil ?_
        rintro w' ⟨u, rfl⟩
        have k2 := later_block k1 _ ⟨u, rfl⟩
        obtain ⟨W, hW⟩ : ∃ W, W = u.world := ⟨_, rfl⟩
        have hb5 : Below w3.heap.size w3 W := by rw [hW]; exact hb.trans (u.below.mono hb.size)
        rw [← hW] at k2 ⊢
        have ne2 := Later.ne W
        have f0 : ∀ u : Later W, u.world.cell? ⟨g, off + (k + 1) * 4, none⟩ = some (.int .i64 (kd : Int)) := later_cellT k2 E0.out
        have f1 : ∀ u : Later W, u.world.cell? ⟨g, off + (k + 1) * 4 + 1, none⟩ = some (.int .i64 (p : Int)) := later_cellT k2 E1.out
        have f2 : ∀ u : Later W, u.world.cell? ⟨g, off + (k + 1) * 4 + 2, none⟩ = some (.string tb) := later_cellT k2 E2.out
        clear hW k1 e1 e2 hb
        by_cases hkd : kd = 1
        · have hkb : ((kd : Int) == 1) = true := by simp; omega
          obtain ⟨hw1, hw2⟩ := HWD.out hkd
          have hlen : decide ((s.size : Int) - (p : Int) < (tb.size : Int)) = false := decide_eq_false (by omega)
          have hne : (tb.toList != tb.toList) = false := by simp
          clear hkd
          go_wp2_with fail
          refine wp_region_later (by kernel_rfl) (by kernel_rfl) ?_
          repeat go_big_quiet_step (fail)
          refine wpQuiet_nil ?_
          rintro w' ⟨u, rfl⟩
          go_wp2_with fail
          go_roundw
          case rel => exact ⟨k + 1 + 1, by omega, by go_num, hb5.trans (u.below.mono hb5.size)⟩
          case measure => simp [intOf]; omega
        · have hkb : ((kd : Int) == 1) = false := by simp; omega
          clear hkd
          go_wp2_with fail
          refine wp_region_later (by kernel_rfl) (by kernel_rfl) ?_
          repeat go_big_quiet_step (fail)
          refine wpQuiet_nil ?_
          rintro w' ⟨u, rfl⟩
          go_wp2_with fail
          go_roundw
          case rel => exact ⟨k + 1 + 1, by omega, by go_num, hb5.trans (u.below.mono hb5.size)⟩
          case measure => simp [intOf]; omega
    · have B4 := B3.trans (hb.mono B3.size)
      have hlt' : (n : Int) ≤ (k : Int) := by omega
      clear hlt B3
      go_wp2_with fail
      go_ret
      exact ⟨rfl, B4⟩
end Go.Proofs.Ytgbmfifalfedbaa
