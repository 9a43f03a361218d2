import Derived.Test.YtnppfibojcgkmaaLawShares
namespace Go.Proofs.Ytnppfibojcgkmaa
open Go Go.Lib Go.RowKit Ieee
set_option maxRecDepth 20000

theorem inV_at {o : List Nat} {k : Nat} {c : Value} (h : (inV o)[k]? = some c) : ∃ i : Nat, c = .int .i64 (i : Int) ∧ o[k]? = some i := by
  unfold inV at h
  rw [List.getElem?_map] at h
  cases ho : o[k]? with
  | none => rw [ho] at h; cases h
  | some i => rw [ho] at h; exact ⟨i, by simpa using h.symm, rfl⟩
theorem ord_len {K : Nat → Int} {n : Nat} {o : List Nat} (h : IsOrd K n o) : o.length = n := by
  have hn : o.Nodup := h.2.imp fun hab e => by rw [e] at hab; exact ahead_asymm hab hab
  have h1 := places_le n o (fun i hi => (h.1 i).1 hi) hn
  have h2 := sub_len (List.range n) o List.nodup_range fun i hi => (h.1 i).2 (List.mem_range.1 hi)
  rw [List.length_range] at h2
  omega
/-- The first of the order is the best. -/
theorem ord_first {K : Nat → Int} {n : Nat} {o : List Nat} {i b : Nat} (h : IsOrd K n o) (h0 : o[0]? = some i) (hb : IsFirst K [] n b) : i = b := by
  cases o with
  | nil => cases h0
  | cons a o =>
    obtain rfl : a = i := by simpa using h0
    rcases Classical.em (a = b) with e | e
    · exact e
    · exfalso
      have h1 : b ∈ a :: o := (h.1 b).2 hb.1
      have h2 : b ∈ o := by rcases List.mem_cons.1 h1 with e1 | e1; exact absurd e1.symm e; exact e1
      have h3 := (List.pairwise_cons.1 h.2).1 b h2
      have h4 := hb.2.2 a ((h.1 a).1 (by simp)) (by simp) e
      exact ahead_asymm h3 h4
def ISl (w : World) (v : Value) (o : List Nat) : Prop := VSl w v (inV o)
theorem ISl.at {w : World} {q : Option Addr} {n cap : Nat} {o : List Nat} (h : ISl w (.slice q n cap) o) (k : Nat) (hk : k < n) :
    ∃ g off i, q = some ⟨g, off, none⟩ ∧ w.cell? ⟨g, off + k, none⟩ = some (.int .i64 ((i : Nat) : Int)) ∧ o[k]? = some i := by
  obtain ⟨g, off, c, h1, h2, h3⟩ := VSl.at h k hk
  obtain ⟨i, rfl, hi⟩ := inV_at h3
  exact ⟨g, off, i, h1, h2, hi⟩
set_option maxHeartbeats 8000000 in
set_option maxRecDepth 100000 in
theorem lawOrders_any (l0 : List Nat) (hw0 : AllW l0) (v : Value) (w : World) (hL0 : FSl w v l0) : Calls Try.prog 5 #[v] w fun e w' => e = .returned (.bool true) ∧ Below w.heap.size w w' := by
  have HA : Hid (∀ W, Calls Try.prog 9 #[] W fun e w' => e = .returned (.bool true) ∧ Below W.heap.size W w') := awake_any
  obtain ⟨o, cap, rfl, h1, h2⟩ := hL0.slice
  obtain ⟨n0, hn0⟩ : ∃ n0, n0 = l0.length := ⟨_, rfl⟩
  rw [← hn0] at hL0 h1 ⊢
  obtain ⟨n, hn⟩ : ∃ n, n = min n0 100 := ⟨_, rfl⟩
  have hmin : min (n0 : Int) 100 = (n : Int) := by omega
  obtain ⟨l, hl⟩ : ∃ l, l = l0.take n := ⟨_, rfl⟩
  have hll : l.length = n := by rw [hl, List.length_take]; omega
  have hw : AllW l := by rw [hl]; exact hw0.take n
  have hL : FSl w (.slice o n cap) l := by
    have := VSl.front hL0 n (by omega)
    rw [flV_take, ← hl] at this
    exact this
  have hn100 : l.length ≤ 1000 := by omega
  have HS1 : Hid (∀ W, Below w.heap.size w W → Calls Try.prog 18 #[.slice o n cap] W fun e w' => ∃ v' p, e = .returned v' ∧ IsOrd (keyT l) n p ∧ VOwn 3 W.heap.size w' v' (inV p) ∧ Below W.heap.size W w') := fun W h => by
    have := order_any l hw hn100 _ W (VSl.below hL h)
    rw [hll] at this; exact this
  have HS2 : Hid (∀ W, Below w.heap.size w W → Calls Try.prog 19 #[.slice o n cap] W fun e w' => ∃ v' p, e = .returned v' ∧ IsOrd (keyT l) n p ∧ VOwn 3 W.heap.size w' v' (inV p) ∧ Below W.heap.size W w') := fun W h => by
    have := rorder_any l hw hn100 _ W (VSl.below hL h)
    rw [hll] at this; exact this
  have HBT : Hid (∀ W, Below w.heap.size w W → Calls Try.prog 20 #[.slice o n cap] W fun e w' => (∃ b : Int, e = .returned (.int .i64 b) ∧ (n = 0 ∧ b = -1 ∨ ∃ c : Nat, b = (c : Int) ∧ IsFirst (keyT l) [] n c)) ∧ w' = W) := fun W h => by
    refine (best_any l hw _ W (VSl.below hL h)).mono ?_
    rintro e w' ⟨⟨b, rfl, hb⟩, rfl⟩
    refine ⟨⟨b, rfl, ?_⟩, rfl⟩
    rcases hb with ⟨e1, e2⟩ | ⟨c, e1, e2⟩
    · left
      exact ⟨by rw [← hll, e1]; rfl, e2⟩
    · right
      rw [hll] at e2
      exact ⟨c, e1, e2⟩
  have hn2 : n ≤ n0 := by omega
  have hn3 : n ≤ 100 := by omega
  generalize keyT l = K at HS1 HS2 HBT
  unfold maxLen at h2
  clear hL0 hL hw hw0 hl hll hn hn0 hn100
  go_enter Try.func5, Try.ntmps5
  go_wp2_with (first
    | (go_at_call 9; refine (HA.out _).mono ?_; rintro e w1 ⟨rfl, hb⟩; have B1 : Hid (Below w.heap.size w w1) := hb; clear hb)
    | (go_at_call 18; refine (HS1.out _ B1.out).mono ?_; rintro e w2 ⟨v2, p, rfl, hp, ho2, hb2⟩; have B2 : Hid (Below w.heap.size w w2) := B1.out.trans (hb2.mono B1.out.size); have O2 : Hid (VOwn 3 w1.heap.size w2 v2 (inV p)) := ho2; have HP : Hid (IsOrd K n p) := hp; clear ho2 hb2 hp)
    | (go_at_call 19; refine of_stopV ?_))
  unfold StopV
  refine (HS2.out _ B2.out).mono ?_
  rintro e w3 ⟨v3, p', rfl, hp', ho3, hb3⟩
  obtain rfl : p = p' := ord_one HP.out hp'
  have B3 : Hid (Below w.heap.size w w3) := B2.out.trans (hb3.mono B2.out.size)
  have O3 : Hid (ISl w3 v3 p) := ho3.sl
  have O2' : Hid (ISl w3 v2 p) := (O2.out.below hb3).sl
  clear ho3 hb3 O2 hp'
  obtain ⟨o2, cap2, rfl, _, hc2⟩ := VSl.slice O2'.out
  obtain ⟨o3, cap3, rfl, _, hc3⟩ := VSl.slice O3.out
  unfold maxLen at hc2 hc3
  have hsn : (inV p).length = n := by rw [inV_len]; exact ord_len HP.out
  rw [hsn] at O2' O3 ⊢
  clear hsn
  go_wp2_with fail
  obtain ⟨W0, hW0⟩ : ∃ W, W = w3 := ⟨_, rfl⟩
  rw [← hW0] at B3 O2' O3 ⊢
  clear hW0
  go_loopw [5] (fun i wr => ∃ k : Nat, k ≤ n ∧ i = .int .i64 (k : Int) ∧ ISl wr (.slice o2 n cap2) p ∧ ISl wr (.slice o3 n cap3) p ∧ Below w.heap.size w wr) (fun i _ => n - (intOf i).toNat)
  case atStart => exact ⟨0, Nat.zero_le _, rfl, O2'.out, O3.out, B3.out⟩
  case round =>
    clear O2' O3 B3 B2 B1
    obtain ⟨k, hk, rfl, f2, f3, hb⟩ := hrel
    have HB : Hid (Below w.heap.size w wr) := hb
    have F2 : Hid (ISl wr (.slice o2 n cap2) p) := f2
    have F3 : Hid (ISl wr (.slice o3 n cap3) p) := f3
    by_cases hlt : k < n
    · have hlt' : (k : Int) < (n : Int) := by omega
      obtain ⟨g, off, x, rfl, hcx, hxk⟩ := f2.at k hlt
      obtain ⟨g', off', y, rfl, hcy, hyk⟩ := f3.at k hlt
      obtain rfl : x = y := Option.some.inj (hxk.symm.trans hyk)
      clear f2 f3 hb hxk hyk
      go_wp2_with fail
      go_quiet (fail)
      have B4 : Hid (Below w.heap.size w (wr.drewN nq)) := HB.out.trans ((below_drewN wr nq).mono HB.out.size)
      have G2 : Hid (ISl (wr.drewN nq) (.slice (some ⟨g, off, none⟩) n cap2) p) := VSl.below F2.out (below_drewN wr nq)
      have G3 : Hid (ISl (wr.drewN nq) (.slice (some ⟨g', off', none⟩) n cap3) p) := VSl.below F3.out (below_drewN wr nq)
      obtain ⟨W3, hW3⟩ : ∃ W3, W3 = wr.drewN nq := ⟨_, rfl⟩
      rw [← hW3] at B4 G2 G3 ⊢
      clear hW3 hcx hcy
      go_wp2_with fail
      go_roundw
      case rel => exact ⟨k + 1, by omega, by go_num, G2.out, G3.out, B4.out⟩
      case measure => simp [intOf]; omega
    · have hlt' : ¬ (k : Int) < (n : Int) := by omega
      clear f2 hb hk
      by_cases c0 : n = 0
      · have c0' : ((n : Int) == 0) = true := by simp [c0]
        have HC : Hid (∀ W, W = wr → Calls Try.prog 20 #[.slice o n cap] W fun e w' => e = .returned (.int .i64 (-1)) ∧ w' = W) := fun W h => by
          subst h
          refine (HBT.out _ HB.out).mono ?_
          rintro e w' ⟨⟨b, rfl, ⟨_, rfl⟩ | ⟨c, _, h3⟩⟩, rfl⟩
          · exact ⟨rfl, rfl⟩
          · have := h3.1
            omega
        clear f3 c0
        go_wp2_with (go_at_call 20; refine (HC.out _ rfl).mono ?_; rintro e w' ⟨rfl, hw'⟩; obtain rfl := hw')
        go_ret
        exact ⟨rfl, HB.out⟩
      · have c0' : ((n : Int) == 0) = false := by simp; omega
        have c1 : (0 : Int) < (n : Int) := by omega
        obtain ⟨g', off', y, rfl, hcy, hy0⟩ := f3.at 0 (by omega)
        rw [Nat.add_zero] at hcy
        have HC : Hid (∀ q, Calls Try.prog 20 #[.slice o n cap] (wr.drewN q) fun e w' => e = .returned (.int .i64 (y : Int)) ∧ w' = wr.drewN q) := fun q => by
          refine (HBT.out _ (HB.out.trans ((below_drewN wr q).mono HB.out.size))).mono ?_
          rintro e w' ⟨⟨b, rfl, ⟨h3, _⟩ | ⟨c, rfl, h3⟩⟩, rfl⟩
          · exact absurd h3 c0
          · rw [ord_first HP.out hy0 h3]
            exact ⟨rfl, rfl⟩
        clear f3 c0 hy0
        go_wp2_with fail
        go_quiet (first | (go_at_call 20; exact Calls.quiet_of_same (HC.out _)))
        have B4 : Hid (Below w.heap.size w (wr.drewN nq)) := HB.out.trans ((below_drewN wr nq).mono HB.out.size)
        go_wp2_with fail
        go_ret
        exact ⟨rfl, B4.out⟩
end Go.Proofs.Ytnppfibojcgkmaa
