import Derived.Test.YtfamnloobmdhdabDoorLawSWhole7
namespace Go.Proofs.YtfamnloobmdhdabDoor
open Go Go.RowKit
set_option maxRecDepth 20000

def cntD (l : List Ent) (k : Nat) : Nat := ((l.take k).filter fun x => x.dflt).length
theorem cntD_next {l : List Ent} {k : Nat} {x : Ent} (h : l[k]? = some x) : cntD l (k + 1) = cntD l k + if x.dflt then 1 else 0 := by
  obtain ⟨hk, rfl⟩ := List.getElem?_eq_some_iff.1 h
  unfold cntD
  rw [List.take_succ_eq_append_getElem hk, List.filter_append, List.length_append]
  congr 1
  rw [List.filter_cons]
  split <;> rfl
theorem cntD_le (l : List Ent) (k : Nat) : cntD l k ≤ k := by
  unfold cntD
  have h1 := List.length_filter_le (fun x : Ent => x.dflt) (l.take k)
  rw [List.length_take] at h1
  omega

set_option maxHeartbeats 4000000 in
theorem lawSParses_any (s : ByteArray) (hs : s.size ≤ maxLen) (w : World) (hP : Places w) :
    Calls Tryd.prog 4 #[.string s] w fun e w' => e = .returned (.bool true) ∧ Below w.heap.size w w' := by
  have hp := hP.pos
  have AW : Hid (∀ W, Below w.heap.size w W → Calls Tryd.prog 5 #[] W fun e w' => e = .returned (.bool true) ∧ Below W.heap.size W w') := fun W hb => awake7_any W (hP.later hp hb)
  have RD : Hid (∀ W, Calls Tryd.prog 8 #[.string s] W fun e w' => ∃ v, e = .returned (.tuple #[v, .int .i64 (readP s.data.toList).2.1, .int .i64 (readP s.data.toList).2.2]) ∧ EntsOwn W.heap.size w' (readP s.data.toList).1 v ∧ Below W.heap.size W w') := read_any s hs
  have PA : Hid (∀ W, Calls Tryd.prog 9 #[.string s] W fun e w' => ∃ v, e = .returned (.tuple #[v, .int .i64 ((parseP s.data.toList).2.1 : Nat), .int .i64 ((parseP s.data.toList).2.2 : Nat)]) ∧ RawsOwn W.heap.size w' (parseP s.data.toList).1 v ∧ Below W.heap.size W w') := parse_any s hs
  have hbad := @readP_bad s.data.toList
  have hgood : (readP s.data.toList).2.1 = 0 → (readP s.data.toList).1.length = (parseP s.data.toList).1.length ∧ cntD (readP s.data.toList).1 (readP s.data.toList).1.length = 1 := fun h0 => by
    rcases readP_cases s.data.toList with ⟨_, h, _⟩ | ⟨h1, _⟩
    · obtain ⟨_, h2, R, h3, h4⟩ := read_in h
      have : (parseP s.data.toList).1 = R := by unfold parseP; rw [h3]
      rw [this]
      refine ⟨h4, ?_⟩
      unfold cntD
      rw [List.take_length]
      exact h2
    · exact absurd h0 h1
  obtain ⟨⟨l, e0, a0⟩, hX⟩ : ∃ X, X = readP s.data.toList := ⟨_, rfl⟩
  obtain ⟨⟨r, E, A⟩, hY⟩ : ∃ Y, Y = parseP s.data.toList := ⟨_, rfl⟩
  rw [← hX] at RD hbad hgood
  rw [← hY] at PA hbad hgood
  simp only at RD PA hbad hgood
  clear hX hY hs hP hp
  by_cases hE : E = 0
  · subst hE
    have HG : Hid (e0 = 0 → l.length = r.length ∧ cntD l l.length = 1) := hgood
    clear hbad hgood
    go_enter Tryd.func4, Tryd.ntmps4
    go_wp2_with fail
    refine (AW.out _ (Below.refl _ _)).mono ?_
    rintro e w1 ⟨rfl, hb1⟩
    have B1 : Hid (Below w.heap.size w w1) := hb1
    clear hb1
    go_wp2_with fail
    refine (RD.out _).mono ?_
    rintro e w2 ⟨v, rfl, ho2, hb2⟩
    have HE2 : EntsAt w2 v l := ents_sl ho2
    have B2 : Hid (Below w.heap.size w w2) := B1.out.trans (hb2.mono B1.out.size)
    clear hb2 ho2
    go_wp2_with fail
    refine (PA.out _).mono ?_
    rintro e w3 ⟨v3, rfl, ho3, hb3⟩
    have HE3 : EntsAt w3 v l := GSl.below HE2 hb3
    have B3 : Hid (Below w.heap.size w w3) := B2.out.trans (hb3.mono B2.out.size)
    obtain ⟨o3, cap3, rfl, -, hcap3⟩ := NSl.slice (raws_sl7 ho3)
    obtain ⟨o, cap, rfl, hc1, hc2⟩ := GSl.slice HE3
    obtain ⟨n, hn⟩ : ∃ n, n = l.length := ⟨_, rfl⟩
    rw [← hn] at HE3 HG hc1
    obtain ⟨m, hm⟩ : ∃ m, m = r.length := ⟨_, rfl⟩
    rw [← hm] at HG
    have HE : Hid (EntsAt w3 (.slice o n cap) l) := HE3
    rw [← hn, ← hm]
    unfold maxLen at hc2
    clear hb3 ho3 HE3 HE2 hn hm
    go_wp2_with fail
    go_loopw [9, 10] (fun c i wr => ∃ k : Nat, k ≤ n ∧ i = .int .i64 (k : Int) ∧ c = .int .i64 (cntD l k : Int) ∧ Below w3.heap.size w3 wr) (fun _ i _ => n - (intOf i).toNat)
    case atStart => exact ⟨0, Nat.zero_le _, rfl, rfl, Below.refl _ _⟩
    case round =>
      obtain ⟨k, hk, rfl, rfl, hb⟩ := hrel
      have HB : Hid (Below w3.heap.size w3 wr) := hb
      clear hb
      by_cases hlt : k < n
      · have hlt' : (k : Int) < (n : Int) := by omega
        obtain ⟨g, off, cur, ty, fr, x, rfl, hg, hc, hxk⟩ := (GSl.below HE.out HB.out).at k hlt
        have c0 : wr.cell? ⟨g, off + k * 12, none⟩ = some (.bool x.dflt) := by rw [cell_of_row _ _ _ _ _ _ hg]; exact hc 0 (by decide)
        have HN := cntD_next hxk
        have hcl := cntD_le l k
        obtain ⟨cc, hcc⟩ : ∃ cc, cc = cntD l k := ⟨_, rfl⟩
        rw [← hcc] at HN hcl ⊢
        clear hg hc hxk hcc
        cases hd : x.dflt with
        | true =>
          rw [hd] at c0 HN
          have HN' : Hid (cntD l (k + 1) = cc + 1) := HN
          clear HN hd
          go_wp2_with fail
          go_roundw
          case rel => exact ⟨k + 1, by omega, by go_num, by rw [HN'.out]; rfl, HB.out⟩
          case measure => simp [intOf]; omega
        | false =>
          rw [hd] at c0 HN
          have HN' : Hid (cntD l (k + 1) = cc) := HN
          clear HN hd
          go_wp2_with fail
          go_roundw
          case rel => exact ⟨k + 1, by omega, by go_num, by rw [HN'.out], HB.out⟩
          case measure => simp [intOf]; omega
      · have hlt' : ¬ (k : Int) < (n : Int) := by omega
        obtain rfl : k = n := by omega
        clear hlt
        by_cases he : e0 = 0
        · obtain ⟨h1, h2⟩ := HG.out he
          subst he
          subst h1
          rw [h2]
          clear h2
          go_wp2_with fail
          go_ret
          exact ⟨rfl, B3.out.trans (HB.out.mono B3.out.size)⟩
        · have hne : (e0 != 0) = true := by simp [he]
          clear he
          go_wp2_with fail
          go_ret
          exact ⟨rfl, B3.out.trans (HB.out.mono B3.out.size)⟩
  · obtain ⟨h1, h2, h3⟩ : l = [] ∧ e0 = (E : Int) ∧ a0 = (A : Int) := by
      have := hbad hE
      simp only [Prod.mk.injEq] at this
      exact this
    subst h2
    subst h3
    have hne : ((E : Int) != 0) = true := by simp; omega
    have e1 : ((E : Int) == (E : Int)) = true := by simp
    have e2 : ((A : Int) == (A : Int)) = true := by simp
    clear hbad hgood hE h1
    go_enter Tryd.func4, Tryd.ntmps4
    go_wp2_with fail
    refine (AW.out _ (Below.refl _ _)).mono ?_
    rintro e w1 ⟨rfl, hb1⟩
    have B1 : Hid (Below w.heap.size w w1) := hb1
    clear hb1
    go_wp2_with fail
    refine (RD.out _).mono ?_
    rintro e w2 ⟨v, rfl, ho2, hb2⟩
    have B2 : Hid (Below w.heap.size w w2) := B1.out.trans (hb2.mono B1.out.size)
    clear hb2 ho2
    go_wp2_with fail
    refine (PA.out _).mono ?_
    rintro e w3 ⟨v3, rfl, ho3, hb3⟩
    have B3 : Hid (Below w.heap.size w w3) := B2.out.trans (hb3.mono B2.out.size)
    clear hb3 ho3
    go_wp2_with fail
    go_ret
    exact ⟨rfl, B3.out⟩
end Go.Proofs.YtfamnloobmdhdabDoor
