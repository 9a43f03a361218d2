import Derived.Test.YtanmbaleadcfgaaDoorPrPrint
import Derived.Test.YtanmbaleadcfgaaDoorParAwake
import Derived.Test.YtanmbaleadcfgaaDoorRwSameF
import Derived.Test.YtanmbaleadcfgaaDoorParseWalk
namespace Go.Proofs.YtanmbaleadcfgaaDoor
open Go Go.RowKit

theorem nodup_le {α : Type} [DecidableEq α] : ∀ (l S : List α), l.Pairwise (· ≠ ·) → (∀ x ∈ l, x ∈ S) → l.length ≤ S.length
  | [], S, _, _ => Nat.zero_le _
  | x :: l, S, hp, hs => by
    have hx := hs x (by simp)
    have h1 := nodup_le l (S.erase x) (List.pairwise_cons.1 hp).2 fun y hy => (List.mem_erase_of_ne (fun e => (List.pairwise_cons.1 hp).1 y hy e.symm)).2 (hs y (by simp [hy]))
    rw [List.length_erase_of_mem hx] at h1
    have : 0 < S.length := List.length_pos_of_mem hx
    simp
    omega
theorem okC_word {c : Cla} (h : okC c) : c.word ∈ [wSrc, wDst, wSport, wDport, wProto] ∧ c.nums.length ≤ 5 ∧ c.word.length ≤ 5 := by
  obtain ⟨_, h⟩ := h
  rcases h with ⟨h1, _, h3⟩ | ⟨h1, _, _, h3⟩ | ⟨h1, _, _, h3⟩
  · unfold isAddrW at h1
    simp only [Bool.or_eq_true, beq_iff_eq] at h1
    rcases h1 with h1 | h1 <;> (rw [h1, h3]; refine ⟨by decide, by split <;> decide, by decide⟩)
  · unfold isPortW at h1
    simp only [Bool.or_eq_true, beq_iff_eq] at h1
    rcases h1 with h1 | h1 <;> (rw [h1, h3]; refine ⟨by decide, by split <;> decide, by decide⟩)
  · rw [h1, h3]
    exact ⟨by decide, by decide, by decide⟩
theorem okR_wt {x : Raw} (h : okR x) : wtR x ≤ 56 := by
  have h5 : x.clauses.length ≤ 5 := by
    have := nodup_le (x.clauses.map (·.word)) [wSrc, wDst, wSport, wDport, wProto] (List.pairwise_map.2 h.apart) fun y hy => by
      obtain ⟨c, hc, rfl⟩ := List.mem_map.1 hy
      exact (okC_word (h.clauses c hc)).1
    rw [List.length_map] at this
    exact this
  unfold wtR
  have hsum : ∀ l : List Cla, (∀ c ∈ l, okC c) → (l.map fun c => 1 + wtC c).sum ≤ 11 * l.length := by
    intro l
    induction l with
    | nil => intro _; simp
    | cons c l ih =>
      intro hl
      have h1 := ih fun d hd => hl d (by simp [hd])
      have h2 := okC_word (hl c (by simp))
      unfold wtC at h1 ⊢
      rw [List.map_cons, List.sum_cons, List.length_cons]
      omega
  have := hsum x.clauses h.clauses
  omega
theorem okF_N {f : Fig} (h : okF f) : okN f.n := ⟨by have := h.1; omega, by have := h.2; omega⟩
theorem okR_N {x : Raw} (h : okR x) : okNs x := ⟨okF_N h.prio, okF_N h.port, fun c hc f hf => okF_N ((h.clauses c hc).1 f hf)⟩
theorem print_small {l : List Raw} (h : ∀ x ∈ l, okR x) (h64 : l.length ≤ 64) : (printT l).length ≤ 700000 := by
  have h1 := printT_len l fun x hx => okR_N (h x hx)
  have hsum : ∀ l : List Raw, (∀ x ∈ l, okR x) → (l.map wtR).sum ≤ 56 * l.length := by
    intro l
    induction l with
    | nil => intro _; simp
    | cons x l ih =>
      intro hl
      have h1 := ih fun d hd => hl d (by simp [hd])
      have h2 := okR_wt (hl x (by simp))
      rw [List.map_cons, List.sum_cons, List.length_cons]
      omega
  have := hsum l h
  omega
theorem same_of {l l' : List Raw} (h : l'.map clR = l.map clR) : l.length = l'.length ∧ ∀ (i : Nat) (x y : Raw), l[i]? = some x → l'[i]? = some y → SameR false x y := by
  have hl := congrArg List.length h
  rw [List.length_map, List.length_map] at hl
  refine ⟨hl.symm, fun i x y hx hy => ?_⟩
  have e : clR y = clR x := by
    have := congrArg (fun z => z[i]?) h
    simp only [List.getElem?_map, hx, hy, Option.map_some, Option.some.injEq] at this
    exact this
  unfold clR at e
  simp only [Prod.mk.injEq] at e
  obtain ⟨e1, e2, e3, e4, e5⟩ := e
  have hcl := congrArg List.length e3
  rw [List.length_map, List.length_map] at hcl
  refine ⟨fun hq => (by cases hq), e1.symm, ⟨e2.symm, fun hq => by cases hq⟩, e4.symm, ⟨e5.symm, fun hq => by cases hq⟩, hcl.symm, fun k c d hc hd => ?_⟩
  have f : clC d = clC c := by
    have := congrArg (fun z => z[k]?) e3
    simp only [List.getElem?_map, hc, hd, Option.map_some, Option.some.injEq] at this
    exact this
  unfold clC at f
  simp only [Prod.mk.injEq] at f
  obtain ⟨f1, f2, f3, f4⟩ := f
  have hnl := congrArg List.length f2
  rw [List.length_map, List.length_map] at hnl
  refine ⟨f1.symm, fun hq => (by cases hq), f3.symm, f4.symm, hnl.symm, fun j a b ha hb => ⟨?_, fun hq => by cases hq⟩⟩
  have := congrArg (fun z => z[j]?) f2
  simp only [List.getElem?_map, ha, hb, Option.map_some, Option.some.injEq] at this
  exact this.symm
theorem parseP_zero6 {S : List UInt8} (h : (parseP S).2.1 = 0) : parseT S = .ok (parseP S).1 := by
  unfold parseP at h ⊢
  cases hx : parseT S with
  | ok l => rfl
  | error x =>
    rw [hx] at h
    exfalso
    have h' : x.1 = 0 := h
    unfold parseT at hx
    by_cases h4 : 4096 < S.length
    · rw [if_pos h4] at hx; cases hx; exact absurd h' (by decide)
    · rw [if_neg h4] at hx
      cases hl : lexW 0 S with
      | error y =>
        rw [hl] at hx
        cases hx
        obtain ⟨e, p⟩ := x
        have := lexW_error S 0 e p hl
        have h2 : e = 0 := h'
        omega
      | ok T =>
        rw [hl] at hx
        have hx' : takeL S.length (T.length + 1) [] T = .error x := hx
        have := does_rows S.length T (T.length + 1) [] ⟨0, 0, 0⟩ rfl
        rw [show T.drop (Ws.mk 0 0 0).i = T from rfl, hx'] at this
        exact this.2.2 h'
theorem parseP_nil6 {S : List UInt8} (h : (parseP S).2.1 ≠ 0) : (parseP S).1 = [] := by
  unfold parseP at h ⊢
  cases hx : parseT S with
  | ok l => rw [hx] at h; exact absurd rfl h
  | error x => rfl

set_option maxHeartbeats 4000000 in
set_option maxRecDepth 100000 in
theorem lawPBack_any (s : ByteArray) (hs : s.size ≤ maxLen) (w : World) (htab : Lib.TabIs Tryd.prog w "internal/strconv.uint64pow10" .u64 Lib.pow10Tab) :
    Calls Tryd.prog 3 #[.string s] w fun e w' => e = .returned (.bool true) ∧ Below w.heap.size w w' := by
  have AW : Hid (∀ W, Calls Tryd.prog 5 #[] W fun e w' => e = .returned (.bool true) ∧ Below W.heap.size W w') := awake6_any
  have C1 : Hid (∀ W, Calls Tryd.prog 6 #[.string s] W fun e w' => ∃ v, e = .returned (.tuple #[v, .int .i64 ((parseP s.data.toList).2.1 : Nat), .int .i64 ((parseP s.data.toList).2.2 : Nat)]) ∧ RawsOwn W.heap.size w' (parseP s.data.toList).1 v ∧ Below W.heap.size W w') := parse_any s hs
  have TB : Hid (∀ W, Below w.heap.size w W → Lib.TabIs Tryd.prog W "internal/strconv.uint64pow10" .u64 Lib.pow10Tab) := fun W hb => (Lib.tabBelow_of_tabIs htab) W hb
  clear htab
  obtain ⟨S, hS⟩ : ∃ S, S = s.data.toList := ⟨_, rfl⟩
  rw [← hS] at C1
  clear hS hs
  by_cases hE : (parseP S).2.1 = 0
  · have hP := parseP_zero6 hE
    obtain ⟨⟨L, E, A⟩, hL⟩ : ∃ x, x = parseP S := ⟨_, rfl⟩
    rw [← hL] at C1 hE hP
    simp only at C1 hE hP
    subst hE
    obtain ⟨hokR, h64⟩ := parseT_in hP
    have CPr : Hid (∀ W v, RawsAt W v L → Below w.heap.size w W → Calls Tryd.prog 7 #[v] W fun e w' => e = .returned (.string ⟨(printT L).toArray⟩) ∧ Below W.heap.size W w') := fun W v hr hb => print_any L v W hr (fun x hx => okR_N (hokR x hx)) (fun x hx c hc => Nat.le_trans (okC_word ((hokR x hx).clauses c hc)).2.1 (by decide)) (print_small hokR h64) (TB.out W hb)
    have hsz : (⟨(printT L).toArray⟩ : ByteArray).size = (printT L).length := by rw [Lib.size_eq]
    by_cases h4 : 4096 < (printT L).length
    · obtain ⟨P, hPP⟩ : ∃ P, P = (⟨(printT L).toArray⟩ : ByteArray) := ⟨_, rfl⟩
      rw [← hPP] at CPr hsz
      have h4' : (P.size : Int) > 4096 := by omega
      clear hokR h64 hP hL hsz h4 hPP
      go_enter Tryd.func3, Tryd.ntmps3
      go_wp2_with fail
      refine (AW.out _).mono ?_
      rintro e w1 ⟨rfl, hb1⟩
      go_wp2_with fail
      refine (C1.out _).mono ?_
      rintro e w2 ⟨v, rfl, ho2, hb2⟩
      have B2 := hb1.trans (hb2.mono hb1.size)
      have HR2 : Hid (RawsAt w2 v L) := raws_sl ho2
      clear ho2 hb1 hb2
      go_wp2_with fail
      refine (CPr.out _ _ HR2.out B2).mono ?_
      rintro e w3 ⟨rfl, hb3⟩
      go_wp2_with fail
      go_ret
      exact ⟨rfl, B2.trans (hb3.mono B2.size)⟩
    · obtain ⟨L', e1, e2, e3⟩ := parse_back hP (by omega)
      have hP' := parseT_in e1
      have CPr2 : Hid (∀ W v, RawsAt W v L' → Below w.heap.size w W → Calls Tryd.prog 7 #[v] W fun e w' => e = .returned (.string ⟨(printT L).toArray⟩) ∧ Below W.heap.size W w') := fun W v hr hb => by
        have := print_any L' v W hr (fun x hx => okR_N (hP'.1 x hx)) (fun x hx c hc => Nat.le_trans (okC_word ((hP'.1 x hx).clauses c hc)).2.1 (by decide)) (print_small hP'.1 hP'.2) (TB.out W hb)
        rw [e3] at this
        exact this
      have C2 : Hid (∀ W, Calls Tryd.prog 6 #[.string ⟨(printT L).toArray⟩] W fun e w' => ∃ v a, e = .returned (.tuple #[v, .int .i64 0, .int .i64 (a : Int)]) ∧ RawsOwn W.heap.size w' L' v ∧ Below W.heap.size W w') := fun W => by
        have := parse_any ⟨(printT L).toArray⟩ (by rw [hsz]; unfold maxLen; omega) W
        rw [show (⟨(printT L).toArray⟩ : ByteArray).data.toList = printT L from rfl, show parseP (printT L) = (L', 0, 0) by unfold parseP; rw [e1]] at this
        refine this.mono ?_
        rintro e w' ⟨v, rfl, h1, h2⟩
        exact ⟨v, 0, rfl, h1, h2⟩
      have hsm := same_of e2
      have CS : Hid (∀ W va vb, RawsAt W va L → RawsAt W vb L' → Calls Tryd.prog 8 #[va, vb, .bool false] W fun e w' => e = .returned (.bool true) ∧ Below W.heap.size W w') := fun W va vb ha hb => same_false va vb L L' W ha hb hsm.1 hsm.2
      obtain ⟨P, hPP⟩ : ∃ P, P = (⟨(printT L).toArray⟩ : ByteArray) := ⟨_, rfl⟩
      rw [← hPP] at CPr CPr2 C2 hsz
      have h4' : ¬ (P.size : Int) > 4096 := by omega
      have ePP : (P.data.toList == P.data.toList) = true := by simp
      clear hokR h64 hP hL hsz h4 hPP e1 e2 e3 hP' hsm
      go_enter Tryd.func3, Tryd.ntmps3
      go_wp2_with fail
      refine (AW.out _).mono ?_
      rintro e w1 ⟨rfl, hb1⟩
      go_wp2_with fail
      refine (C1.out _).mono ?_
      rintro e w2 ⟨v, rfl, ho2, hb2⟩
      have B2 := hb1.trans (hb2.mono hb1.size)
      have HR2 : Hid (RawsAt w2 v L) := raws_sl ho2
      clear ho2 hb1 hb2
      go_wp2_with fail
      refine (CPr.out _ _ HR2.out B2).mono ?_
      rintro e w3 ⟨rfl, hb3⟩
      have B3 := B2.trans (hb3.mono B2.size)
      have HR3 : Hid (RawsAt w3 v L) := raws_below HR2.out hb3
      clear hb3 B2
      go_wp2_with fail
      refine (C2.out _).mono ?_
      rintro e w4 ⟨v', a', rfl, ho4, hb4⟩
      have B4 := B3.trans (hb4.mono B3.size)
      have HR4 : Hid (RawsAt w4 v L ∧ RawsAt w4 v' L') := ⟨raws_below HR3.out hb4, raws_sl ho4⟩
      clear hb4 B3 ho4
      go_wp2_with fail
      refine (CS.out _ _ _ HR4.out.1 HR4.out.2).mono ?_
      rintro e w5 ⟨rfl, hb5⟩
      have B5 := B4.trans (hb5.mono B4.size)
      have HR5 : Hid (RawsAt w5 v' L') := raws_below HR4.out.2 hb5
      clear hb5 B4
      go_wp2_with fail
      refine (CPr2.out _ _ HR5.out B5).mono ?_
      rintro e w6 ⟨rfl, hb6⟩
      have B6 := B5.trans (hb6.mono B5.size)
      clear hb6 B5
      go_wp2_with fail
      go_ret
      exact ⟨by simp, B6⟩
  · have hnil := parseP_nil6 hE
    obtain ⟨⟨L, E, A⟩, hL⟩ : ∃ x, x = parseP S := ⟨_, rfl⟩
    rw [← hL] at C1 hE hnil
    simp only at C1 hE hnil
    subst hnil
    have hne : ((E : Int) != 0) = true := by simp; omega
    clear hE hL
    go_enter Tryd.func3, Tryd.ntmps3
    go_wp2_with fail
    refine (AW.out _).mono ?_
    rintro e w1 ⟨rfl, hb1⟩
    go_wp2_with fail
    refine (C1.out _).mono ?_
    rintro e w2 ⟨v, rfl, ho2, hb2⟩
    obtain ⟨o, cap, rfl, _, _⟩ := NSl.slice (raws_sl ho2)
    have B2 := hb1.trans (hb2.mono hb1.size)
    clear ho2 hb1 hb2
    go_wp2_with fail
    go_ret
    exact ⟨rfl, B2⟩
end Go.Proofs.YtanmbaleadcfgaaDoor
