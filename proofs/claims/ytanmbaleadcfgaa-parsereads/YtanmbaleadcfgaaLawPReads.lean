import Derived.Test.YtanmbaleadcfgaaRwParse
import Derived.Test.YtanmbaleadcfgaaRwSame
import Derived.Test.YtanmbaleadcfgaaParAwake
import Derived.Test.YtanmbaleadcfgaaParseWalk
namespace Go.Proofs.Ytanmbaleadcfgaa
open Go Go.RowKit

theorem nx_le {E : Nat} {T : List Tok} (hT : ∀ t ∈ T, t.pos ≤ E) (s : Ws) : (nx E T s).pos ≤ E := by
  cases h : T.drop s.i with
  | nil => rw [nx_nil h]; exact Nat.le_refl _
  | cons t T' => rw [(nx_cons h).1]; exact hT t (List.mem_of_mem_drop (by rw [h]; simp))
section
variable {E : Nat} {T : List Tok} (hT : ∀ t ∈ T, t.pos ≤ E)
include hT
theorem pw_wrong (e : Nat) {s : Ws} (h : s.pos ≤ E) : (wrong E T e s).pos ≤ E := by
  unfold wrong; split
  · exact nx_le hT s
  · exact h
theorem pw_kind (k : Nat) {s : Ws} (h : s.pos ≤ E) : (kindW E T k s).2.pos ≤ E := by
  unfold kindW stepW
  split
  · exact h
  · exact pw_wrong hT 8 h
theorem pw_fig {s : Ws} (h : s.pos ≤ E) : (figW E T s).2.pos ≤ E := pw_kind hT 2 h
theorem pw_dots : ∀ (n : Nat) {s : Ws}, s.pos ≤ E → (dotsW E T n s).2.pos ≤ E
  | 0, _, h => h
  | n + 1, _, h => pw_dots n (pw_fig hT (pw_kind hT 3 h))
theorem pw_opt (b : Bool) (k : Nat) {s : Ws} (h : s.pos ≤ E) : (optW E T b k s).2.pos ≤ E := by
  unfold optW
  split
  · exact pw_fig hT (s := stepW s) h
  · exact h
theorem pw_head (had : List Cla) {s : Ws} (h : s.pos ≤ E) : (headW E T had s).pos ≤ E := by
  unfold headW
  have h1 : (if !(isAddrW (nx E T s).text) && !(isPortW (nx E T s).text) && !((nx E T s).text == wProto) then wrong E T 8 s else s).pos ≤ E := by
    split
    · exact pw_wrong hT 8 h
    · exact h
  show (if _ then wrong E T 9 _ else _ : Ws).pos ≤ E
  split
  · exact pw_wrong hT 9 h1
  · exact h1
theorem pw_clause (had : List Cla) {s : Ws} (h : s.pos ≤ E) : (clauseW E T had s).2.pos ≤ E := by
  unfold clauseW
  refine pw_opt hT _ 5 (pw_opt hT _ 4 ?_)
  split
  · exact pw_dots hT 3 (pw_fig hT (pw_head hT had h))
  · exact pw_fig hT (pw_head hT had h)
theorem pw_clauses : ∀ (f : Nat) (had : List Cla) {s : Ws}, s.pos ≤ E → (clausesW E T f had s).2.pos ≤ E
  | 0, _, _, h => h
  | f + 1, had, s, h => by
    unfold clausesW
    split
    · exact pw_clauses f _ (pw_clause hT had h)
    · exact h
theorem pw_front {s : Ws} (h : s.pos ≤ E) : (frontW E T s).2.pos ≤ E := by
  unfold frontW
  split
  · exact h
  · exact pw_clauses hT _ _ (pw_fig hT h)
theorem pw_act {s : Ws} (h : s.pos ≤ E) : (actW E T s).2.pos ≤ E := by
  unfold actW
  split
  · exact h
  · refine pw_fig hT (s := stepW _) ?_
    show (if _ then s else wrong E T 8 s : Ws).pos ≤ E
    split
    · exact h
    · exact pw_wrong hT 8 h
theorem pw_end {s : Ws} (h : s.pos ≤ E) : (endW E T s).pos ≤ E := by
  unfold endW
  split
  · exact pw_wrong hT 8 h
  · exact h
theorem pw_row {s : Ws} (h : s.pos ≤ E) : (rowW E T s).2.pos ≤ E := pw_end hT (pw_act hT (pw_kind hT 6 (pw_front hT h)))
theorem pw_rows : ∀ (f : Nat) (had : List Raw) {s : Ws}, s.pos ≤ E → (rowsW E T f had s).2.pos ≤ E
  | 0, _, _, h => h
  | f + 1, had, s, h => by
    unfold rowsW
    split
    · split
      · exact pw_rows f had (s := stepW s) h
      · refine pw_rows f _ (pw_row hT ?_)
        split
        · exact pw_wrong hT 4 h
        · exact h
    · exact h
end
theorem lexT_end6 (S : List UInt8) (h0 : (lexT S).2.1 ≠ 0) : (lexT S).2.2 ≤ S.length := by
  unfold lexT at h0 ⊢
  by_cases h : 4096 < S.length
  · rw [if_pos h]; show 4096 ≤ _; omega
  · rw [if_neg h] at h0 ⊢
    cases hx : lexW 0 S with
    | ok l => rw [hx] at h0; exact absurd rfl h0
    | error x =>
      obtain ⟨e, p⟩ := x
      have := lexW_error S 0 e p hx
      show p ≤ _
      omega
theorem parseP_end (S : List UInt8) : (parseP S).2.1 = 0 ∨ ((parseP S).1 = [] ∧ (parseP S).2.2 ≤ S.length ∧ (parseP S).2.1 ≠ 0) := by
  by_cases hE : (lexT S).2.1 = 0
  · obtain ⟨T, hT, _, _, hP⟩ := parseP_ok hE
    have hd := does_rows S.length T (T.length + 1) [] ⟨0, 0, 0⟩ rfl
    rw [show T.drop (Ws.mk 0 0 0).i = T from rfl] at hd
    rw [hP]
    cases hx : takeL S.length (T.length + 1) [] T with
    | ok l => exact .inl rfl
    | error x =>
      rw [hx] at hd
      refine .inr ⟨rfl, ?_, hd.2.2⟩
      show x.2 ≤ _
      rw [← hd.2.1]
      refine pw_rows (fun t ht => ?_) _ _ (Nat.zero_le _)
      obtain ⟨i, hi⟩ := List.getElem?_of_mem ht
      have := ((lexW_places S 0 T hT).1 i t hi).2.1
      omega
  · rw [parseP_lex hE]
    exact .inr ⟨rfl, lexT_end6 S hE, hE⟩
theorem sameR_refl (x : Raw) : SameR true x x :=
  ⟨fun _ => rfl, rfl, ⟨rfl, fun _ => rfl⟩, rfl, ⟨rfl, fun _ => rfl⟩, rfl, fun k c d hc hd => by
    rw [hc] at hd
    obtain rfl := Option.some.inj hd
    exact ⟨rfl, fun _ => rfl, rfl, rfl, rfl, fun j f f' hf hf' => by
      rw [hf] at hf'
      obtain rfl := Option.some.inj hf'
      exact ⟨rfl, fun _ => rfl⟩⟩⟩

set_option maxHeartbeats 4000000 in
theorem lawPReads_any (s : ByteArray) (hs : s.size ≤ maxLen) (w : World) :
    Calls Try.prog 3 #[.string s] w fun e w' => e = .returned (.bool true) ∧ Below w.heap.size w w' := by
  have AW : Hid (∀ W, Calls Try.prog 6 #[] W fun e w' => e = .returned (.bool true) ∧ Below W.heap.size W w') := awake6_any
  have C1 : Hid (∀ W, Calls Try.prog 7 #[.string s] W fun e w' => ∃ v, e = .returned (.tuple #[v, .int .i64 ((parseP s.data.toList).2.1 : Nat), .int .i64 ((parseP s.data.toList).2.2 : Nat)]) ∧ RawsOwn W.heap.size w' (parseP s.data.toList).1 v ∧ Below W.heap.size W w') := parse_any s hs
  have C2 : Hid (∀ W, Calls Try.prog 8 #[.string s] W fun e w' => ∃ v, e = .returned (.tuple #[v, .int .i64 ((parseP s.data.toList).2.1 : Nat), .int .i64 ((parseP s.data.toList).2.2 : Nat)]) ∧ RawsOwn W.heap.size w' (parseP s.data.toList).1 v ∧ Below W.heap.size W w') := rparse_any s hs
  have hend := parseP_end s.data.toList
  rw [← Lib.size_eq] at hend
  obtain ⟨⟨L, E, A⟩, hT⟩ : ∃ T, T = parseP s.data.toList := ⟨_, rfl⟩
  rw [← hT] at C1 C2 hend
  simp only at C1 C2 hend
  have CS : Hid (∀ W va vb, RawsAt W va L → RawsAt W vb L → Calls Try.prog 9 #[va, vb, .bool true] W fun e w' => e = .returned (.bool true) ∧ Below W.heap.size W w') := fun W va vb ha hb => same_true va vb L L W ha hb rfl fun i x y hx hy => by
    rw [hx] at hy
    obtain rfl := Option.some.inj hy
    exact sameR_refl x
  have HEND : Hid (E = 0 ∨ (L = [] ∧ A ≤ s.size ∧ E ≠ 0)) := hend
  have eE : ((E : Int) == (E : Int)) = true := by simp
  have eA : ((A : Int) == (A : Int)) = true := by simp
  unfold maxLen at hs
  clear hT hend
  go_enter Try.func3, Try.ntmps3
  go_wp2_with fail
  refine (AW.out _).mono ?_
  rintro e w1 ⟨rfl, hb1⟩
  go_wp2_with fail
  refine (C1.out _).mono ?_
  rintro e w2 ⟨v, rfl, ho2, hb2⟩
  go_wp2_with fail
  refine (C2.out _).mono ?_
  rintro e w3 ⟨v', rfl, ho3, hb3⟩
  have R2 := raws_below (raws_sl ho2) hb3
  have R3 := raws_sl ho3
  have B3 : Below w.heap.size w w3 := (hb1.trans (hb2.mono hb1.size)).trans (hb3.mono (Nat.le_trans hb1.size hb2.size))
  have HR : Hid (_ ∧ _) := ⟨R2, R3⟩
  obtain ⟨o, cap, rfl, _, hcap⟩ := NSl.slice R2
  clear R2 R3 ho2 ho3 hb1 hb2 hb3 AW C1 C2
  go_wp2_with fail
  refine (CS.out _ _ _ HR.out.1 HR.out.2).mono ?_
  rintro e w4 ⟨rfl, hb4⟩
  have B4 := B3.trans (hb4.mono B3.size)
  clear B3 hb4
  rcases HEND.out with hE | ⟨hL, hA, hE⟩
  · have hE0 : ((E : Int) == 0) = true := by simp; omega
    clear hE
    go_wp2_with fail
    go_ret
    exact ⟨rfl, B4⟩
  · have hE0 : ((E : Int) == 0) = false := by simp; omega
    have hn0 : ((L.length : Int) == 0) = true := by rw [hL]; rfl
    have hA' : (A : Int) ≤ (s.size : Int) := by omega
    clear hE hL hA
    go_wp2_with fail
    go_ret
    exact ⟨rfl, B4⟩
end Go.Proofs.Ytanmbaleadcfgaa
