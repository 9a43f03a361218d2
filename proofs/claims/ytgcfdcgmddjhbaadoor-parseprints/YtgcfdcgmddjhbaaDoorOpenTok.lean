import Derived.Test.YtgcfdcgmddjhbaaDoorOpenAny
import Derived.Test.YtgcfdcgmddjhbaaDoorTok
namespace Go.Proofs.YtgcfdcgmddjhbaaDoor
open Go.ChangeShapes Go.WideShapes Go.ChangeAt Go.WideMaps Go.WideElems Go.RowKit
set_option maxRecDepth 20000

theorem take_one {cs : List Value} {i : Nat} {v : Value} (h : (cs.drop i).take 1 = [v]) : cs[i]? = some v := by
  have := congrArg List.head? h
  rw [List.head?_take, if_neg (by decide), List.head?_drop] at this
  simpa using this
/-- The one cell of a field. -/
theorem field_int {P : Program} {H : Type} {enc : TypeId × Value → H} {W : World} {base : Nat} {spare : Nat → Bool} {held : Bool} {n : Nat} {t : TypeId} {cs : List Value} {y : Option (DataW H × List MemPlace)} {i : Nat} {k : IntKind} (ht : P.underlying t = some (.int k)) (hc : P.cellsOf t = 1)
    (h : DataW.trod enc P W base spare held n t ((cs.drop i).take (P.cellsOf t)) = y) (hy : y.isSome = true) : ∃ z : Int, cs[i]? = some (.int k z) ∧ (Lit.int k z).wf = true := by
  obtain ⟨y', rfl⟩ := Option.isSome_iff_exists.1 hy
  obtain ⟨z, h1, _, h3⟩ := DataW.trod_int ht h
  rw [hc] at h1
  exact ⟨z, take_one h1, h3⟩
theorem field_bool {P : Program} {H : Type} {enc : TypeId × Value → H} {W : World} {base : Nat} {spare : Nat → Bool} {held : Bool} {n : Nat} {t : TypeId} {cs : List Value} {y : Option (DataW H × List MemPlace)} {i : Nat} (ht : P.underlying t = some .bool) (hc : P.cellsOf t = 1)
    (h : DataW.trod enc P W base spare held n t ((cs.drop i).take (P.cellsOf t)) = y) (hy : y.isSome = true) : ∃ b : Bool, cs[i]? = some (.bool b) := by
  obtain ⟨y', rfl⟩ := Option.isSome_iff_exists.1 hy
  obtain ⟨b, h1, _⟩ := DataW.trod_bool ht h
  rw [hc] at h1
  exact ⟨b, take_one h1⟩
theorem field_string {P : Program} {H : Type} {enc : TypeId × Value → H} {W : World} {base : Nat} {spare : Nat → Bool} {held : Bool} {n : Nat} {t : TypeId} {cs : List Value} {y : Option (DataW H × List MemPlace)} {i : Nat} (ht : P.underlying t = some .string) (hc : P.cellsOf t = 1)
    (h : DataW.trod enc P W base spare held n t ((cs.drop i).take (P.cellsOf t)) = y) (hy : y.isSome = true) : ∃ s : ByteArray, cs[i]? = some (.string s) ∧ s.size ≤ maxLen := by
  obtain ⟨y', rfl⟩ := Option.isSome_iff_exists.1 hy
  obtain ⟨s, h1, _, h3⟩ := DataW.trod_string ht h
  rw [hc] at h1
  exact ⟨s, take_one h1, h3⟩
/-- A field that is a slice: its cell, and what is read of it. -/
theorem field_slice {P : Program} {H : Type} {enc : TypeId × Value → H} {W : World} {base : Nat} {spare : Nat → Bool} {held : Bool} {n : Nat} {t e : TypeId} {cs : List Value} {y : Option (DataW H × List MemPlace)} {i : Nat} (ht : P.underlying t = some (.slice e)) (hc : P.cellsOf t = 1)
    (h : DataW.trod enc P W base spare held n t ((cs.drop i).take (P.cellsOf t)) = y) (hy : y.isSome = true) : ∃ (v : Value) (x : DataW H × List MemPlace), cs[i]? = some v ∧ DataW.trod enc P W base spare held n t [v] = some x := by
  obtain ⟨y', rfl⟩ := Option.isSome_iff_exists.1 hy
  have hv : ∃ v, (cs.drop i).take (P.cellsOf t) = [v] := by
    rcases DataW.trod_slice ht h with ⟨e1, _⟩ | ⟨a, len, cap, _, _, _, _, e1, _⟩
    · exact ⟨_, e1⟩
    · exact ⟨_, e1⟩
  obtain ⟨v, hv⟩ := hv
  rw [hv] at h
  rw [hc] at hv
  exact ⟨v, y', take_one hv, h⟩
theorem xs_some {α : Type} {xs : List α} {n i : Nat} (h : xs.length = n) (hi : i < n) : (xs[i]?).isSome = true := by
  rw [List.getElem?_eq_getElem (by omega)]; rfl

/-- A token that comes in. -/
theorem tok_of {H : Type} {enc : TypeId × Value → H} {W : World} {base : Nat} {spare : Nat → Bool} {held : Bool} (fuel : Nat) (cs : List Value) (x : DataW H × List MemPlace) (hl : cs.length = 4)
    (h : DataW.trod enc Tryd.prog W base spare held fuel 52 cs = some x) : ∃ c : Int × Int × ByteArray × Int, cs = (tv c.1 c.2.1 c.2.2.1 c.2.2.2).toList ∧ c.2.2.1.size ≤ maxLen := by
  have c3 : Tryd.prog.cellsOf 3 = 1 := by kernel_rfl
  have c9 : Tryd.prog.cellsOf 9 = 1 := by kernel_rfl
  obtain ⟨xs, n, _, _, _, hxl, hf⟩ := DataW.trod_struct Tryd.underlying52 h
  obtain ⟨k, h0, _⟩ := field_int Tryd.underlying3 c3 (hf 0 _ rfl) (xs_some hxl (by decide))
  obtain ⟨p, h1, _⟩ := field_int Tryd.underlying3 c3 (hf 1 _ rfl) (xs_some hxl (by decide))
  obtain ⟨t, h2, hs⟩ := field_string Tryd.underlying9 c9 (hf 2 _ rfl) (xs_some hxl (by decide))
  obtain ⟨m, h3, _⟩ := field_int Tryd.underlying3 c3 (hf 3 _ rfl) (xs_some hxl (by decide))
  refine ⟨(k, p, t, m), ?_, hs⟩
  match cs, hl with
  | [a, b, c, d], _ =>
    obtain rfl : a = .int .i64 k := by simpa using h0
    obtain rfl : b = .int .i64 p := by simpa using h1
    obtain rfl : c = .string t := by simpa using h2
    obtain rfl : d = .int .i64 m := by simpa using h3
    rfl
end Go.Proofs.YtgcfdcgmddjhbaaDoor
