import Derived.Test.YtfbphblodankmaaRows
import Derived.Test.YtfbphblodankmaaAwake
import Derived.ProofKit
import Derived.OpenShut
import Derived.Carry
namespace Go.Proofs.Ytfbphblodankmaa
open Go.ChangeShapes Go.WideShapes Go.ChangeAt Go.WideMaps Go.WideElems Go.RowKit
set_option maxRecDepth 20000

theorem own : ownKnob Try.prog.godebug = none := by kernel_rfl
theorem laidOut : laidOutB Try.prog = true := by kernel_rfl

theorem bytes_of {H : Type} {enc : TypeId × Value → H} {W : World} {base : Nat} {spare : Nat → Bool} {held : Bool} {fuel : Nat} {cs : List Value} {x : DataW H × List MemPlace} (hl : cs.length = 13)
    (h : DataW.trod enc Try.prog W base spare held fuel 34 cs = some x) : ∃ L : List Int, cs = L.map (Value.int .u8) ∧ Byt L := by
  have c5 : Try.prog.cellsOf 5 = 1 := by kernel_rfl
  obtain ⟨xs, m, rfl, hx, hlen, hn, hel⟩ := DataW.trod_array Try.underlying34 h
  have each : ∀ i, i < 13 → ∃ z : Int, cs[i]? = some (.int .u8 z) ∧ 0 ≤ z ∧ z < 256 := fun i hi => by
    have h1 := hel i hi
    rw [List.getElem?_eq_getElem (show i < xs.length by omega), c5, Nat.mul_one] at h1
    obtain ⟨z, ez, _, wz⟩ := DataW.trod_int Try.underlying5 h1
    refine ⟨z, ?_, ?_⟩
    · have := congrArg (·[0]?) ez
      simpa [List.getElem?_take, List.getElem?_drop] using this
    · have := bounds_u8 wz
      omega
  refine ⟨cs.map intOf, ?_, by simp [hl], fun k => ?_⟩
  · apply List.ext_getElem?
    intro k
    rcases Nat.lt_or_ge k 13 with hk | hk
    · obtain ⟨z, hz, _⟩ := each k hk
      simp only [List.getElem?_map, hz]
      rfl
    · rw [List.getElem?_eq_none (by omega), List.getElem?_eq_none (by simpa [hl] using hk)]
  · rcases Nat.lt_or_ge k 13 with hk | hk
    · obtain ⟨z, hz, hb⟩ := each k hk
      rw [List.getD, List.getElem?_map, hz]
      exact hb
    · rw [List.getD, List.getElem?_eq_none (by simpa [hl] using hk)]
      decide

/-- A header that comes in: thirteen bytes. -/
theorem open_head {H : Type} {enc : TypeId × Value → H} {W : World} {r : Reach} {b0 base : Nat} {spare : Nat → Bool} {held : Bool} {v : Value} {d : DataW H} {p : List MemPlace}
    (hok : Value.okWide Try.prog W r b0 34 v) (h : DataW.Trod enc Try.prog W base spare held 34 v d p) :
    ∃ L : List Int, v = .agg (hv L) ∧ Byt L := by
  have c : Try.prog.cellsOf 34 = 13 := by kernel_rfl
  simp only [Value.okWide, Try.underlying34] at hok
  obtain ⟨cs, rfl, hsz, _⟩ := hok
  obtain ⟨fuel, hf⟩ := h
  obtain ⟨L, hL, hb⟩ := bytes_of (by simp only [Value.cells, Array.length_toList]; rw [hsz, c]) hf
  refine ⟨L, ?_, hb⟩
  unfold hv
  rw [← hL]
  simp [Value.cells]

/-- A cube that comes in. -/
theorem open_cube {H : Type} {enc : TypeId × Value → H} {W : World} {r : Reach} {b0 base : Nat} {spare : Nat → Bool} {held : Bool} {v : Value} {d : DataW H} {p : List MemPlace}
    (hok : Value.okWide Try.prog W r b0 36 v) (h : DataW.Trod enc Try.prog W base spare held 36 v d p) :
    ∃ V M : List Int, v = .agg (cv V M) ∧ Byt V ∧ Byt M := by
  have c : Try.prog.cellsOf 36 = 26 := by kernel_rfl
  have c13 : Try.prog.cellsOf 34 = 13 := by kernel_rfl
  simp only [Value.okWide, Try.underlying36] at hok
  obtain ⟨cs, rfl, hsz, _⟩ := hok
  rw [c] at hsz
  obtain ⟨fuel, hf⟩ := h
  obtain ⟨y0, y1, k, hy, _, t0, t1⟩ := trod_struct2 Try.underlying36 hf
  simp only [Value.cells] at t0 t1
  rw [c13] at t0 t1
  obtain ⟨V, hV, bV⟩ := bytes_of (by simp; omega) t0
  obtain ⟨M, hM, bM⟩ := bytes_of (by simp; omega) t1
  refine ⟨V, M, ?_, bV, bM⟩
  congr 1
  unfold cv hv
  rw [List.map_append, ← hV, ← hM]
  apply Array.ext'
  simp only [List.drop_zero]
  rw [List.take_of_length_le (l := List.drop 13 cs.toList) (by simp; omega), List.take_append_drop]
end Go.Proofs.Ytfbphblodankmaa
