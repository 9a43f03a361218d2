import Derived.Test.YtnppfibojcgkmaaOpenP
import Derived.Test.YtnppfibojcgkmaaScSum
import Derived.Deep.Slices
import Derived.SizedLaws
namespace Go.Proofs.Ytnppfibojcgkmaa
open Go.ChangeShapes Go.WideShapes Go.ChangeAt Go.WideMaps Go.WideElems Go.RowKit
set_option maxRecDepth 20000

theorem trod_floatF {H : Type} {enc : TypeId × Value → H} {w : World} {base : Nat} {spare : Nat → Bool} {held : Bool} {fuel : Nat} {cs : List Value} {x : DataW H × List MemPlace} (h : DataW.trod enc Try.prog w base spare held fuel 22 cs = some x) : ∃ b, cs = [.float .f64 b] ∧ (Lit.float .f64 b).wf = true := by
  cases fuel with
  | zero => simp [DataW.trod] at h
  | succ n =>
    unfold DataW.trod at h
    rw [Try.underlying22] at h
    split at h <;> simp_all
theorem wd_wf {b : Nat} (h : (Lit.float .f64 b).wf = true) : Wd b := by
  rw [wd_iff]
  simpa [Lit.wf] using h
/-- Floats that come in. -/
theorem open_floats {H : Type} {enc : TypeId × Value → H} {W : World} {r : Reach} {b0 base : Nat} {spare : Nat → Bool} {held : Bool} {v : Value} {d : DataW H} {p : List MemPlace}
    (hok : Value.okWide Try.prog W r b0 29 v) (h : DataW.Trod enc Try.prog W base spare held 29 v d p) :
    ∃ l, FSl W v l ∧ AllW l := by
  have c1 : Try.prog.cellsOf 22 = 1 := by kernel_rfl
  obtain ⟨fuel, hf⟩ := h
  have hv1 : v.cells.toList = [v] := by
    simp only [Value.okWide, Cell.okWide, Cell.ok, Try.underlying29] at hok
    cases v <;> simp_all [Value.cells]
  rw [hv1] at hf
  rcases Deep.open_slice1 Try.underlying29 c1 hf with ⟨h0, _⟩ | ⟨a, len, cap, m, n, V, D, Pl, h0, hb, hl, hm, hmm, hx, hc⟩
  · obtain rfl : v = .slice none 0 0 := by simpa using h0
    exact ⟨[], vsl_nil W, fun x hx => by simp at hx⟩
  · obtain rfl : v = .slice (some a) len cap := by simpa using h0
    have hlm : len ≤ m := by rw [hmm]; split <;> omega
    have each : ∀ i, i < len → ∃ c : Nat, W.cell? (a.add i) = some (.float .f64 c) ∧ Wd c := fun i hi => by
      obtain ⟨h1, h2⟩ := hc i (by omega)
      obtain ⟨z, h3, h4⟩ := trod_floatF h2
      exact ⟨z, by rw [h1, show V i = .float .f64 z by simpa using h3], wd_wf h4⟩
    obtain ⟨f, hf⟩ := Deep.choose_lt each
    have hll : ((List.range len).map f).length = len := by simp
    refine ⟨(List.range len).map f, ⟨some a, cap, by rw [flV_len, hll], by rw [flV_len, hll]; exact hl, hm, (fun e => by cases e), fun i hi => ?_⟩, fun x hx => ?_⟩
    · rw [flV_len, hll] at hi
      have h1 := (hf i hi).1
      have h0' := (hf 0 (by omega)).1
      obtain ⟨g, off, spt⟩ := a
      have hsp : spt = none := by
        unfold World.cell? at h0'
        split at h0'
        · split at h0'
          · cases h0'
          · rename_i hs
            simpa [Addr.add] using hs
        · cases h0'
      subst hsp
      rw [add_formV] at h1
      unfold World.cell? at h1
      split at h1
      · rename_i cur t fr hq
        simp only at h1
        refine ⟨g, off, cur, t, fr, rfl, hq, ?_⟩
        unfold flV
        simpa using h1
      · cases h1
    · obtain ⟨i, hi, rfl⟩ := List.mem_map.1 hx
      exact (hf i (List.mem_range.1 hi)).2
end Go.Proofs.Ytnppfibojcgkmaa
