import Derived.Test.YtfbphblodankmaaOpen
import Derived.Test.YtfbphblodankmaaWMem
import Derived.Deep.Slices
import Derived.SizedLaws
namespace Go.Proofs.Ytfbphblodankmaa
open Go.ChangeShapes Go.WideShapes Go.ChangeAt Go.WideMaps Go.WideElems Go.RowKit
set_option maxRecDepth 20000

/-- A slice of bytes that comes in, and what is read of it. -/
theorem open_bytes {H : Type} {enc : TypeId × Value → H} {W : World} {r : Reach} {b0 base : Nat} {spare : Nat → Bool} {held : Bool} {v : Value} {d : DataW H} {p : List MemPlace}
    (hok : Value.okWide Try.prog W r b0 22 v) (h : DataW.Trod enc Try.prog W base spare held 22 v d p) :
    ∃ L, BSl W v L ∧ (L = [] ∨ ∃ es sp, d = .slice es sp ∧ es.length = L.length) := by
  have c1 : Try.prog.cellsOf 5 = 1 := by kernel_rfl
  obtain ⟨fuel, hf⟩ := h
  have hv1 : v.cells.toList = [v] := by
    simp only [Value.okWide, Cell.okWide, Cell.ok, Try.underlying22] at hok
    cases v <;> simp_all [Value.cells]
  rw [hv1] at hf
  rcases Deep.open_slice1 Try.underlying22 c1 hf with ⟨h0, _⟩ | ⟨a, len, cap, m, n, V, D, Pl, h0, hb, hl, hm, hmm, hx, hc⟩
  · obtain rfl : v = .slice none 0 0 := by simpa using h0
    exact ⟨[], bsl_nil W, .inl rfl⟩
  · obtain rfl : v = .slice (some a) len cap := by simpa using h0
    have hlm : len ≤ m := by rw [hmm]; split <;> omega
    have each : ∀ i, i < len → ∃ c : UInt8, W.cell? (a.add i) = some (.int .u8 (c.toNat : Int)) := fun i hi => by
      obtain ⟨h1, h2⟩ := hc i (by omega)
      obtain ⟨z, h3, _, h4⟩ := DataW.trod_int Try.underlying5 h2
      have hz := bounds_u8 h4
      refine ⟨UInt8.ofNat z.toNat, ?_⟩
      rw [h1, show V i = .int .u8 z by simpa using h3, UInt8.toNat_ofNat']
      congr 2
      omega
    obtain ⟨f, hf⟩ := Deep.choose_lt each
    have hll : ((List.range len).map f).length = len := by simp
    refine ⟨(List.range len).map f, ⟨some a, cap, by rw [hll], by rw [hll]; exact hl, hm, (fun e => by cases e), fun i hi => ?_⟩, .inr ⟨_, _, congrArg Prod.fst hx, by simp⟩⟩
    rw [hll] at hi
    have h1 := hf i hi
    have h0' := hf 0 (by omega)
    obtain ⟨g, off, spt⟩ := a
    have hsp : spt = none := by
      unfold World.cell? at h0'
      split at h0'
      · split at h0'
        · cases h0'
        · rename_i hs
          simpa [Addr.add] using hs
      · cases h0'
    subst hsp
    rw [add_form] at h1
    unfold World.cell? at h1
    split at h1
    · rename_i cur t fr hq
      simp only at h1
      refine ⟨g, off, cur, t, fr, rfl, hq, ?_⟩
      simpa using h1
    · cases h1
/-- How long it can be. -/
theorem bytes_reach {H : Type} {ts : List TypeId} {ds : List (DataW H)} (h : (DataW.weightsEach Try.prog ts ds).all (· ≤ reachBytes) = true) {j : Nat} {d : DataW H} {L : List UInt8} (ht : ts[j]? = some 22) (hd : ds[j]? = some d)
    (hL : L = [] ∨ ∃ es sp, d = .slice es sp ∧ es.length = L.length) : L.length ≤ 140737488351232 := by
  rcases hL with rfl | ⟨es, sp, rfl, h1⟩
  · simp
  · have := sized_slice h ht hd Try.underlying22
    rw [show Try.prog.bytesOf 5 = 1 by kernel_rfl, Nat.mul_one] at this
    have e : reachBytes = 140737488351232 := rfl
    omega
end Go.Proofs.Ytfbphblodankmaa
