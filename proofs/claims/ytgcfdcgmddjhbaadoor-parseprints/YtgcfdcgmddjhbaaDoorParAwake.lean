import Derived.Test.YtgcfdcgmddjhbaaDoorRdParse
namespace Go.Proofs.YtgcfdcgmddjhbaaDoor
open Go Go.RowKit
set_option maxRecDepth 20000

theorem clas_sl {B : Nat} {w : World} {x : Raw} {u : Value} (h : ClasOwn B w x.clauses u) : ClasAt w x u := by
  obtain ⟨P, h1, h2, h3⟩ := h
  exact ⟨P, h1, gsl_of (E := ClaE) h2 fun c _ => rfl, fun p hp => gsl_of (E := FigE) (h3 p hp) fun c _ => rfl⟩
theorem raws_sl {B : Nat} {w : World} {L : List Raw} {v : Value} (h : RawsOwn B w L v) : RawsAt w v L := by
  obtain ⟨P, h1, h2, h3⟩ := h
  exact ⟨P, h1, gsl_of (E := RawE) h2 fun c _ => rfl, fun p hp => clas_sl (h3 p hp)⟩

def exA : List UInt8 := [53, 32, 115, 114, 99, 32, 49, 48, 46, 48, 46, 48, 46, 48, 47, 56, 32, 100, 112, 111, 114, 116, 32, 56, 48, 45, 57, 48, 32, 45, 62, 32, 112, 111, 114, 116, 32, 51]
def exC : List Cla := [⟨wSrc, 2, [⟨10, 6⟩, ⟨0, 9⟩, ⟨0, 11⟩, ⟨0, 13⟩, ⟨8, 15⟩], true, false⟩, ⟨wDport, 17, [⟨80, 23⟩, ⟨90, 26⟩], false, true⟩]
def exR : Raw := ⟨0, false, ⟨5, 0⟩, exC, false, ⟨3, 37⟩⟩
theorem ex_parse : parseP exA = ([exR], 0, 0) := by kernel_rfl
def exD : List UInt8 := [53, 32, 115, 114, 99, 32, 49, 46, 50, 32, 45, 62, 32, 100, 114, 111, 112]
theorem ex_parse2 : parseP exD = ([], 8, 10) := by kernel_rfl

set_option maxHeartbeats 4000000 in
theorem awake6_any (w : World) : Calls Tryd.prog 4 #[] w fun e w' => e = .returned (.bool true) ∧ Below w.heap.size w w' := by
  have C1 : Hid (∀ W, Calls Tryd.prog 7 #[.string ⟨#[53, 32, 115, 114, 99, 32, 49, 48, 46, 48, 46, 48, 46, 48, 47, 56, 32, 100, 112, 111, 114, 116, 32, 56, 48, 45, 57, 48, 32, 45, 62, 32, 112, 111, 114, 116, 32, 51]⟩] W fun e w' => ∃ v, e = .returned (.tuple #[v, .int .i64 0, .int .i64 0]) ∧ RawsOwn W.heap.size w' [exR] v ∧ Below W.heap.size W w') := fun W => by
    have := parse_any ⟨#[53, 32, 115, 114, 99, 32, 49, 48, 46, 48, 46, 48, 46, 48, 47, 56, 32, 100, 112, 111, 114, 116, 32, 56, 48, 45, 57, 48, 32, 45, 62, 32, 112, 111, 114, 116, 32, 51]⟩ (by decide) W
    rw [show (⟨#[53, 32, 115, 114, 99, 32, 49, 48, 46, 48, 46, 48, 46, 48, 47, 56, 32, 100, 112, 111, 114, 116, 32, 56, 48, 45, 57, 48, 32, 45, 62, 32, 112, 111, 114, 116, 32, 51]⟩ : ByteArray).data.toList = exA from rfl, ex_parse] at this
    exact this
  have C2 : Hid (∀ W, Calls Tryd.prog 7 #[.string ⟨#[53, 32, 115, 114, 99, 32, 49, 46, 50, 32, 45, 62, 32, 100, 114, 111, 112]⟩] W fun e w' => ∃ v, e = .returned (.tuple #[v, .int .i64 8, .int .i64 10]) ∧ RawsOwn W.heap.size w' [] v ∧ Below W.heap.size W w') := fun W => by
    have := parse_any ⟨#[53, 32, 115, 114, 99, 32, 49, 46, 50, 32, 45, 62, 32, 100, 114, 111, 112]⟩ (by decide) W
    rw [show (⟨#[53, 32, 115, 114, 99, 32, 49, 46, 50, 32, 45, 62, 32, 100, 114, 111, 112]⟩ : ByteArray).data.toList = exD from rfl, ex_parse2] at this
    exact this
  go_enter Tryd.func4, Tryd.ntmps4
  go_wp2_with fail
  refine (C1.out _).mono ?_
  rintro e w1 ⟨v, rfl, hraw, hb1⟩
  go_wp2_with fail
  refine (C2.out _).mono ?_
  rintro e w2 ⟨v2, rfl, hraw2, hb2⟩
  have hat := raws_below (raws_sl hraw) hb2
  have B2 : Below w.heap.size w w2 := hb1.trans (hb2.mono hb1.size)
  obtain ⟨o, cap, rfl, hc1, hc2⟩ := NSl.slice hat
  obtain ⟨g, off, cur, t, fr, x, u, rfl, hg, hcell, hx, hcl⟩ := NSl.at hat 0 (by decide)
  obtain rfl : exR = x := by simpa using hx
  obtain ⟨o2, cap2, rfl, hd1, hd2⟩ := NSl.slice hcl
  obtain ⟨g2, off2, cur2, t2, fr2, x2, u2, rfl, hg2, hcell2, hx2, _⟩ := NSl.at hcl 1 (by decide)
  have c4 : w2.cell? ⟨g, off + 4, none⟩ = some (.slice (some ⟨g2, off2, none⟩) 2 cap2) := by
    rw [cell_of_row _ _ _ _ _ _ hg]; exact hcell 4 (by decide)
  have c6 : w2.cell? ⟨g, off + 6, none⟩ = some (.int .i64 3) := by
    rw [cell_of_row _ _ _ _ _ _ hg]; exact hcell 6 (by decide)
  have c9 : w2.cell? ⟨g2, off2 + 5 + 4, none⟩ = some (.bool true) := by
    rw [cell_of_row _ _ _ _ _ _ hg2]
    have := hcell2 4 (by decide)
    obtain rfl : _ = x2 := Option.some.inj hx2
    exact this
  have hlen : [exR].length = 1 := rfl
  have hlen2 : exR.clauses.length = 2 := rfl
  rw [hlen] at hc1 ⊢
  rw [hlen2] at hd1
  unfold maxLen at hc2 hd2
  clear hraw hraw2 hat hcl hb1 hb2 hcell hcell2 hx hx2 hg hg2 hlen hlen2 C1 C2
  go_wp2_with fail
  go_ret
  exact ⟨rfl, B2⟩
end Go.Proofs.YtgcfdcgmddjhbaaDoor
