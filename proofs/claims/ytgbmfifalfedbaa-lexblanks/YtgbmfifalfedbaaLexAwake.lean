import Derived.Test.YtgbmfifalfedbaaLexTok
namespace Go.Proofs.Ytgbmfifalfedbaa
open Go Go.RowKit

/-- The chapter's first example. -/
def exB : List UInt8 := [49, 48, 32, 115, 114, 99, 32, 49, 46, 50, 47, 56, 45, 62, 120, 32, 35, 32, 53]
def exT : List Tok := [⟨2, 0, [], 10⟩, ⟨1, 3, [115, 114, 99], 0⟩, ⟨2, 7, [], 1⟩, ⟨3, 8, [], 0⟩, ⟨2, 9, [], 2⟩, ⟨4, 10, [], 0⟩, ⟨2, 11, [], 8⟩, ⟨6, 12, [], 0⟩, ⟨1, 14, [120], 0⟩]
theorem ex_lex : lexT exB = (exT, 0, 0) := by kernel_rfl

/-- The cells of one's own row. -/
theorem own_cell {w : World} {B : Nat} {v : Value} {C : List Tok} (h : w.ownsRow B 28 4 v C.length (gcells encT C)) (hn : 0 < C.length) :
    ∃ g cap cur, v = .slice (some ⟨g, 0, none⟩) C.length cap ∧ w.heap[g]? = some (.cells cur 28 (0, 0)) ∧ C.length ≤ cap ∧ cap ≤ maxLen ∧ ∀ (i : Nat) (t : Tok), C[i]? = some t → ∀ j, j < 4 → cur[4 * i + j]? = (encT t)[j]? := by
  obtain ⟨h1, ⟨rfl, h2⟩ | ⟨g, cap, cur, rfl, hB, hcur, h5, h6, _, h4⟩⟩ := h
  · omega
  · refine ⟨g, cap, cur, rfl, hcur, h5, h6, fun i t ht j hj => ?_⟩
    obtain ⟨hi, hit⟩ := List.getElem?_eq_some_iff.1 ht
    have := gcells_at encT 4 C (fun c _ => rfl) i hi j hj
    rw [hit, ← h4] at this
    rw [← this, List.getElem?_take_of_lt (by omega)]
    simp

set_option maxHeartbeats 2000000 in
theorem awake_any (w : World) : Calls Try.prog 7 #[] w fun e w' => e = .returned (.bool true) ∧ Below w.heap.size w w' := by
  have C1 : Hid (∀ W, Calls Try.prog 8 #[.string ⟨#[49, 48, 32, 115, 114, 99, 32, 49, 46, 50, 47, 56, 45, 62, 120, 32, 35, 32, 53]⟩] W fun e w' => ∃ u, e = .returned (.tuple #[u, .int .i64 0, .int .i64 0]) ∧ w'.ownsRow W.heap.size 28 4 u exT.length (gcells encT exT) ∧ Below W.heap.size W w') := fun W => by
    have := tokens_any ⟨#[49, 48, 32, 115, 114, 99, 32, 49, 46, 50, 47, 56, 45, 62, 120, 32, 35, 32, 53]⟩ (by decide) W
    rw [show (⟨#[49, 48, 32, 115, 114, 99, 32, 49, 46, 50, 47, 56, 45, 62, 120, 32, 35, 32, 53]⟩ : ByteArray).data.toList = exB from rfl, ex_lex] at this
    exact this
  go_enter Try.func7, Try.ntmps7
  go_wp2_with fail
  refine (C1.out _).mono ?_
  rintro e w1 ⟨u, rfl, hown, hb⟩
  obtain ⟨g, cap, cur, rfl, hg, hcap, hcm, hc⟩ := own_cell hown (by decide)
  have c7 : w1.cell? ⟨g, 28, none⟩ = some (.int .i64 6) := by
    rw [cell_of_row _ _ _ _ _ _ hg]; exact hc 7 ⟨6, 12, [], 0⟩ rfl 0 (by decide)
  have c8 : w1.cell? ⟨g, 33, none⟩ = some (.int .i64 14) := by
    rw [cell_of_row _ _ _ _ _ _ hg]; exact hc 8 ⟨1, 14, [120], 0⟩ rfl 1 (by decide)
  have HC : Hid (∀ j, j < 4 → cur[4 + j]? = (tv 1 3 ⟨#[115, 114, 99]⟩ 0)[j]?) := hc 1 ⟨1, 3, [115, 114, 99], 0⟩ rfl
  have e1 : ∀ w, (Op.equalIn 10000 28 (.agg (tv 1 3 ⟨#[115, 114, 99]⟩ 0)) (.agg #[.int .i64 1, .int .i64 3, .string ⟨#[115, 114, 99]⟩, .int .i64 0])).run Try.prog w = .ok true w := fun w => eqT_same ⟨1, 3, [115, 114, 99], 0⟩ w
  have l9 : exT.length = 9 := rfl
  rw [l9] at hcap ⊢
  clear hc hown C1 l9
  go_wp2_with (first
    | (refine wl_loadE (E := TokE) TokOk rfl _ rfl g 4 rfl _ _ _ (tv 1 3 ⟨#[115, 114, 99]⟩ 0) rfl hg HC.out ?_))
  go_ret
  exact ⟨rfl, hb⟩
end Go.Proofs.Ytgbmfifalfedbaa
