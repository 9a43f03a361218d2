import Derived.Test.YtfbphblodankmaaWAwake
namespace Go.Proofs.Ytfbphblodankmaa
open Go Go.RowKit
set_option maxRecDepth 20000

theorem openT_cases (L : List UInt8) : ((openT L).2.2 == 0) = false ∨ (∃ k : Nat, (openT L).1 = k ∧ (openT L).2.2 = 0 ∧ sealT k (openT L).2.1 = (L, 0)) := by
  unfold openT
  cases h : openB L with
  | none => exact .inl rfl
  | some q =>
    obtain ⟨k, body⟩ := q
    obtain ⟨h1, h2, h3⟩ := seal_open h
    refine .inr ⟨k, rfl, rfl, ?_⟩
    unfold sealT
    rw [if_pos (by omega), if_pos h3, Int.toNat_natCast, h1]

set_option maxHeartbeats 4000000 in
theorem lawWOpens_any (v : Value) (L : List UInt8) (w : World) (hL : BSl w v L) (hl : L.length ≤ 140737488355328) :
    Calls Try.prog 7 #[v] w fun e w' => e = .returned (.bool true) ∧ Below w.heap.size w w' := by
  have CA : Hid (∀ W, Calls Try.prog 9 #[] W fun e w' => e = .returned (.bool true) ∧ Below W.heap.size W w') := awake9_any
  have HL : Hid (BSl w v L) := hL
  obtain ⟨ov, nv, cv, rfl⟩ := val_slice hL
  obtain ⟨x, hx⟩ : ∃ x, x = (openT L).1 := ⟨_, rfl⟩
  obtain ⟨D, hD⟩ : ∃ D, D = (openT L).2.1 := ⟨_, rfl⟩
  obtain ⟨y, hy⟩ : ∃ y, y = (openT L).2.2 := ⟨_, rfl⟩
  have CO : Hid (∀ W, Below w.heap.size w W → Calls Try.prog 22 #[.slice ov nv cv] W fun e w' => ∃ u, e = .returned (.tuple #[.int .i64 x, u, .int .i64 y]) ∧ BOwn W.heap.size w' u D ∧ Below W.heap.size W w') := fun W hW => by
    rw [hx, hD, hy]; exact wopen_any _ L W (HL.out.below hW) hl
  have CR : Hid (∀ W, Below w.heap.size w W → Calls Try.prog 24 #[.slice ov nv cv] W fun e w' => ∃ u, e = .returned (.tuple #[.int .i64 x, u, .int .i64 y]) ∧ BOwn W.heap.size w' u D ∧ Below W.heap.size W w') := fun W hW => by
    rw [hx, hD, hy]; exact ropen_any _ L W (HL.out.below hW) hl
  have HCA : Hid ((y == 0) = false ∨ (∃ k : Nat, x = k ∧ y = 0 ∧ sealT k D = (L, 0))) := by
    rw [hx, hy, hD]; exact openT_cases L
  clear hL hl hx hD hy
  go_enter Try.func7, Try.ntmps7
  go_wp2_with fail
  refine (CA.out _).mono ?_
  rintro e w1 ⟨rfl, hb⟩
  have HB : Hid (Below w.heap.size w w1) := hb
  clear hb
  go_wp2_with fail
  refine (CO.out _ HB.out).mono ?_
  rintro e w2 ⟨u, rfl, ho2, hb2⟩
  obtain ⟨o2, n2, c2, rfl⟩ := val_slice ho2.sl
  have HB2 : Hid (Below w.heap.size w w2) := HB.out.trans (hb2.mono HB.out.size)
  have HO2 : Hid (BSl w2 (.slice o2 n2 c2) D) := ho2.sl
  clear ho2 hb2
  go_wp2_with fail
  refine (CR.out _ HB2.out).mono ?_
  rintro e w3 ⟨u, rfl, ho3, hb3⟩
  obtain ⟨o3, n3, c3, rfl⟩ := val_slice ho3.sl
  have HB3 : Hid (Below w.heap.size w w3) := HB2.out.trans (hb3.mono HB2.out.size)
  have HO3 : Hid (BSl w3 (.slice o2 n2 c2) D) := HO2.out.below hb3
  have CS : Hid (∀ W, W = w3 → Calls Try.prog 12 #[.slice o2 n2 c2, .slice o3 n3 c3] W fun e w' => e = .returned (.bool true) ∧ w' = W) := fun W hW => by
    subst hW
    have := rsameB_any _ _ D D W HO3.out ho3.sl
    rw [beq_self_eq_true] at this
    exact this
  clear ho3 hb3
  rcases HCA.out with h1 | ⟨k, h1, h2, h3⟩
  · go_wp2_with (first
      | (go_at_call 12; refine (CS.out _ rfl).mono ?_; rintro e w4 ⟨rfl, rfl⟩))
    go_ret
    exact ⟨rfl, HB3.out⟩
  · subst h1 h2
    have CL : Hid (∀ W, W = w3 → Calls Try.prog 20 #[.int .i64 (k : Int), .slice o2 n2 c2] W fun e w' => ∃ u, e = .returned (.tuple #[u, .int .i64 0]) ∧ BOwn W.heap.size w' u L ∧ Below W.heap.size W w') := fun W hW => by
      subst hW
      have := seal_any k _ D W HO3.out
      rw [h3] at this
      exact this
    clear h3
    go_wp2_with (first
      | (go_at_call 12; refine (CS.out _ rfl).mono ?_; rintro e w4 ⟨rfl, rfl⟩))
    refine (CL.out _ rfl).mono ?_
    rintro e w5 ⟨u, rfl, ho5, hb5⟩
    obtain ⟨o5, n5, c5, rfl⟩ := val_slice ho5.sl
    have HB5 : Hid (Below w.heap.size w w5) := HB3.out.trans (hb5.mono HB3.out.size)
    have CS2 : Hid (∀ W, W = w5 → Calls Try.prog 12 #[.slice ov nv cv, .slice o5 n5 c5] W fun e w' => e = .returned (.bool true) ∧ w' = W) := fun W hW => by
      subst hW
      have := rsameB_any _ _ L L W (HL.out.below HB5.out) ho5.sl
      rw [beq_self_eq_true] at this
      exact this
    clear ho5 hb5
    go_wp2_with (first
      | (go_at_call 12; refine (CS2.out _ rfl).mono ?_; rintro e w6 ⟨rfl, rfl⟩))
    go_ret
    exact ⟨rfl, HB5.out⟩
end Go.Proofs.Ytfbphblodankmaa
