import Derived.Test.YtnppfibojcgkmaaScOps
import Derived.Test.YtnppfibojcgkmaaScMem
namespace Go.Proofs.Ytnppfibojcgkmaa
open Go Go.Lib Go.RowKit Ieee
set_option maxRecDepth 20000

/-- Floats in memory. -/
def flV (l : List Nat) : List Value := l.map (Value.float .f64)
theorem flV_len (l : List Nat) : (flV l).length = l.length := by simp [flV]
theorem flV_get {l : List Nat} {k : Nat} {c : Value} (h : (flV l)[k]? = some c) : ∃ x, c = .float .f64 x ∧ l[k]? = some x := by
  unfold flV at h
  rw [List.getElem?_map] at h
  cases hl : l[k]? with
  | none => rw [hl] at h; cases h
  | some x => rw [hl] at h; exact ⟨x, by simpa using h.symm, rfl⟩
def AllW (l : List Nat) : Prop := ∀ x ∈ l, Wd x
theorem AllW.at {l : List Nat} (h : AllW l) {k x : Nat} (hk : l[k]? = some x) : Wd x := h x (List.mem_of_getElem? hk)
def FSl (w : World) (v : Value) (l : List Nat) : Prop := VSl w v (flV l)
theorem FSl.slice {w : World} {v : Value} {l : List Nat} (h : FSl w v l) : ∃ o cap, v = .slice o l.length cap ∧ l.length ≤ cap ∧ cap ≤ maxLen := by
  have := VSl.slice h
  rwa [flV_len] at this
theorem FSl.at {w : World} {o : Option Addr} {n cap : Nat} {l : List Nat} (h : FSl w (.slice o n cap) l) (k : Nat) (hk : k < n) :
    ∃ g off x, o = some ⟨g, off, none⟩ ∧ w.cell? ⟨g, off + k, none⟩ = some (.float .f64 x) ∧ l[k]? = some x := by
  obtain ⟨g, off, c, h1, h2, h3⟩ := VSl.at h k hk
  obtain ⟨x, rfl, hx⟩ := flV_get h3
  exact ⟨g, off, x, h1, h2, hx⟩
theorem totT_take (l : List Nat) (k x : Nat) (h : l[k]? = some x) : totT (l.take (k + 1)) = cleanT (addR (totT (l.take k)) (cleanT x)) := by
  rw [List.take_add_one, h, ← totT_snoc]; rfl
set_option maxHeartbeats 2000000 in
theorem total_any (l : List Nat) (hw : AllW l) (v : Value) (w : World) (hL : FSl w v l) :
    Calls Try.prog 28 #[v] w fun e w' => e = .returned (.float .f64 (totT l)) ∧ w' = w := by
  have HC : Hid (∀ x W, Wd x → Calls Try.prog 10 #[.float .f64 x] W fun e w' => e = .returned (.float .f64 (cleanT x)) ∧ w' = W) := fun x W h => clean_any x h W
  obtain ⟨o, cap, rfl, h1, h2⟩ := hL.slice
  have HL : Hid (FSl w (.slice o l.length cap) l) := hL
  have HW : Hid (AllW l) := hw
  obtain ⟨n, hn⟩ : ∃ n, n = l.length := ⟨_, rfl⟩
  have HN : Hid (n = l.length) := hn
  rw [← hn] at HL h1 ⊢
  unfold maxLen at h2
  clear hn hL hw
  go_enter Try.func28, Try.ntmps28
  go_wp2_with fail
  go_loop [3, 8] (fun a i => ∃ k : Nat, k ≤ n ∧ i = .int .i64 k ∧ a = .float .f64 (totT (l.take k))) (fun _ i => n - (intOf i).toNat)
  case atStart => exact ⟨0, Nat.zero_le _, rfl, rfl⟩
  case round =>
    obtain ⟨k, hk, rfl, rfl⟩ := hrel
    by_cases hlt : k < n
    · obtain ⟨g, off, x, rfl, hc, hxk⟩ := HL.out.at k hlt
      have HV : Hid (totT (l.take (k + 1)) = cleanT (addR (totT (l.take k)) (cleanT x))) := totT_take l k x hxk
      have HX : Hid (Wd x) := HW.out.at hxk
      have ht := totT_lt (l.take k)
      obtain ⟨t, hte⟩ : ∃ t, t = totT (l.take k) := ⟨_, rfl⟩
      rw [← hte] at HV ht ⊢
      have hS := addF Try.prog t (cleanT x) ht (cleanT_lt x)
      have HS : Hid (Wd (addR t (cleanT x))) := wd_rung (addR_le _ _)
      have hlt' : (k : Int) < (n : Int) := by omega
      clear hte hxk ht
      go_wp2_with (go_at_call 10; refine (HC.out _ _ (by first | exact HX.out | exact HS.out)).mono ?_; rintro e w' ⟨rfl, rfl⟩)
      refine ⟨⟨k + 1, by omega, by go_num, ?_⟩, by simp [intOf]; omega⟩
      rw [HV.out]
    · have hlt' : ¬ (k : Int) < (n : Int) := by omega
      go_wp2_with fail
      go_ret
      obtain rfl : k = n := by omega
      rw [HN.out, List.take_length]
      exact ⟨rfl, rfl⟩
set_option maxHeartbeats 2000000 in
theorem rtotal_any (l : List Nat) (hw : AllW l) (v : Value) (w : World) (hL : FSl w v l) :
    Calls Try.prog 29 #[v] w fun e w' => e = .returned (.float .f64 (totT l)) ∧ w' = w := by
  have HC : Hid (∀ x W, Wd x → Calls Try.prog 12 #[.float .f64 x] W fun e w' => e = .returned (.float .f64 (cleanT x)) ∧ w' = W) := fun x W h => rclean_any x h W
  obtain ⟨o, cap, rfl, h1, h2⟩ := hL.slice
  have HL : Hid (FSl w (.slice o l.length cap) l) := hL
  have HW : Hid (AllW l) := hw
  obtain ⟨n, hn⟩ : ∃ n, n = l.length := ⟨_, rfl⟩
  have HN : Hid (n = l.length) := hn
  rw [← hn] at HL h1 ⊢
  unfold maxLen at h2
  clear hn hL hw
  go_enter Try.func29, Try.ntmps29
  go_wp2_with fail
  go_loop [3, 4] (fun a i => ∃ k : Nat, k ≤ n ∧ i = .int .i64 k ∧ a = .float .f64 (totT (l.take k))) (fun _ i => n - (intOf i).toNat)
  case atStart => exact ⟨0, Nat.zero_le _, rfl, rfl⟩
  case round =>
    obtain ⟨k, hk, rfl, rfl⟩ := hrel
    by_cases hlt : k < n
    · obtain ⟨g, off, x, rfl, hc, hxk⟩ := HL.out.at k hlt
      have HV : Hid (totT (l.take (k + 1)) = cleanT (addR (totT (l.take k)) (cleanT x))) := totT_take l k x hxk
      have HX : Hid (Wd x) := HW.out.at hxk
      have ht := totT_lt (l.take k)
      obtain ⟨t, hte⟩ : ∃ t, t = totT (l.take k) := ⟨_, rfl⟩
      rw [← hte] at HV ht ⊢
      have hS := addF Try.prog t (cleanT x) ht (cleanT_lt x)
      have HS : Hid (Wd (addR t (cleanT x))) := wd_rung (addR_le _ _)
      have hlt' : (k : Int) < (n : Int) := by omega
      clear hte hxk ht
      go_wp2_with (go_at_call 12; refine (HC.out _ _ (by first | exact HX.out | exact HS.out)).mono ?_; rintro e w' ⟨rfl, rfl⟩)
      refine ⟨⟨k + 1, by omega, by go_num, ?_⟩, by simp [intOf]; omega⟩
      rw [HV.out]
    · have hlt' : ¬ (k : Int) < (n : Int) := by omega
      go_wp2_with fail
      go_ret
      obtain rfl : k = n := by omega
      rw [HN.out, List.take_length]
      exact ⟨rfl, rfl⟩
/-- Where each place's number stands. -/
def keyT (l : List Nat) (i : Nat) : Int := placeT (l.getD i 0)
theorem keyT_at {l : List Nat} {k x : Nat} (h : l[k]? = some x) : keyT l k = placeT x := by unfold keyT; rw [List.getD, h]; rfl
/-- The best among the first. -/
def BestT (l : List Nat) (k b : Nat) : Prop := (k = 0 ∧ b = 0) ∨ IsFirst (keyT l) [] k b
theorem best_next {l : List Nat} {k b x y : Nat} (h : BestT l k b) (hx : l[k]? = some x) (hy : l[b]? = some y) : (placeT x < placeT y → BestT l (k + 1) k) ∧ (¬ placeT x < placeT y → BestT l (k + 1) b) := by
  rw [← keyT_at hx, ← keyT_at hy]
  rcases h with ⟨rfl, rfl⟩ | h
  · exact ⟨fun h => absurd h (Int.lt_irrefl _), fun _ => .inr (first_begin (by simp) (fun j hj => by omega))⟩
  · exact ⟨fun h1 => .inr (first_take h (by simp) h1), fun h1 => .inr (first_skip h (.inr h1))⟩
set_option maxHeartbeats 2000000 in
theorem best_any (l : List Nat) (hw : AllW l) (v : Value) (w : World) (hL : FSl w v l) :
    Calls Try.prog 20 #[v] w fun e w' => (∃ b : Int, e = .returned (.int .i64 b) ∧ (l = [] ∧ b = -1 ∨ ∃ c : Nat, b = (c : Int) ∧ IsFirst (keyT l) [] l.length c)) ∧ w' = w := by
  have HC : Hid (∀ x y W, Wd x → Wd y → Calls Try.prog 15 #[.float .f64 x, .float .f64 y] W fun e w' => e = .returned (.bool (decide (placeT x < placeT y))) ∧ w' = W) := fun x y W h h' => less_any x y h h' W
  obtain ⟨o, cap, rfl, h1, h2⟩ := hL.slice
  have HL : Hid (FSl w (.slice o l.length cap) l) := hL
  have HW : Hid (AllW l) := hw
  obtain ⟨n, hn⟩ : ∃ n, n = l.length := ⟨_, rfl⟩
  have HN : Hid (n = l.length) := hn
  rw [← hn] at HL h1 ⊢
  unfold maxLen at h2
  by_cases h0 : n = 0
  · subst h0
    have H0 : Hid (l = []) := List.eq_nil_of_length_eq_zero hn.symm
    clear hn hL hw
    go_enter Try.func20, Try.ntmps20
    go_wp2_with fail
    go_ret
    exact ⟨⟨-1, rfl, .inl ⟨H0.out, rfl⟩⟩, rfl⟩
  · have h0' : ((n : Int) == 0) = false := by simp; omega
    clear hn hL hw
    go_enter Try.func20, Try.ntmps20
    go_wp2_with fail
    go_loop [3, 11] (fun a i => ∃ k b : Nat, k ≤ n ∧ b < n ∧ i = .int .i64 k ∧ a = .int .i64 b ∧ Hid (BestT l k b)) (fun _ i => n - (intOf i).toNat)
    case atStart => exact ⟨0, 0, Nat.zero_le _, by omega, rfl, rfl, .inl ⟨rfl, rfl⟩⟩
    case round =>
      obtain ⟨k, b, hk, hb, rfl, rfl, HB⟩ := hrel
      by_cases hlt : k < n
      · obtain ⟨g, off, x, rfl, hc, hxk⟩ := HL.out.at k hlt
        obtain ⟨g', off', y, e, hc', hyk⟩ := HL.out.at b hb
        simp only [Option.some.injEq, Addr.mk.injEq, and_true] at e
        obtain ⟨rfl, rfl⟩ := e
        have hlt' : (k : Int) < (n : Int) := by omega
        have hb' : (b : Int) < (n : Int) := by omega
        have HX : Hid (Wd x) := HW.out.at hxk
        have HY : Hid (Wd y) := HW.out.at hyk
        have HS := best_next HB.out hxk hyk
        by_cases hp : placeT x < placeT y
        · have HT : Hid (BestT l (k + 1) k) := HS.1 hp
          have HV : Hid (decide (placeT x < placeT y) = true) := decide_eq_true hp
          clear hxk hyk HS hp
          go_wp2_with (go_at_call 15; refine (HC.out _ _ _ HX.out HY.out).mono ?_; rintro e w' ⟨rfl, rfl⟩; rw [HV.out])
          exact ⟨⟨k + 1, k, by omega, by omega, by go_num, rfl, HT⟩, by simp [intOf]; omega⟩
        · have HT : Hid (BestT l (k + 1) b) := HS.2 hp
          have HV : Hid (decide (placeT x < placeT y) = false) := decide_eq_false hp
          clear hxk hyk HS hp
          go_wp2_with (go_at_call 15; refine (HC.out _ _ _ HX.out HY.out).mono ?_; rintro e w' ⟨rfl, rfl⟩; rw [HV.out])
          exact ⟨⟨k + 1, b, by omega, by omega, by go_num, rfl, HT⟩, by simp [intOf]; omega⟩
      · have hlt' : ¬ (k : Int) < (n : Int) := by omega
        go_wp2_with fail
        go_ret
        obtain rfl : k = n := by omega
        refine ⟨⟨b, rfl, .inr ⟨b, rfl, ?_⟩⟩, rfl⟩
        rcases HB.out with ⟨h, _⟩ | h
        · omega
        · exact h
end Go.Proofs.Ytnppfibojcgkmaa
