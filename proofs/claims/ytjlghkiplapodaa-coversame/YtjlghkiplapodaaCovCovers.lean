import Derived.Test.YtjlghkiplapodaaRefLeft
namespace Go.Proofs.Ytjlghkiplapodaa
open Go Go.RowKit

theorem ret_pair {a b : Bool} {x y : Int} (h : a = b) (h2 : x = y) : Ending.returned (.tuple #[.bool a, .int .i64 x]) = .returned (.tuple #[.bool b, .int .i64 y]) := by rw [h, h2]
def covB : Option (List (List Int × List Int)) → Bool
  | some [] => true
  | _ => false
def errI : Option (List (List Int × List Int)) → Int
  | some _ => 0
  | none => 4

theorem left_some {V M : List Int} (hV : Byt V) (hM : Byt M) {L : List (List Int × List Int)} (hn : L.length ≤ 1000000) {m : Int} {R : List (List Int × List Int)} (h : leftC V M L (bnd m) = some R) (v : Value) (w : World) (hs : Sl w v L) :
    Calls Try.prog 15 #[.agg (cv V M), v, .int .i64 m] w fun e w' => ∃ u, e = .returned (.tuple #[u, .int .i64 0]) ∧ Sl w' u R ∧ R.length ≤ 1000 ∧ Below w.heap.size w w' := by
  refine (left_any V M hV hM L hn m v w hs).mono ?_
  rintro e w' ⟨⟨R', u, h1, h2, h3, h4⟩ | ⟨h1, _⟩, hb⟩
  · rw [h] at h1
    obtain rfl := Option.some.inj h1
    exact ⟨u, h3, h4, h2, hb⟩
  · rw [h] at h1; cases h1
theorem left_none {V M : List Int} (hV : Byt V) (hM : Byt M) {L : List (List Int × List Int)} (hn : L.length ≤ 1000000) {m : Int} (h : leftC V M L (bnd m) = none) (v : Value) (w : World) (hs : Sl w v L) :
    Calls Try.prog 15 #[.agg (cv V M), v, .int .i64 m] w fun e w' => e = .returned (.tuple #[.slice none 0 0, .int .i64 4]) ∧ Below w.heap.size w w' := by
  refine (left_any V M hV hM L hn m v w hs).mono ?_
  rintro e w' ⟨⟨R', u, h1, h2, h3, h4⟩ | ⟨_, h1⟩, hb⟩
  · rw [h] at h1; cases h1
  · exact ⟨h1, hb⟩
theorem rleft_some {V M : List Int} (hV : Byt V) (hM : Byt M) {L : List (List Int × List Int)} (hn : L.length ≤ 1000000) {m : Int} {R : List (List Int × List Int)} (h : leftC V M L (bnd m) = some R) (v : Value) (w : World) (hs : Sl w v L) :
    Calls Try.prog 16 #[.agg (cv V M), v, .int .i64 m] w fun e w' => ∃ u, e = .returned (.tuple #[u, .int .i64 0]) ∧ Sl w' u R ∧ R.length ≤ 1000 ∧ Below w.heap.size w w' := by
  refine (rleft_any V M hV hM L hn m v w hs).mono ?_
  rintro e w' ⟨⟨R', u, h1, h2, h3, h4⟩ | ⟨h1, _⟩, hb⟩
  · rw [h] at h1
    obtain rfl := Option.some.inj h1
    exact ⟨u, h3, h4, h2, hb⟩
  · rw [h] at h1; cases h1
theorem rleft_none {V M : List Int} (hV : Byt V) (hM : Byt M) {L : List (List Int × List Int)} (hn : L.length ≤ 1000000) {m : Int} (h : leftC V M L (bnd m) = none) (v : Value) (w : World) (hs : Sl w v L) :
    Calls Try.prog 16 #[.agg (cv V M), v, .int .i64 m] w fun e w' => e = .returned (.tuple #[.slice none 0 0, .int .i64 4]) ∧ Below w.heap.size w w' := by
  refine (rleft_any V M hV hM L hn m v w hs).mono ?_
  rintro e w' ⟨⟨R', u, h1, h2, h3, h4⟩ | ⟨_, h1⟩, hb⟩
  · rw [h] at h1; cases h1
  · exact ⟨h1, hb⟩

set_option maxHeartbeats 2000000 in
theorem covers_any (V M : List Int) (hV : Byt V) (hM : Byt M) (L : List (List Int × List Int)) (hn : L.length ≤ 1000000) (m : Int) (v : Value) (w : World) (hs : Sl w v L) :
    Calls Try.prog 18 #[v, .agg (cv V M), .int .i64 m] w fun e w' => e = .returned (.tuple #[.bool (covB (leftC V M L (bnd m))), .int .i64 (errI (leftC V M L (bnd m)))]) ∧ Below w.heap.size w w' := by
  have hVl := hV.1
  have hMl := hM.1
  have HS : Hid (Sl w v L) := hs
  have HS1 : Hid (Sl (w.alloc (.cells (cv V M) 30)) v L) := hs.below ((Below.refl _ _).alloc (Nat.le_refl _) _)
  cases hR : leftC V M L (bnd m) with
  | none =>
    have C1 : Hid (∀ W, Sl W v L → Calls Try.prog 15 #[.agg (cv V M), v, .int .i64 m] W fun e w' => e = .returned (.tuple #[.slice none 0 0, .int .i64 4]) ∧ Below W.heap.size W w') := fun W h => left_none hV hM hn hR v W h
    clear hV hM hs hR
    go_enter Try.func18, Try.ntmps18
    go_wp2_with (first
      | (refine wl_loadC rfl _ rfl w.heap.size rfl V M (heap_new _ _ _ rfl) hVl hMl ?_))
    refine (C1.out _ HS1.out).mono ?_
    rintro e w1 ⟨rfl, hb1⟩
    have B1 : Below w.heap.size w w1 := ((Below.refl _ _).alloc (Nat.le_refl _) _).trans (hb1.mono (by simp))
    go_wp2_with fail
    go_ret2
    exact ⟨rfl, B1⟩
  | some R =>
    have C1 : Hid (∀ W, Sl W v L → Calls Try.prog 15 #[.agg (cv V M), v, .int .i64 m] W fun e w' => ∃ u, e = .returned (.tuple #[u, .int .i64 0]) ∧ Sl w' u R ∧ R.length ≤ 1000 ∧ Below W.heap.size W w') := fun W h => left_some hV hM hn hR v W h
    clear hV hM hs hR
    go_enter Try.func18, Try.ntmps18
    go_wp2_with (first
      | (refine wl_loadC rfl _ rfl w.heap.size rfl V M (heap_new _ _ _ rfl) hVl hMl ?_))
    refine (C1.out _ HS1.out).mono ?_
    rintro e w1 ⟨u, rfl, hsl, hrl, hb1⟩
    have B1 : Below w.heap.size w w1 := ((Below.refl _ _).alloc (Nat.le_refl _) _).trans (hb1.mono (by simp))
    obtain ⟨o, cap, rfl, _, _⟩ := hsl.slice
    clear hb1 hsl C1
    cases R with
    | nil =>
      go_wp2_with fail
      go_ret2
      exact ⟨rfl, B1⟩
    | cons c R =>
      simp only [List.length_cons] at hrl ⊢
      obtain ⟨r, hr⟩ : ∃ r, r = R.length := ⟨_, rfl⟩
      rw [← hr] at hrl ⊢
      clear hr
      go_wp2_with fail
      go_ret2
      refine ⟨?_, B1⟩
      exact ret_pair (a := ((r : Int) + 1 == 0)) (b := false) (by simp; omega) rfl
set_option maxHeartbeats 2000000 in
theorem rcovers_any (V M : List Int) (hV : Byt V) (hM : Byt M) (L : List (List Int × List Int)) (hn : L.length ≤ 1000000) (m : Int) (v : Value) (w : World) (hs : Sl w v L) :
    Calls Try.prog 19 #[v, .agg (cv V M), .int .i64 m] w fun e w' => e = .returned (.tuple #[.bool (covB (leftC V M L (bnd m))), .int .i64 (errI (leftC V M L (bnd m)))]) ∧ Below w.heap.size w w' := by
  have hVl := hV.1
  have hMl := hM.1
  have HS : Hid (Sl w v L) := hs
  have HS1 : Hid (Sl (w.alloc (.cells (cv V M) 30)) v L) := hs.below ((Below.refl _ _).alloc (Nat.le_refl _) _)
  cases hR : leftC V M L (bnd m) with
  | none =>
    have C1 : Hid (∀ W, Sl W v L → Calls Try.prog 16 #[.agg (cv V M), v, .int .i64 m] W fun e w' => e = .returned (.tuple #[.slice none 0 0, .int .i64 4]) ∧ Below W.heap.size W w') := fun W h => rleft_none hV hM hn hR v W h
    clear hV hM hs hR
    go_enter Try.func19, Try.ntmps19
    go_wp2_with (first
      | (refine wl_loadC rfl _ rfl w.heap.size rfl V M (heap_new _ _ _ rfl) hVl hMl ?_))
    refine (C1.out _ HS1.out).mono ?_
    rintro e w1 ⟨rfl, hb1⟩
    have B1 : Below w.heap.size w w1 := ((Below.refl _ _).alloc (Nat.le_refl _) _).trans (hb1.mono (by simp))
    go_wp2_with fail
    go_ret2
    exact ⟨rfl, B1⟩
  | some R =>
    have C1 : Hid (∀ W, Sl W v L → Calls Try.prog 16 #[.agg (cv V M), v, .int .i64 m] W fun e w' => ∃ u, e = .returned (.tuple #[u, .int .i64 0]) ∧ Sl w' u R ∧ R.length ≤ 1000 ∧ Below W.heap.size W w') := fun W h => rleft_some hV hM hn hR v W h
    clear hV hM hs hR
    go_enter Try.func19, Try.ntmps19
    go_wp2_with (first
      | (refine wl_loadC rfl _ rfl w.heap.size rfl V M (heap_new _ _ _ rfl) hVl hMl ?_))
    refine (C1.out _ HS1.out).mono ?_
    rintro e w1 ⟨u, rfl, hsl, hrl, hb1⟩
    have B1 : Below w.heap.size w w1 := ((Below.refl _ _).alloc (Nat.le_refl _) _).trans (hb1.mono (by simp))
    obtain ⟨o, cap, rfl, _, _⟩ := hsl.slice
    clear hb1 hsl C1
    cases R with
    | nil =>
      go_wp2_with fail
      go_ret2
      exact ⟨rfl, B1⟩
    | cons c R =>
      simp only [List.length_cons] at hrl ⊢
      obtain ⟨r, hr⟩ : ∃ r, r = R.length := ⟨_, rfl⟩
      rw [← hr] at hrl ⊢
      clear hr
      go_wp2_with fail
      go_ret2
      refine ⟨?_, B1⟩
      exact ret_pair (a := ((r : Int) + 1 == 0)) (b := false) (by simp; omega) rfl

/-- What is told of cubes that a list is to cover, up to the first that it does not. -/
def eachR (L : List (List Int × List Int)) (m : Int) : List (List Int × List Int) → Bool × Int
  | [] => (true, 0)
  | c :: C => if covB (leftC c.1 c.2 L (bnd m)) = true then eachR L m C else (false, errI (leftC c.1 c.2 L (bnd m)))
theorem eachR_cons {L C : List (List Int × List Int)} {m : Int} {k : Nat} {U N : List Int} (hk : C[k]? = some (U, N)) : eachR L m (C.drop k) = if covB (leftC U N L (bnd m)) = true then eachR L m (C.drop (k + 1)) else (false, errI (leftC U N L (bnd m))) := by
  obtain ⟨h, h2⟩ := List.getElem?_eq_some_iff.1 hk
  rw [List.drop_eq_getElem_cons h, h2, eachR]
def sameR (A B : List (List Int × List Int)) (m : Int) : Bool × Int := if (eachR B m A).1 = true then eachR A m B else (false, (eachR B m A).2)

set_option maxHeartbeats 4000000 in
theorem each_any (L C : List (List Int × List Int)) (hn : L.length ≤ 1000000) (hn' : C.length ≤ 1000000) (m : Int) (v u : Value) (w : World) (hs : Sl w v L) (hc : Sl w u C) :
    Calls Try.prog 39 #[v, u, .int .i64 m] w fun e w' => e = .returned (.tuple #[.bool (eachR L m C).1, .int .i64 (eachR L m C).2]) ∧ Below w.heap.size w w' := by
  obtain ⟨o, cap, rfl, _, _⟩ := hc.slice
  obtain ⟨n, hne⟩ : ∃ n, n = C.length := ⟨_, rfl⟩
  rw [← hne] at hc hn' ⊢
  have HN : Hid (n = C.length) := hne
  have HC : Hid (Sl w (.slice o n cap) C) := hc
  have HS : Hid (Sl w v L) := hs
  have CC : Hid (∀ U N : List Int, Byt U → Byt N → ∀ W, Sl W v L → Calls Try.prog 18 #[v, .agg (cv U N), .int .i64 m] W fun e w' => e = .returned (.tuple #[.bool (covB (leftC U N L (bnd m))), .int .i64 (errI (leftC U N L (bnd m)))]) ∧ Below W.heap.size W w') := fun U N h1 h2 W h => covers_any U N h1 h2 L hn m v W h
  obtain ⟨R, hR⟩ : ∃ R, R = eachR L m C := ⟨_, rfl⟩
  have HR : Hid (eachR L m (C.drop 0) = R) := hR.symm
  rw [← hR]
  clear hs hc hne hR
  go_enter Try.func39, Try.ntmps39
  go_wp2_with fail
  go_loopw [14] (fun i wr => ∃ k : Nat, k ≤ n ∧ i = .int .i64 k ∧ eachR L m (C.drop k) = R ∧ Below w.heap.size w wr) (fun i _ => n - (intOf i).toNat)
  case atStart => exact ⟨0, Nat.zero_le _, rfl, HR.out, Below.refl _ _⟩
  case round =>
    clear HR
    obtain ⟨k, hk, rfl, hR, hb⟩ := hrel
    have HR : Hid (eachR L m (C.drop k) = R) := hR
    clear hR
    by_cases hlt : k < n
    · obtain ⟨g, off, cur, t, fr, U, N, rfl, hg, hcc, hCk, hU, hN⟩ := HC.out.at k hlt
      have hUl := hU.1
      have hNl := hN.1
      have hg' : wr.heap[g]? = some (.cells cur t fr) := (hb.block g (Array.getElem?_eq_some_iff.1 hg).1).trans hg
      have HE : Hid (∀ j, j < 26 → cur[off + k * 26 + j]? = (cv U N)[j]?) := hcc
      have D1 : Hid (∀ W, Sl W v L → Calls Try.prog 18 #[v, .agg (cv U N), .int .i64 m] W fun e w' => e = .returned (.tuple #[.bool (covB (leftC U N L (bnd m))), .int .i64 (errI (leftC U N L (bnd m)))]) ∧ Below W.heap.size W w') := CC.out U N hU hN
      have HST : Hid (eachR L m (C.drop k) = if covB (leftC U N L (bnd m)) = true then eachR L m (C.drop (k + 1)) else (false, errI (leftC U N L (bnd m)))) := eachR_cons hCk
      have k1 := heap_new wr (.cells (cv U N) 30) _ rfl
      have B2 := hb.alloc hb.size (.cells (cv U N) 30)
      have HS2 : Hid (Sl (wr.alloc (.cells (cv U N) 30)) v L) := HS.out.below B2
      obtain ⟨x, hx⟩ : ∃ x, x = covB (leftC U N L (bnd m)) := ⟨_, rfl⟩
      obtain ⟨y, hy⟩ : ∃ y, y = errI (leftC U N L (bnd m)) := ⟨_, rfl⟩
      rw [← hx, ← hy] at D1 HST
      clear hg hcc hCk hU hN hx hy
      go_wp2_with (first
        | (refine wl_loadCat rfl _ rfl g (off + k * 26) rfl cur t fr U N hUl hNl hg' HE.out ?_)
        | (refine wl_storeC rfl _ _ rfl wr.heap.size U N rfl rfl _ (heap_new _ _ _ rfl) rfl hUl hNl _ (setRow_new _ _ _ _ _ rfl) ?_)
        | (refine wl_loadC rfl _ rfl wr.heap.size rfl U N k1 hUl hNl ?_))
      refine (D1.out _ HS2.out).mono ?_
      rintro e w4 ⟨rfl, hb4⟩
      have B4 := B2.trans (hb4.mono B2.size)
      clear hb4 D1 HS2 k1 B2 hg' hb
      cases x
      · go_wp2_with fail
        go_ret2
        refine ⟨?_, B4⟩
        have := HR.out
        rw [HST.out] at this
        have h2 : (false, y) = R := by simpa using this
        rw [← h2]; rfl
      · go_wp2_with fail
        go_roundw
        case rel =>
          refine ⟨k + 1, by omega, by go_num, ?_, B4⟩
          have := HR.out
          rw [HST.out] at this
          simpa using this
        case measure => simp [intOf]; omega
    · obtain rfl : k = n := by omega
      go_wp2_with fail
      go_ret2
      refine ⟨?_, hb⟩
      have := HR.out
      rw [HN.out, List.drop_length] at this
      rw [← this]; rfl

set_option maxHeartbeats 2000000 in
theorem csame_any (A B : List (List Int × List Int)) (hA : A.length ≤ 1000000) (hB : B.length ≤ 1000000) (m : Int) (v u : Value) (w : World) (ha : Sl w v A) (hb : Sl w u B) :
    Calls Try.prog 22 #[v, u, .int .i64 m] w fun e w' => e = .returned (.tuple #[.bool (sameR A B m).1, .int .i64 (sameR A B m).2]) ∧ Below w.heap.size w w' := by
  have HA : Hid (Sl w v A) := ha
  have HB : Hid (Sl w u B) := hb
  have C1 : Hid (∀ W, Sl W u B → Sl W v A → Calls Try.prog 39 #[u, v, .int .i64 m] W fun e w' => e = .returned (.tuple #[.bool (eachR B m A).1, .int .i64 (eachR B m A).2]) ∧ Below W.heap.size W w') := fun W h1 h2 => each_any B A hB hA m u v W h1 h2
  have C2 : Hid (∀ W, Sl W v A → Sl W u B → Calls Try.prog 39 #[v, u, .int .i64 m] W fun e w' => e = .returned (.tuple #[.bool (eachR A m B).1, .int .i64 (eachR A m B).2]) ∧ Below W.heap.size W w') := fun W h1 h2 => each_any A B hA hB m v u W h1 h2
  obtain ⟨S, hS⟩ : ∃ S, S = sameR A B m := ⟨_, rfl⟩
  have HSE : Hid (S = if (eachR B m A).1 = true then eachR A m B else (false, (eachR B m A).2)) := hS
  obtain ⟨⟨x, y⟩, hE⟩ : ∃ E, E = eachR B m A := ⟨_, rfl⟩
  obtain ⟨⟨x', y'⟩, hE'⟩ : ∃ E, E = eachR A m B := ⟨_, rfl⟩
  rw [← hE] at C1 HSE
  rw [← hE'] at C2 HSE
  rw [← hS]
  clear ha hb hS hE hE'
  go_enter Try.func22, Try.ntmps22
  go_wp2_with fail
  refine (C1.out _ HB.out HA.out).mono ?_
  rintro e w1 ⟨rfl, hb1⟩
  have HA1 : Hid (Sl w1 v A) := HA.out.below hb1
  have HB1 : Hid (Sl w1 u B) := HB.out.below hb1
  cases x
  · go_wp2_with fail
    go_ret2
    exact ⟨by rw [HSE.out]; rfl, hb1⟩
  · go_wp2_with fail
    refine (C2.out _ HA1.out HB1.out).mono ?_
    rintro e w2 ⟨rfl, hb2⟩
    go_wp2_with fail
    go_ret2
    exact ⟨by rw [HSE.out]; rfl, hb1.trans (hb2.mono hb1.size)⟩
end Go.Proofs.Ytjlghkiplapodaa
