import Derived.Test.YtgcfdcgmddjhbaaDoorTok
import Derived.Test.YtgcfdcgmddjhbaaDoorLexClone
import Derived.Test.YtgcfdcgmddjhbaaDoorLexSign
import Derived.Test.YtgcfdcgmddjhbaaDoorLexNum
namespace Go.Proofs.YtgcfdcgmddjhbaaDoor
open Go Go.RowKit
set_option maxRecDepth 20000

/-- What 'first' answers. -/
def FirstR (x : Lx × Nat) (e : Ending) : Prop :=
  match x with
  | (.ok (some (k, t, v)), n) => e = .returned (.tuple #[.agg (tv (k : Nat) 0 ⟨t.toArray⟩ (v : Nat)), .int .i64 ((n + 1 : Nat) : Int), .int .i64 0])
  | (.error er, _) => ∃ k v m : Int, e = .returned (.tuple #[.agg (tv k 0 ⟨#[]⟩ v), .int .i64 m, .int .i64 (er : Nat)])
  | (.ok none, _) => False

theorem abc_str : (⟨#[97, 98, 99, 100, 101, 102, 103, 104, 105, 106, 107, 108, 109, 110, 111, 112, 113, 114, 115, 116, 117, 118, 119, 120, 121, 122]⟩ : ByteArray).data.toList = abcL := rfl
theorem dig_str : (⟨#[48, 49, 50, 51, 52, 53, 54, 55, 56, 57]⟩ : ByteArray).data.toList = digL := rfl
theorem abc_row (s : ByteArray) (hs : s.size ≤ maxLen) (w : World) :
    Calls Tryd.prog 23 #[.string s, .string ⟨#[97, 98, 99, 100, 101, 102, 103, 104, 105, 106, 107, 108, 109, 110, 111, 112, 113, 114, 115, 116, 117, 118, 119, 120, 121, 122]⟩] w fun e w' => e = .returned (.int .i64 ((s.data.toList.takeWhile isLet).length : Nat)) ∧ w' = w :=
  row_any s hs _ isLet (fun c => by rw [abc_str]; exact abc_let c) w
theorem dig_row (s : ByteArray) (hs : s.size ≤ maxLen) (w : World) :
    Calls Tryd.prog 23 #[.string s, .string ⟨#[48, 49, 50, 51, 52, 53, 54, 55, 56, 57]⟩] w fun e w' => e = .returned (.int .i64 ((s.data.toList.takeWhile isDig).length : Nat)) ∧ w' = w :=
  row_any s hs _ isDig (fun c => by rw [dig_str]; exact dig_dig c) w

theorem mk_of_data {s : ByteArray} {x : List UInt8} (h : s.data.toList = x) : s = ⟨x.toArray⟩ := by
  subst h; exact (Lib.mk_data s).symm

theorem dig_all {c : UInt8} {r : List UInt8} (h : isDig c = true) : ∀ b ∈ c :: r.takeWhile isDig, isDig b = true := fun b hb => by
  rcases List.mem_cons.1 hb with rfl | hb
  · exact h
  · exact takeWhile_all _ _ b hb

set_option maxHeartbeats 2000000 in
theorem first_any (s : ByteArray) (hs : s.size ≤ 4096) (c : UInt8) (r : List UInt8) (hS : s.data.toList = c :: r) (hb : isBlank c = false) (hh : (c == 35) = false) (w : World) :
    Calls Tryd.prog 16 #[.string s] w fun e w' => FirstR (lexeme c r) e ∧ Below w.heap.size w w' := by
  have hsz : s.size = r.length + 1 := by rw [Lib.size_eq, hS]; rfl
  have hm : s.size ≤ maxLen := by unfold maxLen; omega
  have C1 : Hid (∀ W, Calls Tryd.prog 23 #[.string s, .string ⟨#[97, 98, 99, 100, 101, 102, 103, 104, 105, 106, 107, 108, 109, 110, 111, 112, 113, 114, 115, 116, 117, 118, 119, 120, 121, 122]⟩] W fun e w' => e = .returned (.int .i64 (((c :: r).takeWhile isLet).length : Nat)) ∧ w' = W) := fun W => by
    rw [← hS]; exact abc_row s hm W
  have C2 : Hid (∀ W, Calls Tryd.prog 23 #[.string s, .string ⟨#[48, 49, 50, 51, 52, 53, 54, 55, 56, 57]⟩] W fun e w' => e = .returned (.int .i64 (((c :: r).takeWhile isDig).length : Nat)) ∧ w' = W) := fun W => by
    rw [← hS]; exact dig_row s hm W
  have C3 : Hid (∀ W, Calls Tryd.prog 26 #[.string s] W fun e w' => e = .returned (.tuple #[.int .i64 ((signR c r).1 : Nat), .int .i64 ((signR c r).2 : Nat)]) ∧ w' = W) := fun W => sign_any s hm c r hS W
  by_cases c1 : isLet c = true
  · have hx : lexeme c r = (Lx.tok 1 (c :: r.takeWhile isLet) 0, (r.takeWhile isLet).length) := by
      unfold lexeme
      simp only [hb, c1, Bool.false_eq_true, if_false, if_true]
    rw [hx]
    clear hx
    have ht : ((c :: r).takeWhile isLet).length = (r.takeWhile isLet).length + 1 := by rw [List.takeWhile_cons, if_pos c1]; rfl
    have hle := takeWhile_le isLet r
    have hd : (s.extract 0 ((r.takeWhile isLet).length + 1)).data.toList = c :: r.takeWhile isLet := by
      rw [Lib.extract_data, hS, List.drop_zero, Nat.sub_zero, List.take_succ_cons, takeWhile_take]
    have hE := mk_of_data hd
    obtain ⟨n, hn⟩ : ∃ n, n = (r.takeWhile isLet).length := ⟨_, rfl⟩
    obtain ⟨t, ht2⟩ : ∃ t, t = c :: r.takeWhile isLet := ⟨_, rfl⟩
    rw [← hn] at ht hle hE
    rw [← ht2] at hE
    rw [ht] at C1
    rw [← hn, ← ht2]
    have C4 : Hid (∀ W, Calls Tryd.prog 24 #[.string (s.extract 0 (n + 1))] W fun e w' => e = .returned (.string (s.extract 0 (n + 1))) ∧ Below W.heap.size W w') := fun W => clone_any _ W (by
      rw [ByteArray.size_extract]; omega)
    clear ht2 hn hd ht c1 hS C2 C3 hb hh hm
    have HE : Hid (s.extract 0 (n + 1) = ⟨t.toArray⟩) := hE
    clear hE
    go_enter Tryd.func16, Tryd.ntmps16
    go_wp2_with fail
    refine (C1.out _).mono ?_
    rintro e w1 ⟨rfl, rfl⟩
    go_wp2_with fail
    refine (C4.out _).mono ?_
    rintro e w2 ⟨rfl, hb2⟩
    rw [HE.out]
    have g2 : w2.heap[w.heap.size]? = some (.cells (tv 0 0 ⟨#[]⟩ 0) 52 (0, 0)) := by rw [hb2.block _ (by simp)]; exact heap_new _ _ _ rfl
    have B2 : Below w.heap.size w w2 := ((Below.refl _ _).alloc (Nat.le_refl _) _).trans (hb2.mono (by simp))
    go_wp2_with (first
      | (refine wl_storeE (E := TokE) TokOk rfl _ _ rfl w.heap.size (tv 1 0 ⟨t.toArray⟩ 0) (tv_fits _ _ _ _) rfl rfl _ g2 rfl _ rfl ?_))
    refine retT (p := 2) (u := 3) (u' := 4) rfl rfl w.heap.size rfl (tv 1 0 ⟨t.toArray⟩ 0) rfl (setRow_heap _ _ _ _ _ _ g2) _ _ rfl rfl ⟨rfl, ?_⟩
    exact below_setRow B2 (Nat.le_refl _) _
  have c1' : isLet c = false := by simpa using c1
  have t1 : ((c :: r).takeWhile isLet).length = 0 := by rw [List.takeWhile_cons, if_neg c1]; rfl
  rw [t1] at C1
  clear t1 c1
  by_cases c2 : isDig c = true
  · have hx : lexeme c r = (match numOf (c :: r.takeWhile isDig) with | some n => Lx.tok 2 [] n | Option.none => Lx.err 7, (r.takeWhile isDig).length) := by
      unfold lexeme
      simp only [hb, c1', c2, Bool.false_eq_true, if_false, if_true]
      rfl
    have ht : ((c :: r).takeWhile isDig).length = (r.takeWhile isDig).length + 1 := by rw [List.takeWhile_cons, if_pos c2]; rfl
    have hle := takeWhile_le isDig r
    have hd : (s.extract 0 ((r.takeWhile isDig).length + 1)).data.toList = c :: r.takeWhile isDig := by
      rw [Lib.extract_data, hS, List.drop_zero, Nat.sub_zero, List.take_succ_cons, takeWhile_take]
    have C4 : Hid (∀ W, Calls Tryd.prog 25 #[.string (s.extract 0 ((r.takeWhile isDig).length + 1))] W fun e w' => e = .returned (.tuple #[.int .i64 ((numR (c :: r.takeWhile isDig)).1 : Nat), .int .i64 ((numR (c :: r.takeWhile isDig)).2 : Nat)]) ∧ w' = W) := fun W => by
      have := number_any (s.extract 0 ((r.takeWhile isDig).length + 1)) (by rw [ByteArray.size_extract]; unfold maxLen; omega) (by rw [ByteArray.size_extract]; omega) (by rw [hd]; exact dig_all c2) W
      rwa [hd] at this
    have HX : Hid (∀ m : Int, FirstR (lexeme c r) (.returned (.tuple #[.agg (tv 2 0 ⟨#[]⟩ ((numR (c :: r.takeWhile isDig)).1 : Nat)), .int .i64 (((r.takeWhile isDig).length + 1 : Nat) : Int), .int .i64 ((numR (c :: r.takeWhile isDig)).2 : Nat)]))) := fun _ => by
      rw [hx]
      unfold numR
      cases numOf (c :: r.takeWhile isDig) with
      | some v => exact rfl
      | none => exact ⟨_, _, _, rfl⟩
    obtain ⟨n, hn⟩ : ∃ n, n = (r.takeWhile isDig).length := ⟨_, rfl⟩
    obtain ⟨R, hR⟩ : ∃ R, R = numR (c :: r.takeWhile isDig) := ⟨_, rfl⟩
    rw [← hR, ← hn] at C4 HX
    rw [← hn] at ht hle
    rw [ht] at C2
    clear hR hn hd ht c2 hS C3 hb hh hm hx
    go_enter Tryd.func16, Tryd.ntmps16
    go_wp2_with fail
    refine (C1.out _).mono ?_
    rintro e w1 ⟨rfl, rfl⟩
    go_wp2_with fail
    refine (C2.out _).mono ?_
    rintro e w1 ⟨rfl, rfl⟩
    go_wp2_with fail
    refine (C4.out _).mono ?_
    rintro e w1 ⟨rfl, rfl⟩
    go_wp2_with (first
      | (refine wl_storeE (E := TokE) TokOk rfl _ _ rfl w.heap.size (tv 2 0 ⟨#[]⟩ (R.1 : Nat)) (tv_fits _ _ _ _) rfl rfl _ (heap_new _ _ _ rfl) rfl _ (setRow_new _ _ _ _ _ rfl) ?_))
    refine retT (p := 2) (u := 3) (u' := 4) rfl rfl w.heap.size rfl (tv 2 0 ⟨#[]⟩ (R.1 : Nat)) rfl (heap_new _ _ _ rfl) _ _ rfl rfl ⟨HX.out 0, ?_⟩
    exact (Below.refl _ _).alloc (Nat.le_refl _) _
  have c2' : isDig c = false := by simpa using c2
  have t2 : ((c :: r).takeWhile isDig).length = 0 := by rw [List.takeWhile_cons, if_neg c2]; rfl
  rw [t2] at C2
  clear t2 c2
  have HX : Hid (if (signR c r).2 = 0 then lexeme c r = (Lx.err 6, 0) else ∃ m, (signR c r).2 = m + 1 ∧ lexeme c r = (Lx.tok (signR c r).1 [] 0, m)) := by
    show ite _ _ _
    unfold lexeme signR
    simp only [hb, c1', c2', Bool.false_eq_true, if_false]
    by_cases k1 : (c == 46) = true
    · simp [k1]
    · have k1' : (c == 46) = false := by simpa using k1
      by_cases k2 : (c == 47) = true
      · simp [k1', k2]
      · have k2' : (c == 47) = false := by simpa using k2
        by_cases k3 : (c == 45) = true
        · by_cases k4 : (r.head? == some 62) = true
          · simp only [k1', k2', k3, k4]; simp
          · have k4' : (r.head? == some 62) = false := by simpa using k4
            simp only [k1', k2', k3, k4']; simp
        · have k3' : (c == 45) = false := by simpa using k3
          by_cases k5 : (c == 10) = true
          · simp [k1', k2', k3', k5]
          · have k5' : (c == 10) = false := by simpa using k5
            simp [k1', k2', k3', k5', hh]
  obtain ⟨R, hR⟩ : ∃ R, R = signR c r := ⟨_, rfl⟩
  rw [← hR] at C3 HX
  clear hR hS hb hh hm c1' c2'
  by_cases h0 : R.2 = 0
  · have HY : Hid (lexeme c r = (Lx.err 6, 0)) := by
      have := HX.out
      rwa [if_pos h0] at this
    rw [HY.out]
    rw [h0] at C3
    clear HX h0
    go_enter Tryd.func16, Tryd.ntmps16
    go_wp2_with fail
    refine (C1.out _).mono ?_
    rintro e w1 ⟨rfl, rfl⟩
    go_wp2_with fail
    refine (C2.out _).mono ?_
    rintro e w1 ⟨rfl, rfl⟩
    go_wp2_with fail
    refine (C3.out _).mono ?_
    rintro e w1 ⟨rfl, rfl⟩
    go_wp2_with (first
      | (refine wl_storeE (E := TokE) TokOk rfl _ _ rfl w.heap.size (tv 0 0 ⟨#[]⟩ 0) (tv_fits _ _ _ _) rfl rfl _ (heap_new _ _ _ rfl) rfl _ (setRow_new _ _ _ _ _ rfl) ?_))
    refine retT (p := 2) (u := 3) (u' := 4) rfl rfl w.heap.size rfl (tv 0 0 ⟨#[]⟩ 0) rfl (heap_new _ _ _ rfl) _ _ rfl rfl ⟨⟨_, _, _, rfl⟩, ?_⟩
    exact (Below.refl _ _).alloc (Nat.le_refl _) _
  · obtain ⟨m, hm, hl⟩ : ∃ m, R.2 = m + 1 ∧ lexeme c r = (Lx.tok R.1 [] 0, m) := by
      have := HX.out
      rwa [if_neg h0] at this
    have hm2 : m ≤ r.length := by have := lexeme_le c r; rw [hl] at this; exact this
    rw [hl]
    rw [hm] at C3
    obtain ⟨k, hk⟩ : ∃ k, k = R.1 := ⟨_, rfl⟩
    rw [← hk] at C3 ⊢
    clear HX h0 hl hm hk
    go_enter Tryd.func16, Tryd.ntmps16
    go_wp2_with fail
    refine (C1.out _).mono ?_
    rintro e w1 ⟨rfl, rfl⟩
    go_wp2_with fail
    refine (C2.out _).mono ?_
    rintro e w1 ⟨rfl, rfl⟩
    go_wp2_with fail
    refine (C3.out _).mono ?_
    rintro e w1 ⟨rfl, rfl⟩
    go_wp2_with (first
      | (refine wl_storeE (E := TokE) TokOk rfl _ _ rfl w.heap.size (tv (k : Nat) 0 ⟨#[]⟩ 0) (tv_fits _ _ _ _) rfl rfl _ (heap_new _ _ _ rfl) rfl _ (setRow_new _ _ _ _ _ rfl) ?_))
    refine retT (p := 2) (u := 3) (u' := 4) rfl rfl w.heap.size rfl (tv (k : Nat) 0 ⟨#[]⟩ 0) rfl (heap_new _ _ _ rfl) _ _ rfl rfl ⟨rfl, ?_⟩
    exact (Below.refl _ _).alloc (Nat.le_refl _) _
end Go.Proofs.YtgcfdcgmddjhbaaDoor
