import Derived.Test.YtojhckjdkafpmaaJ1
import Derived.Test.YtojhckjdkafpmaaJ5
import Derived.Shelf.SlSortCmp.KitK
import Derived.Deep.LoopGhost
import Derived.Deep.CutRange
namespace Go.Proofs.Ytojhckjdkafpmaa
open Go Go.Shelf Go.RowKit Go.Lib Go.Sort
set_option maxRecDepth 20000

/-- What the walks of the stable sort ask of a program: its bodies, and their types; an element has k cells. -/
structure StS (P : Program) (k : Nat) : Prop where
  mixed : P.follows .mixedOrders = true
  f_swapRange : P.funcs[81]? = some Try.f81
  f_rotate : P.funcs[80]? = some Try.f80
  f_symMerge : P.funcs[79]? = some Try.f79
  f_insertionSort : P.funcs[78]? = some Try.f78
  f_stable : P.funcs[75]? = some Try.f75
  t0 : P.underlying 0 = some (TypeDesc.tuple #[])
  a0 : ∀ w, (isAgg 0).run P w = .ok false w
  z0 : ∀ w, (Go.sizeOf 0).run P w = .ok 1 w
  v0 : ∀ w, (zeroValue 0).run P w = .ok (Value.tuple #[]) w
  t3 : P.underlying 3 = some (TypeDesc.int IntKind.i64)
  a3 : ∀ w, (isAgg 3).run P w = .ok false w
  z3 : ∀ w, (Go.sizeOf 3).run P w = .ok 1 w
  v3 : ∀ w, (zeroValue 3).run P w = .ok (Value.int IntKind.i64 0) w
  t4 : P.underlying 4 = some (TypeDesc.bool)
  a4 : ∀ w, (isAgg 4).run P w = .ok false w
  z4 : ∀ w, (Go.sizeOf 4).run P w = .ok 1 w
  v4 : ∀ w, (zeroValue 4).run P w = .ok (Value.bool false) w
  tS : P.underlying 43 = some (TypeDesc.slice 38)
  aS : ∀ w, (isAgg 43).run P w = .ok false w
  zS : ∀ w, (Go.sizeOf 43).run P w = .ok 1 w
  vS : ∀ w, (zeroValue 43).run P w = .ok (Value.slice none 0 0) w
  tF : P.underlying 93 = some (TypeDesc.func #[38, 38] #[3] false)
  aF : ∀ w, (isAgg 93).run P w = .ok false w
  zF : ∀ w, (Go.sizeOf 93).run P w = .ok 1 w
  vF : ∀ w, (zeroValue 93).run P w = .ok (Value.nilFunc) w
  tU : P.underlying 104 = some (TypeDesc.int IntKind.u64)
  aU : ∀ w, (isAgg 104).run P w = .ok false w
  zU : ∀ w, (Go.sizeOf 104).run P w = .ok 1 w
  vU : ∀ w, (zeroValue 104).run P w = .ok (Value.int IntKind.u64 0) w
  aE : ∀ w, (isAgg 38).run P w = .ok true w
  zE : ∀ w, (Go.sizeOf 38).run P w = .ok k w
theorem stS : StS Try.prog 36 where
  mixed := by kernel_rfl
  f_swapRange := Try.func81
  f_rotate := Try.func80
  f_symMerge := Try.func79
  f_insertionSort := Try.func78
  f_stable := Try.func75
  t0 := Try.underlying0
  a0 := fun w => by kernel_rfl
  z0 := fun w => by kernel_rfl
  v0 := fun w => by kernel_rfl
  t3 := Try.underlying3
  a3 := fun w => by kernel_rfl
  z3 := fun w => by kernel_rfl
  v3 := fun w => by kernel_rfl
  t4 := Try.underlying4
  a4 := fun w => by kernel_rfl
  z4 := fun w => by kernel_rfl
  v4 := fun w => by kernel_rfl
  tS := Try.underlying43
  aS := fun w => by kernel_rfl
  zS := fun w => by kernel_rfl
  vS := fun w => by kernel_rfl
  tF := Try.underlying93
  aF := fun w => by kernel_rfl
  zF := fun w => by kernel_rfl
  vF := fun w => by kernel_rfl
  tU := Try.underlying104
  aU := fun w => by kernel_rfl
  zU := fun w => by kernel_rfl
  vU := fun w => by kernel_rfl
  aE := fun w => by kernel_rfl
  zE := fun w => by kernel_rfl

variable {α : Type} [Inhabited α]
set_option maxHeartbeats 8000000 in
set_option maxRecDepth 1000000 in
/-- slices.swapRangeCmpFunc: it exchanges and does not compare. -/
theorem swapRangeS {P : Program} {k : Nat} (L : StS P k) (enc : α → List Value) (g : Nat) (cb : Array Value) (blk off cap a b n : Nat) (d0 d : Array α) (w0 w : World)
    (R : RowK enc k w0 blk off d0) (hs : d0.size = d.size) (S : SWK enc k w0 blk off d w) (hab : a + n ≤ b) (hb : b + n ≤ d.size) (hsz : d.size < 4611686018427387904) :
    Calls P 81 #[.slice (some ⟨blk, off, none⟩) d.size cap, .int .i64 a, .int .i64 b, .int .i64 n, .func (.func g) #[] cb] w fun e w' => e = .returned (.tuple #[]) ∧ ∃ d', d'.size = d.size ∧ SWK enc k w0 blk off d' w' ∧ arrF d' = swapF (arrF d) a b n := by
  have mixed := L.mixed
  have t0 := L.t0; have a0 := L.a0; have z0 := L.z0; have v0 := L.v0
  have t3 := L.t3; have a3 := L.a3; have z3 := L.z3; have v3 := L.v3
  have t4 := L.t4; have a4 := L.a4; have z4 := L.z4; have v4 := L.v4
  have tS := L.tS; have aS := L.aS; have zS := L.zS; have vS := L.vS
  have tF := L.tF; have aF := L.aF; have zF := L.zF; have vF := L.vF
  have aE := L.aE; have zE := L.zE
  have FG := L.f_swapRange
  have S0 : Aside (SWK enc k w0 blk off d w) := S
  clear S
  go_enter FG, Try.ntmps81
  go_wp2
  go_loopg [10] n (fun kx s10 wr => ∃ (i : Nat) (dk : Array α), s10 = .int .i64 i ∧ i ≤ n ∧ n - i ≤ kx ∧ dk.size = d.size ∧ Aside (SWK enc k w0 blk off dk wr) ∧ Hid (arrF dk = swapF (arrF d) a b i))
  case atStart => exact ⟨0, d, rfl, Nat.zero_le _, Nat.le_refl _, rfl, S0, (swap_zero _ _ _).symm⟩
  case round =>
    clear S0
    obtain ⟨i, dk, rfl, hin, hkx, hds, S1, HE⟩ := hrel
    by_cases hlt : i < n
    · have hltz : (i : Int) < (n : Int) := by omega
      go_wp2_with fail
      have ea44 : ((a : Int) + (i : Int)).toNat = a + i := by omega
      have pa44 : (0 : Int) ≤ (a : Int) + (i : Int) := by omega
      have ba44 : (a : Int) + (i : Int) < (d.size : Int) := by omega
      have ra44 : IntKind.i64.wrap ((a : Int) + (i : Int)) = (a : Int) + (i : Int) := by rw [IntKind.wrap_i64]; omega
      have ec44 : ((b : Int) + (i : Int)).toNat = b + i := by omega
      have pc44 : (0 : Int) ≤ (b : Int) + (i : Int) := by omega
      have bc44 : (b : Int) + (i : Int) < (d.size : Int) := by omega
      have rc44 : IntKind.i64.wrap ((b : Int) + (i : Int)) = (b : Int) + (i : Int) := by rw [IntKind.wrap_i64]; omega
      have S2 : Aside (SWK enc k w0 blk off (swp dk (a + i) (b + i)) ((wr.drew.setCells blk (off + (a + i) * k) (enc dk[b + i]!)).setCells blk (off + (b + i) * k) (enc dk[a + i]!))) := S1.out.swapped R (a + i) (b + i) (by omega) (by omega)
      have HE2 : Hid (arrF (swp dk (a + i) (b + i)) = swapF (arrF d) a b (i + 1)) := by
        show _ = _
        rw [swp_fun dk _ _ (by omega) (by omega), HE.out, swap_step _ _ _ _ (by omega)]
      have l44a := S1.out.ld1 R (by omega) P (a + i) (by omega)
      have l44b := S1.out.ld1 R (by omega) P (b + i) (by omega)
      have s44a := S1.out.st1 R (by omega) P (a + i) (by omega) dk[b + i]!
      have s44b := S1.out.st2 R (by omega) P (a + i) (b + i) (by omega) (by omega) dk[b + i]! dk[a + i]!
      have n44a : (enc dk[a + i]!).length = k := R.hk _
      have n44b : (enc dk[b + i]!).length = k := R.hk _
      generalize enc dk[a + i]! = cI44 at S2 l44a s44b n44a
      generalize enc dk[b + i]! = cJ44 at S2 l44b s44a s44b n44b
      clear S1
      go_wp2_with fail
      go_big_region_o
      clear l44a l44b s44a s44b
      generalize (wr.drew.setCells blk (off + (a + i) * k) cJ44).setCells blk (off + (b + i) * k) cI44 = w2 at S2 ⊢
      go_wp2
      go_roundg (n - (i + 1))
      case measure => omega
      case rel => exact ⟨i + 1, swp dk (a + i) (b + i), by go_num, by omega, Nat.le_refl _, by rw [size_swp]; exact hds, S2, HE2⟩
    · have hltz : ¬ (i : Int) < (n : Int) := by omega
      obtain rfl : i = n := by omega
      go_wp2
      go_end0
      exact ⟨rfl, dk, hds, S1.out, HE.out⟩
end Go.Proofs.Ytojhckjdkafpmaa
namespace Go.Proofs.Ytojhckjdkafpmaa
open Go Go.Shelf Go.RowKit Go.Lib Go.Sort
set_option maxRecDepth 20000

variable {α : Type} [Inhabited α]
set_option maxHeartbeats 8000000 in
set_option maxRecDepth 1000000 in
/-- slices.rotateCmpFunc: two parts side by side are laid the other way round. -/
theorem rotateS {P : Program} {k : Nat} (L : StS P k) (enc : α → List Value) (g : Nat) (cb : Array Value) (blk off cap a m b : Nat) (d0 d : Array α) (w0 w : World)
    (R : RowK enc k w0 blk off d0) (hs : d0.size = d.size) (S : SWK enc k w0 blk off d w) (ham : a < m) (hmb : m < b) (hb : b ≤ d.size) (hsz : d.size < 4611686018427387904) :
    Calls P 80 #[.slice (some ⟨blk, off, none⟩) d.size cap, .int .i64 a, .int .i64 m, .int .i64 b, .func (.func g) #[] cb] w fun e w' => e = .returned (.tuple #[]) ∧ ∃ d', d'.size = d.size ∧ SWK enc k w0 blk off d' w' ∧ arrF d' = rotF (arrF d) a m b := by
  have mixed := L.mixed
  have t0 := L.t0; have a0 := L.a0; have z0 := L.z0; have v0 := L.v0
  have t3 := L.t3; have a3 := L.a3; have z3 := L.z3; have v3 := L.v3
  have t4 := L.t4; have a4 := L.a4; have z4 := L.z4; have v4 := L.v4
  have tS := L.tS; have aS := L.aS; have zS := L.zS; have vS := L.vS
  have tF := L.tF; have aF := L.aF; have zF := L.zF; have vF := L.vF
  have aE := L.aE; have zE := L.zE
  have FG := L.f_rotate
  have e81 : ∀ args w, (callFunc 81 args).run P w = .ok (.enter 81 args) w := enters_of L.f_swapRange (by kernel_rfl) rfl
  have S0 : Aside (SWK enc k w0 blk off d w) := S
  clear S
  have LL : Hid (StS P k) := L
  clear L
  go_enter FG, Try.ntmps80
  go_wp2
  go_loopg [10, 11] (b - a) (fun kx s10 s11 wr => ∃ (i j : Nat) (dk : Array α), s10 = .int .i64 i ∧ s11 = .int .i64 j ∧ 0 < i ∧ 0 < j ∧ i ≤ m ∧ m + j ≤ b ∧ i + j ≤ kx ∧ dk.size = d.size ∧ Aside (SWK enc k w0 blk off dk wr) ∧ Hid (rotF (arrF dk) (m - i) m (m + j) = rotF (arrF d) a m b))
  case atStart => exact ⟨m - a, b - m, d, by rw [show ((m - a : Nat) : Int) = (m : Int) - (a : Int) by omega], by rw [show ((b - m : Nat) : Int) = (b : Int) - (m : Int) by omega], by omega, by omega, by omega, by omega, by omega, rfl, S0, by show _ = _; rw [show m - (m - a) = a by omega, show m + (b - m) = b by omega]⟩
  case round =>
    clear S0
    obtain ⟨i, j, dk, rfl, rfl, hi0, hj0, him, hjb, hkx, hds, S1, HE⟩ := hrel
    have em : ((m - i : Nat) : Int) = (m : Int) - (i : Int) := by omega
    by_cases hij : i = j
    · subst hij
      have hc := swapRangeS LL.out enc g cb blk off cap (m - i) m i d0 dk w0 wr R (by omega) S1.out (by omega) (by omega) (by omega)
      rw [em, hds] at hc
      have HE2 : Hid (∀ d' : Array α, arrF d' = swapF (arrF dk) (m - i) m i → arrF d' = rotF (arrF d) a m b) := fun d' h => by rw [h, rot_end _ _ _ him, HE.out]
      clear S1 HE
      go_wp2_with (go_at_fn 81; refine hc.mono ?_; rintro e w1 ⟨rfl, d', hd', S3, hE⟩)
      go_end0
      exact ⟨rfl, d', hd', S3, HE2.out d' hE⟩
    · have hijz : ¬ (i : Int) = (j : Int) := by omega
      by_cases hlt : j < i
      · have hltz : (j : Int) < (i : Int) := by omega
        have hc := swapRangeS LL.out enc g cb blk off cap (m - i) m j d0 dk w0 wr R (by omega) S1.out (by omega) (by omega) (by omega)
        rw [em, hds] at hc
        have HE2 : Hid (∀ d' : Array α, arrF d' = swapF (arrF dk) (m - i) m j → rotF (arrF d') (m - (i - j)) m (m + j) = rotF (arrF d) a m b) := fun d' h => by rw [h, rot_left _ _ _ _ him hlt hj0, HE.out]
        clear S1 HE
        go_wp2_with (go_at_fn 81; refine hc.mono ?_; rintro e w1 ⟨rfl, d', hd', S3, hE⟩)
        go_roundg (i - j + j)
        case measure => omega
        case rel => exact ⟨i - j, j, d', by rw [show ((i - j : Nat) : Int) = (i : Int) - (j : Int) by omega], rfl, by omega, hj0, by omega, hjb, by omega, hd', S3, HE2.out d' hE⟩
      · have hltz : ¬ (j : Int) < (i : Int) := by omega
        have hc := swapRangeS LL.out enc g cb blk off cap (m - i) (m + j - i) i d0 dk w0 wr R (by omega) S1.out (by omega) (by omega) (by omega)
        rw [em, show ((m + j - i : Nat) : Int) = (m : Int) + (j : Int) - (i : Int) by omega, hds] at hc
        have HE2 : Hid (∀ d' : Array α, arrF d' = swapF (arrF dk) (m - i) (m + j - i) i → rotF (arrF d') (m - i) m (m + (j - i)) = rotF (arrF d) a m b) := fun d' h => by rw [h, rot_right _ _ _ _ him (by omega) hi0, HE.out]
        clear S1 HE
        go_wp2_with (go_at_fn 81; refine hc.mono ?_; rintro e w1 ⟨rfl, d', hd', S3, hE⟩)
        go_roundg (i + (j - i))
        case measure => omega
        case rel => exact ⟨i, j - i, d', rfl, by rw [show ((j - i : Nat) : Int) = (j : Int) - (i : Int) by omega], hi0, by omega, him, by omega, by omega, hd', S3, HE2.out d' hE⟩
end Go.Proofs.Ytojhckjdkafpmaa
namespace Go.Proofs.Ytojhckjdkafpmaa
open Go Go.Shelf Go.RowKit Go.Lib Go.Sort
set_option maxRecDepth 20000

variable {α : Type} [Inhabited α]
set_option maxHeartbeats 16000000 in
set_option maxRecDepth 1000000 in
/-- slices.symMergeCmpFunc where the first part is one element. -/
theorem symS_one {P : Program} {k : Nat} (L : StS P k) (enc : α → List Value) (p : α → Int) (cf : α → α → Int) (hcf : ∀ x y, cf x y < 0 ↔ p y < p x) (g : Nat) (cb : Array Value) (blk off cap : Nat) (d0 : Array α) (w0 : World)
    (eg : ∀ args w, (callFunc g args).run P w = .ok (.enter g args) w) (hcmp : CmpLays P g cb enc k cf blk off d0.size w0) (R : RowK enc k w0 blk off d0) (a m b : Nat) (hm : m = a + 1) (d : Array α) (w : World) (hs : d0.size = d.size) (S : SWK enc k w0 blk off d w) (hab : m < b) (hb : b ≤ d.size) (hsz : d.size < 4611686018427387904) (hY : DescF p (arrF d) m b) :
    Calls P 79 #[.slice (some ⟨blk, off, none⟩) d.size cap, .int .i64 a, .int .i64 m, .int .i64 b, .func (.func g) #[] cb] w fun e w' => e = .returned (.tuple #[]) ∧ ∃ d', d'.size = d.size ∧ SWK enc k w0 blk off d' w' ∧ Merged p (arrF d) (arrF d') a b := by
  have mixed := L.mixed
  have t0 := L.t0; have a0 := L.a0; have z0 := L.z0; have v0 := L.v0
  have t3 := L.t3; have a3 := L.a3; have z3 := L.z3; have v3 := L.v3
  have t4 := L.t4; have a4 := L.a4; have z4 := L.z4; have v4 := L.v4
  have tS := L.tS; have aS := L.aS; have zS := L.zS; have vS := L.vS
  have tF := L.tF; have aF := L.aF; have zF := L.zF; have vF := L.vF
  have tU := L.tU; have aU := L.aU; have zU := L.zU; have vU := L.vU
  have aE := L.aE; have zE := L.zE
  have FG := L.f_symMerge
  have HC : Aside _ := hcmp
  have S0 : Aside (SWK enc k w0 blk off d w) := S
  have HF : Hid (∀ x y, cf x y < 0 ↔ p y < p x) := hcf
  have HY : Hid (DescF p (arrF d) m b) := hY
  have HM : Hid (m = a + 1) := hm
  have hmz : (m : Int) - (a : Int) = 1 := by omega
  have ham : a < m := by omega
  clear hcmp S hcf hY L hm
  go_enter FG, Try.ntmps79
  go_wp2
  go_loopg [10, 11] (b - m) (fun kx s10 s11 wr => ∃ (i j : Nat), s10 = .int .i64 i ∧ s11 = .int .i64 j ∧ m ≤ i ∧ i ≤ j ∧ j ≤ b ∧ j - i ≤ kx ∧ Aside (SWK enc k w0 blk off d wr) ∧ Hid (i = m ∨ p (arrF d a) < p (arrF d (i - 1))) ∧ Hid (j = b ∨ p (arrF d j) ≤ p (arrF d a)))
  case atStart => exact ⟨m, b, rfl, rfl, Nat.le_refl _, by omega, Nat.le_refl _, Nat.le_refl _, S0, .inl rfl, .inl rfl⟩
  case round =>
    clear S0
    obtain ⟨i, j, rfl, rfl, hai, hij, hjb, hkx, S1, HI, HJ⟩ := hrel
    by_cases hlt : i < j
    · have hltz : (i : Int) < (j : Int) := by omega
      obtain ⟨h, hh⟩ : ∃ h, h = (i + j) / 2 := ⟨_, rfl⟩
      have hhz : ((i : Int) + (j : Int)) / 2 = (h : Int) := by omega
      have hh1 : i ≤ h := by omega
      have hh2 : h < j := by omega
      clear hh
      by_cases hv : cf d[h]! d[a]! < 0
      · have HN : Hid (h + 1 = m ∨ p (arrF d a) < p (arrF d (h + 1 - 1))) := .inr ((HF.out _ _).1 hv)
        have ea24 : ((h : Int)).toNat = h := by omega
        have pa24 : (0 : Int) ≤ (h : Int) := by omega
        have ba24 : (h : Int) < (d.size : Int) := by omega
        have ra24 : IntKind.i64.wrap ((h : Int)) = (h : Int) := by rw [IntKind.wrap_i64]; omega
        have ec24 : ((a : Int)).toNat = a := by omega
        have pc24 : (0 : Int) ≤ (a : Int) := by omega
        have bc24 : (a : Int) < (d.size : Int) := by omega
        have rc24 : IntKind.i64.wrap ((a : Int)) = (a : Int) := by rw [IntKind.wrap_i64]; omega
        obtain ⟨x24, hx24⟩ : ∃ x, x = d[h]! := ⟨_, rfl⟩
        obtain ⟨y24, hy24⟩ : ∃ x, x = d[a]! := ⟨_, rfl⟩
        have l24a := S1.out.ld R (by omega) P (h) (by omega)
        have l24b := S1.out.ld R (by omega) P (a) (by omega)
        rw [← hx24] at l24a
        rw [← hy24] at l24b
        have hc24 := S1.out.cmp HC.out (by omega) x24 y24
        have hv24 : cf x24 y24 < 0 := by rw [hx24, hy24]; exact hv
        have hd24 : decide (cf x24 y24 < 0) = true := decide_eq_true hv24
        clear hx24 hy24 hv
        go_wp2_with fail
        go_quiet_grown (first | (go_at_fn g; refine Calls.grown_of (hc24 _ _)))
        have S2 : Aside (SWK enc k w0 blk off d (grow (wr.drewN nq) osq)) := S1.out.grown nq osq
        clear l24a l24b hc24 S1
        generalize grow (wr.drewN nq) osq = w2 at S2 ⊢
        clear nq osq
        go_wp2
        go_roundg (j - (h + 1))
        case measure => omega
        case rel => exact ⟨h + 1, j, by go_num, rfl, by omega, by omega, hjb, Nat.le_refl _, S2, HN, HJ⟩
      · have HN : Hid (h = b ∨ p (arrF d h) ≤ p (arrF d a)) := .inr (by have := mt (HF.out d[h]! d[a]!).2 hv; exact Int.not_lt.1 this)
        have ea25 : ((h : Int)).toNat = h := by omega
        have pa25 : (0 : Int) ≤ (h : Int) := by omega
        have ba25 : (h : Int) < (d.size : Int) := by omega
        have ra25 : IntKind.i64.wrap ((h : Int)) = (h : Int) := by rw [IntKind.wrap_i64]; omega
        have ec25 : ((a : Int)).toNat = a := by omega
        have pc25 : (0 : Int) ≤ (a : Int) := by omega
        have bc25 : (a : Int) < (d.size : Int) := by omega
        have rc25 : IntKind.i64.wrap ((a : Int)) = (a : Int) := by rw [IntKind.wrap_i64]; omega
        obtain ⟨x25, hx25⟩ : ∃ x, x = d[h]! := ⟨_, rfl⟩
        obtain ⟨y25, hy25⟩ : ∃ x, x = d[a]! := ⟨_, rfl⟩
        have l25a := S1.out.ld R (by omega) P (h) (by omega)
        have l25b := S1.out.ld R (by omega) P (a) (by omega)
        rw [← hx25] at l25a
        rw [← hy25] at l25b
        have hc25 := S1.out.cmp HC.out (by omega) x25 y25
        have hv25 : ¬ cf x25 y25 < 0 := by rw [hx25, hy25]; exact hv
        have hd25 : decide (cf x25 y25 < 0) = false := decide_eq_false hv25
        clear hx25 hy25 hv
        go_wp2_with fail
        go_quiet_grown (first | (go_at_fn g; refine Calls.grown_of (hc25 _ _)))
        have S2 : Aside (SWK enc k w0 blk off d (grow (wr.drewN nq) osq)) := S1.out.grown nq osq
        clear l25a l25b hc25 S1
        generalize grow (wr.drewN nq) osq = w2 at S2 ⊢
        clear nq osq
        go_wp2
        go_roundg (h - i)
        case measure => omega
        case rel => exact ⟨i, h, rfl, rfl, hai, hh1, by omega, Nat.le_refl _, S2, HI, HN⟩
    · have hltz : ¬ (i : Int) < (j : Int) := by omega
      obtain rfl : i = j := by omega
      go_wp2
      go_loopg [13] b (fun kx s13 wr2 => ∃ (q : Nat) (dk : Array α), s13 = .int .i64 q ∧ a ≤ q ∧ q + 1 ≤ i ∧ i - q ≤ kx ∧ dk.size = d.size ∧ Aside (SWK enc k w0 blk off dk wr2) ∧ Hid (arrF dk = rotF (arrF d) a (a + 1) (q + 1)))
      case atStart => exact ⟨a, d, rfl, Nat.le_refl _, by omega, by omega, rfl, S1, (rot_up0 _ _).symm⟩
      case round =>
        clear S1
        obtain ⟨q, dk, rfl, haq, hqi, hkx2, hds, S1, HE⟩ := hrel
        by_cases hq : q + 1 < i
        · have hqz : (q : Int) < (i : Int) - 1 := by omega
          have HE2 : Hid (arrF (swp dk q (q + 1)) = rotF (arrF d) a (a + 1) (q + 1 + 1)) := by
            show _ = _
            rw [swp_fun dk _ _ (by omega) (by omega), HE.out, rot_up _ _ _ haq]
          go_wp2_with fail
          have ea44 : ((q : Int)).toNat = q := by omega
          have pa44 : (0 : Int) ≤ (q : Int) := by omega
          have ba44 : (q : Int) < (d.size : Int) := by omega
          have ra44 : IntKind.i64.wrap ((q : Int)) = (q : Int) := by rw [IntKind.wrap_i64]; omega
          have ec44 : ((q : Int) + 1).toNat = q + 1 := by omega
          have pc44 : (0 : Int) ≤ (q : Int) + 1 := by omega
          have bc44 : (q : Int) + 1 < (d.size : Int) := by omega
          have rc44 : IntKind.i64.wrap ((q : Int) + 1) = (q : Int) + 1 := by rw [IntKind.wrap_i64]; omega
          have S2 : Aside (SWK enc k w0 blk off (swp dk (q) (q + 1)) ((wr.drew.setCells blk (off + (q) * k) (enc dk[q + 1]!)).setCells blk (off + (q + 1) * k) (enc dk[q]!))) := S1.out.swapped R (q) (q + 1) (by omega) (by omega)
          have l44a := S1.out.ld1 R (by omega) P (q) (by omega)
          have l44b := S1.out.ld1 R (by omega) P (q + 1) (by omega)
          have s44a := S1.out.st1 R (by omega) P (q) (by omega) dk[q + 1]!
          have s44b := S1.out.st2 R (by omega) P (q) (q + 1) (by omega) (by omega) dk[q + 1]! dk[q]!
          have n44a : (enc dk[q]!).length = k := R.hk _
          have n44b : (enc dk[q + 1]!).length = k := R.hk _
          generalize enc dk[q]! = cI44 at S2 l44a s44b n44a
          generalize enc dk[q + 1]! = cJ44 at S2 l44b s44a s44b n44b
          clear S1
          go_wp2_with fail
          go_big_region_o
          clear l44a l44b s44a s44b
          generalize (wr.drew.setCells blk (off + (q) * k) cJ44).setCells blk (off + (q + 1) * k) cI44 = w2 at S2 ⊢
          go_wp2
          go_roundg (i - (q + 1))
          case measure => omega
          case rel => exact ⟨q + 1, swp dk q (q + 1), by go_num, by omega, by omega, Nat.le_refl _, by rw [size_swp]; exact hds, S2, HE2⟩
        · have hqz : ¬ (q : Int) < (i : Int) - 1 := by omega
          obtain rfl : i = q + 1 := by omega
          go_wp2
          (try simp only [Exit.inBlock, Exit.then]); refine bodyPost_ret (results_none rfl _ _ _) rfl ?_
          refine ⟨rfl, dk, hds, S1.out, ?_⟩
          rw [HE.out]
          obtain rfl := HM.out
          exact merged_one (by omega) hjb HY.out HI.out HJ.out
set_option maxHeartbeats 16000000 in
set_option maxRecDepth 1000000 in
/-- slices.symMergeCmpFunc where the second part is one element. -/
theorem symS_last {P : Program} {k : Nat} (L : StS P k) (enc : α → List Value) (p : α → Int) (cf : α → α → Int) (hcf : ∀ x y, cf x y < 0 ↔ p y < p x) (g : Nat) (cb : Array Value) (blk off cap : Nat) (d0 : Array α) (w0 : World)
    (eg : ∀ args w, (callFunc g args).run P w = .ok (.enter g args) w) (hcmp : CmpLays P g cb enc k cf blk off d0.size w0) (R : RowK enc k w0 blk off d0) (a m b : Nat) (hm : b = m + 1) (d : Array α) (w : World) (hs : d0.size = d.size) (S : SWK enc k w0 blk off d w) (ham : a + 1 < m) (hb : b ≤ d.size) (hsz : d.size < 4611686018427387904) (hX : DescF p (arrF d) a m) :
    Calls P 79 #[.slice (some ⟨blk, off, none⟩) d.size cap, .int .i64 a, .int .i64 m, .int .i64 b, .func (.func g) #[] cb] w fun e w' => e = .returned (.tuple #[]) ∧ ∃ d', d'.size = d.size ∧ SWK enc k w0 blk off d' w' ∧ Merged p (arrF d) (arrF d') a b := by
  have mixed := L.mixed
  have t0 := L.t0; have a0 := L.a0; have z0 := L.z0; have v0 := L.v0
  have t3 := L.t3; have a3 := L.a3; have z3 := L.z3; have v3 := L.v3
  have t4 := L.t4; have a4 := L.a4; have z4 := L.z4; have v4 := L.v4
  have tS := L.tS; have aS := L.aS; have zS := L.zS; have vS := L.vS
  have tF := L.tF; have aF := L.aF; have zF := L.zF; have vF := L.vF
  have tU := L.tU; have aU := L.aU; have zU := L.zU; have vU := L.vU
  have aE := L.aE; have zE := L.zE
  have FG := L.f_symMerge
  have HC : Aside _ := hcmp
  have S0 : Aside (SWK enc k w0 blk off d w) := S
  have HF : Hid (∀ x y, cf x y < 0 ↔ p y < p x) := hcf
  have HX : Hid (DescF p (arrF d) a m) := hX
  have hne : (((m : Int) - (a : Int)) == 1) = false := by simp; omega
  have HM : Hid (b = m + 1) := hm
  have hmz : (b : Int) - (m : Int) = 1 := by omega
  have hmb : m < b := by omega
  clear hcmp S hcf hX L hm
  go_enter FG, Try.ntmps79
  go_wp2
  go_loopg [14, 15] (m - a) (fun kx s10 s11 wr => ∃ (i j : Nat), s10 = .int .i64 i ∧ s11 = .int .i64 j ∧ a ≤ i ∧ i ≤ j ∧ j ≤ m ∧ j - i ≤ kx ∧ Aside (SWK enc k w0 blk off d wr) ∧ Hid (i = a ∨ p (arrF d m) ≤ p (arrF d (i - 1))) ∧ Hid (j = m ∨ p (arrF d j) < p (arrF d m)))
  case atStart => exact ⟨a, m, rfl, rfl, Nat.le_refl _, by omega, Nat.le_refl _, Nat.le_refl _, S0, .inl rfl, .inl rfl⟩
  case round =>
    clear S0
    obtain ⟨i, j, rfl, rfl, hai, hij, hjb, hkx, S1, HI, HJ⟩ := hrel
    by_cases hlt : i < j
    · have hltz : (i : Int) < (j : Int) := by omega
      obtain ⟨h, hh⟩ : ∃ h, h = (i + j) / 2 := ⟨_, rfl⟩
      have hhz : ((i : Int) + (j : Int)) / 2 = (h : Int) := by omega
      have hh1 : i ≤ h := by omega
      have hh2 : h < j := by omega
      clear hh
      by_cases hv : cf d[m]! d[h]! < 0
      · have HN : Hid (h = m ∨ p (arrF d h) < p (arrF d m)) := .inr ((HF.out _ _).1 hv)
        have ea24 : ((m : Int)).toNat = m := by omega
        have pa24 : (0 : Int) ≤ (m : Int) := by omega
        have ba24 : (m : Int) < (d.size : Int) := by omega
        have ra24 : IntKind.i64.wrap ((m : Int)) = (m : Int) := by rw [IntKind.wrap_i64]; omega
        have ec24 : ((h : Int)).toNat = h := by omega
        have pc24 : (0 : Int) ≤ (h : Int) := by omega
        have bc24 : (h : Int) < (d.size : Int) := by omega
        have rc24 : IntKind.i64.wrap ((h : Int)) = (h : Int) := by rw [IntKind.wrap_i64]; omega
        obtain ⟨x24, hx24⟩ : ∃ x, x = d[m]! := ⟨_, rfl⟩
        obtain ⟨y24, hy24⟩ : ∃ x, x = d[h]! := ⟨_, rfl⟩
        have l24a := S1.out.ld R (by omega) P (m) (by omega)
        have l24b := S1.out.ld R (by omega) P (h) (by omega)
        rw [← hx24] at l24a
        rw [← hy24] at l24b
        have hc24 := S1.out.cmp HC.out (by omega) x24 y24
        have hv24 : cf x24 y24 < 0 := by rw [hx24, hy24]; exact hv
        have hd24 : decide (cf x24 y24 < 0) = true := decide_eq_true hv24
        clear hx24 hy24 hv
        go_wp2_with fail
        go_quiet_grown (first | (go_at_fn g; refine Calls.grown_of (hc24 _ _)))
        have S2 : Aside (SWK enc k w0 blk off d (grow (wr.drewN nq) osq)) := S1.out.grown nq osq
        clear l24a l24b hc24 S1
        generalize grow (wr.drewN nq) osq = w2 at S2 ⊢
        clear nq osq
        go_wp2
        go_roundg (h - i)
        case measure => omega
        case rel => exact ⟨i, h, rfl, rfl, hai, hh1, by omega, Nat.le_refl _, S2, HI, HN⟩
      · have HN : Hid (h + 1 = a ∨ p (arrF d m) ≤ p (arrF d (h + 1 - 1))) := .inr (by have := mt (HF.out d[m]! d[h]!).2 hv; exact Int.not_lt.1 this)
        have ea25 : ((m : Int)).toNat = m := by omega
        have pa25 : (0 : Int) ≤ (m : Int) := by omega
        have ba25 : (m : Int) < (d.size : Int) := by omega
        have ra25 : IntKind.i64.wrap ((m : Int)) = (m : Int) := by rw [IntKind.wrap_i64]; omega
        have ec25 : ((h : Int)).toNat = h := by omega
        have pc25 : (0 : Int) ≤ (h : Int) := by omega
        have bc25 : (h : Int) < (d.size : Int) := by omega
        have rc25 : IntKind.i64.wrap ((h : Int)) = (h : Int) := by rw [IntKind.wrap_i64]; omega
        obtain ⟨x25, hx25⟩ : ∃ x, x = d[m]! := ⟨_, rfl⟩
        obtain ⟨y25, hy25⟩ : ∃ x, x = d[h]! := ⟨_, rfl⟩
        have l25a := S1.out.ld R (by omega) P (m) (by omega)
        have l25b := S1.out.ld R (by omega) P (h) (by omega)
        rw [← hx25] at l25a
        rw [← hy25] at l25b
        have hc25 := S1.out.cmp HC.out (by omega) x25 y25
        have hv25 : ¬ cf x25 y25 < 0 := by rw [hx25, hy25]; exact hv
        have hd25 : decide (cf x25 y25 < 0) = false := decide_eq_false hv25
        clear hx25 hy25 hv
        go_wp2_with fail
        go_quiet_grown (first | (go_at_fn g; refine Calls.grown_of (hc25 _ _)))
        have S2 : Aside (SWK enc k w0 blk off d (grow (wr.drewN nq) osq)) := S1.out.grown nq osq
        clear l25a l25b hc25 S1
        generalize grow (wr.drewN nq) osq = w2 at S2 ⊢
        clear nq osq
        go_wp2
        go_roundg (j - (h + 1))
        case measure => omega
        case rel => exact ⟨h + 1, j, by go_num, rfl, by omega, by omega, hjb, Nat.le_refl _, S2, HN, HJ⟩
    · have hltz : ¬ (i : Int) < (j : Int) := by omega
      obtain rfl : i = j := by omega
      go_wp2
      go_loopg [17] (m + 1) (fun kx s13 wr2 => ∃ (q : Nat) (dk : Array α), s13 = .int .i64 q ∧ i ≤ q ∧ q ≤ m ∧ q ≤ kx ∧ dk.size = d.size ∧ Aside (SWK enc k w0 blk off dk wr2) ∧ Hid (arrF dk = rotF (arrF d) q m (m + 1)))
      case atStart => exact ⟨m, d, rfl, hjb, Nat.le_refl _, by omega, rfl, S1, (rot_down0 _ _).symm⟩
      case round =>
        clear S1
        obtain ⟨q, dk, rfl, haq, hqi, hkx2, hds, S1, HE⟩ := hrel
        by_cases hq : i < q
        · obtain ⟨q', rfl⟩ : ∃ q', q = q' + 1 := ⟨q - 1, by omega⟩
          have hqz : (i : Int) < (q' : Int) + 1 := by omega
          have HE2 : Hid (arrF (swp dk (q' + 1) q') = rotF (arrF d) q' m (m + 1)) := by
            show _ = _
            rw [swp_fun dk _ _ (by omega) (by omega), HE.out, rot_down _ _ _ (by omega)]
          go_wp2_with fail
          have ea44 : ((q' : Int) + 1).toNat = q' + 1 := by omega
          have pa44 : (0 : Int) ≤ (q' : Int) + 1 := by omega
          have ba44 : (q' : Int) + 1 < (d.size : Int) := by omega
          have ra44 : IntKind.i64.wrap ((q' : Int) + 1) = (q' : Int) + 1 := by rw [IntKind.wrap_i64]; omega
          have ec44 : ((q' : Int)).toNat = q' := by omega
          have pc44 : (0 : Int) ≤ (q' : Int) := by omega
          have bc44 : (q' : Int) < (d.size : Int) := by omega
          have rc44 : IntKind.i64.wrap ((q' : Int)) = (q' : Int) := by rw [IntKind.wrap_i64]; omega
          have S2 : Aside (SWK enc k w0 blk off (swp dk (q' + 1) (q')) ((wr.drew.setCells blk (off + (q' + 1) * k) (enc dk[q']!)).setCells blk (off + (q') * k) (enc dk[q' + 1]!))) := S1.out.swapped R (q' + 1) (q') (by omega) (by omega)
          have l44a := S1.out.ld1 R (by omega) P (q' + 1) (by omega)
          have l44b := S1.out.ld1 R (by omega) P (q') (by omega)
          have s44a := S1.out.st1 R (by omega) P (q' + 1) (by omega) dk[q']!
          have s44b := S1.out.st2 R (by omega) P (q' + 1) (q') (by omega) (by omega) dk[q']! dk[q' + 1]!
          have n44a : (enc dk[q' + 1]!).length = k := R.hk _
          have n44b : (enc dk[q']!).length = k := R.hk _
          generalize enc dk[q' + 1]! = cI44 at S2 l44a s44b n44a
          generalize enc dk[q']! = cJ44 at S2 l44b s44a s44b n44b
          clear S1
          go_wp2_with fail
          go_big_region_o
          clear l44a l44b s44a s44b
          generalize (wr.drew.setCells blk (off + (q' + 1) * k) cJ44).setCells blk (off + (q') * k) cI44 = w2 at S2 ⊢
          go_wp2
          go_roundg q'
          case measure => omega
          case rel => exact ⟨q', swp dk (q' + 1) q', by first | rfl | go_num, by omega, by omega, Nat.le_refl _, by rw [size_swp]; exact hds, S2, HE2⟩
        · have hqz : ¬ (i : Int) < (q : Int) := by omega
          obtain rfl : i = q := by omega
          go_wp2
          (try simp only [Exit.inBlock, Exit.then]); refine bodyPost_ret (results_none rfl _ _ _) rfl ?_
          refine ⟨rfl, dk, hds, S1.out, ?_⟩
          rw [HE.out]
          obtain rfl := HM.out
          exact merged_last hai hjb HX.out HI.out HJ.out
end Go.Proofs.Ytojhckjdkafpmaa
