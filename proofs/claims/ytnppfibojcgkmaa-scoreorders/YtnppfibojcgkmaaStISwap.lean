import Derived.Test.YtnppfibojcgkmaaBase
import Derived.Test.YtnppfibojcgkmaaStMath
import Derived.Shelf.SlSortCmp.Insertion1
import Derived.Deep.LoopGhost
namespace Go.Proofs.Ytnppfibojcgkmaa
open Go Go.Shelf Go.RowKit Go.Lib Go.Sort
set_option maxRecDepth 20000

/-- What the walks of the stable sort ask of a program: its bodies, and their types; an element has k cells. -/
structure StI (P : Program) : Prop where
  mixed : P.follows .mixedOrders = true
  f_swapRange : P.funcs[47]? = some Try.f47
  f_rotate : P.funcs[46]? = some Try.f46
  f_symMerge : P.funcs[45]? = some Try.f45
  f_insertionSort : P.funcs[44]? = some Try.f44
  f_stable : P.funcs[43]? = some Try.f43
  t0 : P.underlying 0 = some (TypeDesc.tuple #[])
  a0 : ∀ w, (isAgg 0).run P w = .ok false w
  z0 : ∀ w, (Go.sizeOf 0).run P w = .ok 1 w
  v0 : ∀ w, (zeroValue 0).run P w = .ok (Value.tuple #[]) w
  t3 : P.underlying 3 = some (TypeDesc.int IntKind.i64)
  a3 : ∀ w, (isAgg 3).run P w = .ok false w
  z3 : ∀ w, (Go.sizeOf 3).run P w = .ok 1 w
  v3 : ∀ w, (zeroValue 3).run P w = .ok (Value.int IntKind.i64 0) w
  t4 : P.underlying 4 = some (TypeDesc.bool)
  a4 : ∀ w, (isAgg 4).run P w = .ok false w
  z4 : ∀ w, (Go.sizeOf 4).run P w = .ok 1 w
  v4 : ∀ w, (zeroValue 4).run P w = .ok (Value.bool false) w
  tS : P.underlying 30 = some (TypeDesc.slice 3)
  aS : ∀ w, (isAgg 30).run P w = .ok false w
  zS : ∀ w, (Go.sizeOf 30).run P w = .ok 1 w
  vS : ∀ w, (zeroValue 30).run P w = .ok (Value.slice none 0 0) w
  tF : P.underlying 52 = some (TypeDesc.func #[3, 3] #[3] false)
  aF : ∀ w, (isAgg 52).run P w = .ok false w
  zF : ∀ w, (Go.sizeOf 52).run P w = .ok 1 w
  vF : ∀ w, (zeroValue 52).run P w = .ok (Value.nilFunc) w
  tU : P.underlying 44 = some (TypeDesc.int IntKind.u64)
  aU : ∀ w, (isAgg 44).run P w = .ok false w
  zU : ∀ w, (Go.sizeOf 44).run P w = .ok 1 w
  vU : ∀ w, (zeroValue 44).run P w = .ok (Value.int IntKind.u64 0) w
theorem stI : StI Try.prog where
  mixed := by kernel_rfl
  f_swapRange := Try.func47
  f_rotate := Try.func46
  f_symMerge := Try.func45
  f_insertionSort := Try.func44
  f_stable := Try.func43
  t0 := Try.underlying0
  a0 := fun w => by kernel_rfl
  z0 := fun w => by kernel_rfl
  v0 := fun w => by kernel_rfl
  t3 := Try.underlying3
  a3 := fun w => by kernel_rfl
  z3 := fun w => by kernel_rfl
  v3 := fun w => by kernel_rfl
  t4 := Try.underlying4
  a4 := fun w => by kernel_rfl
  z4 := fun w => by kernel_rfl
  v4 := fun w => by kernel_rfl
  tS := Try.underlying30
  aS := fun w => by kernel_rfl
  zS := fun w => by kernel_rfl
  vS := fun w => by kernel_rfl
  tF := Try.underlying52
  aF := fun w => by kernel_rfl
  zF := fun w => by kernel_rfl
  vF := fun w => by kernel_rfl
  tU := Try.underlying44
  aU := fun w => by kernel_rfl
  zU := fun w => by kernel_rfl
  vU := fun w => by kernel_rfl

variable {α : Type} [Inhabited α]
set_option maxHeartbeats 8000000 in
set_option maxRecDepth 1000000 in
/-- slices.swapRangeCmpFunc: it exchanges and does not compare. -/
theorem swapRangeI {P : Program} (L : StI P) (enc : α → Value) (g : Nat) (cb : Array Value) (blk off cap a b n : Nat) (d0 d : Array α) (w0 w : World)
    (R : Row1 enc w0 blk off d0) (hs : d0.size = d.size) (S : SW enc w0 blk off d w) (hab : a + n ≤ b) (hb : b + n ≤ d.size) (hsz : d.size < 4611686018427387904) :
    Calls P 47 #[.slice (some ⟨blk, off, none⟩) d.size cap, .int .i64 a, .int .i64 b, .int .i64 n, .func (.func g) #[] cb] w fun e w' => e = .returned (.tuple #[]) ∧ ∃ d', d'.size = d.size ∧ SW enc w0 blk off d' w' ∧ arrF d' = swapF (arrF d) a b n := by
  have mixed := L.mixed
  have t0 := L.t0; have a0 := L.a0; have z0 := L.z0; have v0 := L.v0
  have t3 := L.t3; have a3 := L.a3; have z3 := L.z3; have v3 := L.v3
  have t4 := L.t4; have a4 := L.a4; have z4 := L.z4; have v4 := L.v4
  have tS := L.tS; have aS := L.aS; have zS := L.zS; have vS := L.vS
  have tF := L.tF; have aF := L.aF; have zF := L.zF; have vF := L.vF
  have uS := run_underlying L.tS
  have hcl0 := R.hO.cells
  simp only [Value.cells] at hcl0
  have hst := R.hO.store P
  have FG := L.f_swapRange
  have S0 : Aside (SW enc w0 blk off d w) := S
  clear S
  go_enter FG, Try.ntmps47
  go_wp2
  go_loopg [10] n (fun kx s10 wr => ∃ (i : Nat) (dk : Array α), s10 = .int .i64 i ∧ i ≤ n ∧ n - i ≤ kx ∧ dk.size = d.size ∧ Aside (SW enc w0 blk off dk wr) ∧ Hid (arrF dk = swapF (arrF d) a b i))
  case atStart => exact ⟨0, d, rfl, Nat.zero_le _, Nat.le_refl _, rfl, S0, (swap_zero _ _ _).symm⟩
  case round =>
    clear S0
    obtain ⟨i, dk, rfl, hin, hkx, hds, S1, HE⟩ := hrel
    by_cases hlt : i < n
    · have hltz : (i : Int) < (n : Int) := by omega
      go_wp2_with fail
      obtain ⟨iN44, hiN44⟩ : ∃ q, q = a + i := ⟨_, rfl⟩
      obtain ⟨jN44, hjN44⟩ : ∃ q, q = b + i := ⟨_, rfl⟩
      have ea44 : ((a : Int) + (i : Int)).toNat = iN44 := by omega
      have pa44 : (0 : Int) ≤ (a : Int) + (i : Int) := by omega
      have ba44 : (a : Int) + (i : Int) < (d.size : Int) := by omega
      have ra44 : IntKind.i64.wrap ((a : Int) + (i : Int)) = (a : Int) + (i : Int) := by rw [IntKind.wrap_i64]; omega
      have ec44 : ((b : Int) + (i : Int)).toNat = jN44 := by omega
      have pc44 : (0 : Int) ≤ (b : Int) + (i : Int) := by omega
      have bc44 : (b : Int) + (i : Int) < (d.size : Int) := by omega
      have rc44 : IntKind.i64.wrap ((b : Int) + (i : Int)) = (b : Int) + (i : Int) := by rw [IntKind.wrap_i64]; omega
      obtain ⟨x44, hx44⟩ : ∃ x, x = dk[a + i]! := ⟨_, rfl⟩
      obtain ⟨y44, hy44⟩ : ∃ x, x = dk[b + i]! := ⟨_, rfl⟩
      have S2 : Aside (SW enc w0 blk off (swp dk (a + i) (b + i)) ((wr.setCell ⟨blk, off + iN44, none⟩ (enc y44)).setCell ⟨blk, off + jN44, none⟩ (enc x44)).drew) := by rw [hiN44, hjN44, hx44, hy44]; exact S1.out.swapped R (a + i) (b + i) (by omega) (by omega)
      have HE2 : Hid (arrF (swp dk (a + i) (b + i)) = swapF (arrF d) a b (i + 1)) := by
        show _ = _
        rw [swp_fun dk _ _ (by omega) (by omega), HE.out, swap_step _ _ _ _ (by omega)]
      have c44a := S1.out.c1 R (by omega) (a + i) (by omega)
      have c44b := S1.out.c1 R (by omega) (b + i) (by omega)
      have f44a := S1.out.f1 R (by omega) (a + i) (by omega)
      have f44b := S1.out.f1 R (by omega) (b + i) (by omega)
      obtain ⟨u44, c44c⟩ := S1.out.c2 R (by omega) (a + i) (b + i) (by omega) (by omega) (enc y44)
      rw [← hjN44, ← hiN44] at c44c
      rw [← hx44, ← hiN44] at c44a
      rw [← hy44, ← hjN44] at c44b
      rw [← hiN44] at f44a
      rw [← hjN44] at f44b
      clear S1 hx44 hy44 hiN44 hjN44
      go_wp2_with fail
      go_big_region_o
      clear c44a c44b c44c f44a f44b
      generalize ((wr.setCell ⟨blk, off + iN44, none⟩ (enc y44)).setCell ⟨blk, off + jN44, none⟩ (enc x44)).drew = w2 at S2 ⊢
      clear ea44 ec44
      go_wp2
      go_roundg (n - (i + 1))
      case measure => omega
      case rel => exact ⟨i + 1, swp dk (a + i) (b + i), by go_num, by omega, Nat.le_refl _, by rw [size_swp]; exact hds, S2, HE2⟩
    · have hltz : ¬ (i : Int) < (n : Int) := by omega
      obtain rfl : i = n := by omega
      go_wp2
      go_end0
      exact ⟨rfl, dk, hds, S1.out, HE.out⟩
end Go.Proofs.Ytnppfibojcgkmaa
