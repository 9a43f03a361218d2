import Derived.Test.YthddlchkbnmcaaaGreatDoorJ1
import Derived.Test.YthddlchkbnmcaaaGreatDoorJ2
import Derived.Shelf.SlSortCmp.KitK
import Derived.Deep.LoopGhost
namespace Go.Proofs.YthddlchkbnmcaaaGreatDoor
open Go Go.Shelf Go.RowKit Go.Lib Go.Sort
set_option maxRecDepth 20000

/-- What the walks of the stable sort ask of a program: its bodies, and their types; an element has k cells. -/
structure StP (P : Program) (k : Nat) : Prop where
  mixed : P.follows .mixedOrders = true
  f_swapRange : P.funcs[118]? = some Tryz.f118
  f_rotate : P.funcs[103]? = some Tryz.f103
  f_symMerge : P.funcs[79]? = some Tryz.f79
  f_insertionSort : P.funcs[78]? = some Tryz.f78
  f_stable : P.funcs[50]? = some Tryz.f50
  t0 : P.underlying 0 = some (TypeDesc.tuple #[])
  a0 : ∀ w, (isAgg 0).run P w = .ok false w
  z0 : ∀ w, (Go.sizeOf 0).run P w = .ok 1 w
  v0 : ∀ w, (zeroValue 0).run P w = .ok (Value.tuple #[]) w
  t3 : P.underlying 3 = some (TypeDesc.int IntKind.i64)
  a3 : ∀ w, (isAgg 3).run P w = .ok false w
  z3 : ∀ w, (Go.sizeOf 3).run P w = .ok 1 w
  v3 : ∀ w, (zeroValue 3).run P w = .ok (Value.int IntKind.i64 0) w
  t4 : P.underlying 4 = some (TypeDesc.bool)
  a4 : ∀ w, (isAgg 4).run P w = .ok false w
  z4 : ∀ w, (Go.sizeOf 4).run P w = .ok 1 w
  v4 : ∀ w, (zeroValue 4).run P w = .ok (Value.bool false) w
  tS : P.underlying 22 = some (TypeDesc.slice 35)
  aS : ∀ w, (isAgg 22).run P w = .ok false w
  zS : ∀ w, (Go.sizeOf 22).run P w = .ok 1 w
  vS : ∀ w, (zeroValue 22).run P w = .ok (Value.slice none 0 0) w
  tF : P.underlying 61 = some (TypeDesc.func #[35, 35] #[3] false)
  aF : ∀ w, (isAgg 61).run P w = .ok false w
  zF : ∀ w, (Go.sizeOf 61).run P w = .ok 1 w
  vF : ∀ w, (zeroValue 61).run P w = .ok (Value.nilFunc) w
  tU : P.underlying 160 = some (TypeDesc.int IntKind.u64)
  aU : ∀ w, (isAgg 160).run P w = .ok false w
  zU : ∀ w, (Go.sizeOf 160).run P w = .ok 1 w
  vU : ∀ w, (zeroValue 160).run P w = .ok (Value.int IntKind.u64 0) w
  aE : ∀ w, (isAgg 35).run P w = .ok true w
  zE : ∀ w, (Go.sizeOf 35).run P w = .ok k w
theorem stP : StP Tryz.prog 12 where
  mixed := by kernel_rfl
  f_swapRange := Tryz.func118
  f_rotate := Tryz.func103
  f_symMerge := Tryz.func79
  f_insertionSort := Tryz.func78
  f_stable := Tryz.func50
  t0 := Tryz.underlying0
  a0 := fun w => by kernel_rfl
  z0 := fun w => by kernel_rfl
  v0 := fun w => by kernel_rfl
  t3 := Tryz.underlying3
  a3 := fun w => by kernel_rfl
  z3 := fun w => by kernel_rfl
  v3 := fun w => by kernel_rfl
  t4 := Tryz.underlying4
  a4 := fun w => by kernel_rfl
  z4 := fun w => by kernel_rfl
  v4 := fun w => by kernel_rfl
  tS := Tryz.underlying22
  aS := fun w => by kernel_rfl
  zS := fun w => by kernel_rfl
  vS := fun w => by kernel_rfl
  tF := Tryz.underlying61
  aF := fun w => by kernel_rfl
  zF := fun w => by kernel_rfl
  vF := fun w => by kernel_rfl
  tU := Tryz.underlying160
  aU := fun w => by kernel_rfl
  zU := fun w => by kernel_rfl
  vU := fun w => by kernel_rfl
  aE := fun w => by kernel_rfl
  zE := fun w => by kernel_rfl

variable {α : Type} [Inhabited α]
set_option maxHeartbeats 8000000 in
set_option maxRecDepth 1000000 in
/-- slices.swapRangeCmpFunc: it exchanges and does not compare. -/
theorem swapRange_any {P : Program} {k : Nat} (L : StP P k) (enc : α → List Value) (g : Nat) (cb : Array Value) (blk off cap a b n : Nat) (d0 d : Array α) (w0 w : World)
    (R : RowK enc k w0 blk off d0) (hs : d0.size = d.size) (S : SWK enc k w0 blk off d w) (hab : a + n ≤ b) (hb : b + n ≤ d.size) (hsz : d.size < 4611686018427387904) :
    Calls P 118 #[.slice (some ⟨blk, off, none⟩) d.size cap, .int .i64 a, .int .i64 b, .int .i64 n, .func (.func g) #[] cb] w fun e w' => e = .returned (.tuple #[]) ∧ ∃ d', d'.size = d.size ∧ SWK enc k w0 blk off d' w' ∧ arrF d' = swapF (arrF d) a b n := by
  have mixed := L.mixed
  have t0 := L.t0; have a0 := L.a0; have z0 := L.z0; have v0 := L.v0
  have t3 := L.t3; have a3 := L.a3; have z3 := L.z3; have v3 := L.v3
  have t4 := L.t4; have a4 := L.a4; have z4 := L.z4; have v4 := L.v4
  have tS := L.tS; have aS := L.aS; have zS := L.zS; have vS := L.vS
  have tF := L.tF; have aF := L.aF; have zF := L.zF; have vF := L.vF
  have aE := L.aE; have zE := L.zE
  have FG := L.f_swapRange
  have S0 : Aside (SWK enc k w0 blk off d w) := S
  clear S
  go_enter FG, Tryz.ntmps118
  go_wp2
  go_loopg [10] n (fun kx s10 wr => ∃ (i : Nat) (dk : Array α), s10 = .int .i64 i ∧ i ≤ n ∧ n - i ≤ kx ∧ dk.size = d.size ∧ Aside (SWK enc k w0 blk off dk wr) ∧ Hid (arrF dk = swapF (arrF d) a b i))
  case atStart => exact ⟨0, d, rfl, Nat.zero_le _, Nat.le_refl _, rfl, S0, (swap_zero _ _ _).symm⟩
  case round =>
    clear S0
    obtain ⟨i, dk, rfl, hin, hkx, hds, S1, HE⟩ := hrel
    by_cases hlt : i < n
    · have hltz : (i : Int) < (n : Int) := by omega
      go_wp2_with fail
      have ea44 : ((a : Int) + (i : Int)).toNat = a + i := by omega
      have pa44 : (0 : Int) ≤ (a : Int) + (i : Int) := by omega
      have ba44 : (a : Int) + (i : Int) < (d.size : Int) := by omega
      have ra44 : IntKind.i64.wrap ((a : Int) + (i : Int)) = (a : Int) + (i : Int) := by rw [IntKind.wrap_i64]; omega
      have ec44 : ((b : Int) + (i : Int)).toNat = b + i := by omega
      have pc44 : (0 : Int) ≤ (b : Int) + (i : Int) := by omega
      have bc44 : (b : Int) + (i : Int) < (d.size : Int) := by omega
      have rc44 : IntKind.i64.wrap ((b : Int) + (i : Int)) = (b : Int) + (i : Int) := by rw [IntKind.wrap_i64]; omega
      have S2 : Aside (SWK enc k w0 blk off (swp dk (a + i) (b + i)) ((wr.drew.setCells blk (off + (a + i) * k) (enc dk[b + i]!)).setCells blk (off + (b + i) * k) (enc dk[a + i]!))) := S1.out.swapped R (a + i) (b + i) (by omega) (by omega)
      have HE2 : Hid (arrF (swp dk (a + i) (b + i)) = swapF (arrF d) a b (i + 1)) := by
        show _ = _
        rw [swp_fun dk _ _ (by omega) (by omega), HE.out, swap_step _ _ _ _ (by omega)]
      have l44a := S1.out.ld1 R (by omega) P (a + i) (by omega)
      have l44b := S1.out.ld1 R (by omega) P (b + i) (by omega)
      have s44a := S1.out.st1 R (by omega) P (a + i) (by omega) dk[b + i]!
      have s44b := S1.out.st2 R (by omega) P (a + i) (b + i) (by omega) (by omega) dk[b + i]! dk[a + i]!
      have n44a : (enc dk[a + i]!).length = k := R.hk _
      have n44b : (enc dk[b + i]!).length = k := R.hk _
      generalize enc dk[a + i]! = cI44 at S2 l44a s44b n44a
      generalize enc dk[b + i]! = cJ44 at S2 l44b s44a s44b n44b
      clear S1
      go_wp2_with fail
      go_big_region_o
      clear l44a l44b s44a s44b
      generalize (wr.drew.setCells blk (off + (a + i) * k) cJ44).setCells blk (off + (b + i) * k) cI44 = w2 at S2 ⊢
      go_wp2
      go_roundg (n - (i + 1))
      case measure => omega
      case rel => exact ⟨i + 1, swp dk (a + i) (b + i), by go_num, by omega, Nat.le_refl _, by rw [size_swp]; exact hds, S2, HE2⟩
    · have hltz : ¬ (i : Int) < (n : Int) := by omega
      obtain rfl : i = n := by omega
      go_wp2
      go_end0
      exact ⟨rfl, dk, hds, S1.out, HE.out⟩
end Go.Proofs.YthddlchkbnmcaaaGreatDoor
namespace Go.Proofs.YthddlchkbnmcaaaGreatDoor
open Go Go.Shelf Go.RowKit Go.Lib Go.Sort
set_option maxRecDepth 20000

variable {α : Type} [Inhabited α]
set_option maxHeartbeats 8000000 in
set_option maxRecDepth 1000000 in
/-- slices.rotateCmpFunc: two parts side by side are laid the other way round. -/
theorem rotate_any {P : Program} {k : Nat} (L : StP P k) (enc : α → List Value) (g : Nat) (cb : Array Value) (blk off cap a m b : Nat) (d0 d : Array α) (w0 w : World)
    (R : RowK enc k w0 blk off d0) (hs : d0.size = d.size) (S : SWK enc k w0 blk off d w) (ham : a < m) (hmb : m < b) (hb : b ≤ d.size) (hsz : d.size < 4611686018427387904) :
    Calls P 103 #[.slice (some ⟨blk, off, none⟩) d.size cap, .int .i64 a, .int .i64 m, .int .i64 b, .func (.func g) #[] cb] w fun e w' => e = .returned (.tuple #[]) ∧ ∃ d', d'.size = d.size ∧ SWK enc k w0 blk off d' w' ∧ arrF d' = rotF (arrF d) a m b := by
  have mixed := L.mixed
  have t0 := L.t0; have a0 := L.a0; have z0 := L.z0; have v0 := L.v0
  have t3 := L.t3; have a3 := L.a3; have z3 := L.z3; have v3 := L.v3
  have t4 := L.t4; have a4 := L.a4; have z4 := L.z4; have v4 := L.v4
  have tS := L.tS; have aS := L.aS; have zS := L.zS; have vS := L.vS
  have tF := L.tF; have aF := L.aF; have zF := L.zF; have vF := L.vF
  have aE := L.aE; have zE := L.zE
  have FG := L.f_rotate
  have e118 : ∀ args w, (callFunc 118 args).run P w = .ok (.enter 118 args) w := enters_of L.f_swapRange (by kernel_rfl) rfl
  have S0 : Aside (SWK enc k w0 blk off d w) := S
  clear S
  have LL : Hid (StP P k) := L
  clear L
  go_enter FG, Tryz.ntmps103
  go_wp2
  go_loopg [10, 11] (b - a) (fun kx s10 s11 wr => ∃ (i j : Nat) (dk : Array α), s10 = .int .i64 i ∧ s11 = .int .i64 j ∧ 0 < i ∧ 0 < j ∧ i ≤ m ∧ m + j ≤ b ∧ i + j ≤ kx ∧ dk.size = d.size ∧ Aside (SWK enc k w0 blk off dk wr) ∧ Hid (rotF (arrF dk) (m - i) m (m + j) = rotF (arrF d) a m b))
  case atStart => exact ⟨m - a, b - m, d, by rw [show ((m - a : Nat) : Int) = (m : Int) - (a : Int) by omega], by rw [show ((b - m : Nat) : Int) = (b : Int) - (m : Int) by omega], by omega, by omega, by omega, by omega, by omega, rfl, S0, by show _ = _; rw [show m - (m - a) = a by omega, show m + (b - m) = b by omega]⟩
  case round =>
    clear S0
    obtain ⟨i, j, dk, rfl, rfl, hi0, hj0, him, hjb, hkx, hds, S1, HE⟩ := hrel
    have em : ((m - i : Nat) : Int) = (m : Int) - (i : Int) := by omega
    by_cases hij : i = j
    · subst hij
      have hc := swapRange_any LL.out enc g cb blk off cap (m - i) m i d0 dk w0 wr R (by omega) S1.out (by omega) (by omega) (by omega)
      rw [em, hds] at hc
      have HE2 : Hid (∀ d' : Array α, arrF d' = swapF (arrF dk) (m - i) m i → arrF d' = rotF (arrF d) a m b) := fun d' h => by rw [h, rot_end _ _ _ him, HE.out]
      clear S1 HE
      go_wp2_with (go_at_fn 118; refine hc.mono ?_; rintro e w1 ⟨rfl, d', hd', S3, hE⟩)
      go_end0
      exact ⟨rfl, d', hd', S3, HE2.out d' hE⟩
    · have hijz : ¬ (i : Int) = (j : Int) := by omega
      by_cases hlt : j < i
      · have hltz : (j : Int) < (i : Int) := by omega
        have hc := swapRange_any LL.out enc g cb blk off cap (m - i) m j d0 dk w0 wr R (by omega) S1.out (by omega) (by omega) (by omega)
        rw [em, hds] at hc
        have HE2 : Hid (∀ d' : Array α, arrF d' = swapF (arrF dk) (m - i) m j → rotF (arrF d') (m - (i - j)) m (m + j) = rotF (arrF d) a m b) := fun d' h => by rw [h, rot_left _ _ _ _ him hlt hj0, HE.out]
        clear S1 HE
        go_wp2_with (go_at_fn 118; refine hc.mono ?_; rintro e w1 ⟨rfl, d', hd', S3, hE⟩)
        go_roundg (i - j + j)
        case measure => omega
        case rel => exact ⟨i - j, j, d', by rw [show ((i - j : Nat) : Int) = (i : Int) - (j : Int) by omega], rfl, by omega, hj0, by omega, hjb, by omega, hd', S3, HE2.out d' hE⟩
      · have hltz : ¬ (j : Int) < (i : Int) := by omega
        have hc := swapRange_any LL.out enc g cb blk off cap (m - i) (m + j - i) i d0 dk w0 wr R (by omega) S1.out (by omega) (by omega) (by omega)
        rw [em, show ((m + j - i : Nat) : Int) = (m : Int) + (j : Int) - (i : Int) by omega, hds] at hc
        have HE2 : Hid (∀ d' : Array α, arrF d' = swapF (arrF dk) (m - i) (m + j - i) i → rotF (arrF d') (m - i) m (m + (j - i)) = rotF (arrF d) a m b) := fun d' h => by rw [h, rot_right _ _ _ _ him (by omega) hi0, HE.out]
        clear S1 HE
        go_wp2_with (go_at_fn 118; refine hc.mono ?_; rintro e w1 ⟨rfl, d', hd', S3, hE⟩)
        go_roundg (i + (j - i))
        case measure => omega
        case rel => exact ⟨i, j - i, d', rfl, by rw [show ((j - i : Nat) : Int) = (j : Int) - (i : Int) by omega], hi0, by omega, him, by omega, by omega, hd', S3, HE2.out d' hE⟩
end Go.Proofs.YthddlchkbnmcaaaGreatDoor
namespace Go.Proofs.YthddlchkbnmcaaaGreatDoor
open Go
set_option maxRecDepth 20000

/-- Where a walk through tokens stands, and what was wrong first. -/
structure Ws where
  i : Nat
  bad : Nat
  pos : Nat
/-- The token at hand. -/
def nx (E : Nat) (T : List Tok) (s : Ws) : Tok := T.getD s.i ⟨0, E, [], 0⟩
/-- The first fault counts. -/
def wrong (E : Nat) (T : List Tok) (e : Nat) (s : Ws) : Ws := if s.bad = 0 then ⟨s.i, e, (nx E T s).pos⟩ else s
def stepW (s : Ws) : Ws := ⟨s.i + 1, s.bad, s.pos⟩
def kindW (E : Nat) (T : List Tok) (k : Nat) (s : Ws) : Tok × Ws := (nx E T s, stepW (if (nx E T s).kind = k then s else wrong E T 8 s))
def wordW (E : Nat) (T : List Tok) (w : List UInt8) (s : Ws) : Bool := decide ((nx E T s).kind = 1) && (nx E T s).text == w
def figW (E : Nat) (T : List Tok) (s : Ws) : Fig × Ws := (⟨((kindW E T 2 s).1.num : Int), ((kindW E T 2 s).1.pos : Int)⟩, (kindW E T 2 s).2)
def dotsW (E : Nat) (T : List Tok) : Nat → Ws → List Fig × Ws
  | 0, s => ([], s)
  | n + 1, s => ((figW E T (kindW E T 3 s).2).1 :: (dotsW E T n (figW E T (kindW E T 3 s).2).2).1, (dotsW E T n (figW E T (kindW E T 3 s).2).2).2)
def optW (E : Nat) (T : List Tok) (b : Bool) (k : Nat) (s : Ws) : Option Fig × Ws := if b = true ∧ (nx E T s).kind = k then (some (figW E T (stepW s)).1, (figW E T (stepW s)).2) else (none, s)
/-- What is looked at before a clause's numbers. -/
def headW (E : Nat) (T : List Tok) (had : List Cla) (s : Ws) : Ws :=
  let s1 := if !(isAddrW (nx E T s).text) && !(isPortW (nx E T s).text) && !((nx E T s).text == wProto) then wrong E T 8 s else s
  stepW (if had.any (fun c => c.word == (nx E T s).text) then wrong E T 9 s1 else s1)
def clauseW (E : Nat) (T : List Tok) (had : List Cla) (s : Ws) : Cla × Ws :=
  let t := nx E T s
  let f := figW E T (headW E T had s)
  let d := if isAddrW t.text then dotsW E T 3 f.2 else ([], f.2)
  let o4 := optW E T (isAddrW t.text) 4 d.2
  let o5 := optW E T (isPortW t.text) 5 o4.2
  (⟨t.text, (t.pos : Int), f.1 :: (d.1 ++ o4.1.toList ++ o5.1.toList), o4.1.isSome, o5.1.isSome⟩, o5.2)
def clausesW (E : Nat) (T : List Tok) : Nat → List Cla → Ws → List Cla × Ws
  | 0, had, s => (had, s)
  | f + 1, had, s => if s.bad = 0 ∧ (nx E T s).kind = 1 then clausesW E T f (had ++ [(clauseW E T had s).1]) (clauseW E T had s).2 else (had, s)
def frontW (E : Nat) (T : List Tok) (s : Ws) : (Bool × Fig × List Cla) × Ws :=
  if wordW E T wDefault s then ((true, ⟨0, 0⟩, []), stepW s) else
    let f := figW E T s
    let c := clausesW E T (T.length - f.2.i) [] f.2
    ((false, f.1, c.1), c.2)
def actW (E : Nat) (T : List Tok) (s : Ws) : (Bool × Fig) × Ws :=
  if wordW E T wDrop s then ((true, ⟨0, 0⟩), stepW s) else
    let f := figW E T (stepW (if wordW E T wPort s then s else wrong E T 8 s))
    ((false, f.1), f.2)
def endW (E : Nat) (T : List Tok) (s : Ws) : Ws := if s.i < T.length ∧ (nx E T s).kind ≠ 7 then wrong E T 8 s else s
def rowW (E : Nat) (T : List Tok) (s : Ws) : Raw × Ws :=
  let h := frontW E T s
  let k := kindW E T 6 h.2
  let a := actW E T k.2
  (⟨((nx E T s).pos : Int), h.1.1, h.1.2.1, h.1.2.2, a.1.1, a.1.2⟩, endW E T a.2)
def rowsW (E : Nat) (T : List Tok) : Nat → List Raw → Ws → List Raw × Ws
  | 0, had, s => (had, s)
  | f + 1, had, s => if s.i < T.length ∧ s.bad = 0 then (if (nx E T s).kind = 7 then rowsW E T f had (stepW s) else
      rowsW E T f (had ++ [(rowW E T (if had.length = 64 then wrong E T 4 s else s)).1]) (rowW E T (if had.length = 64 then wrong E T 4 s else s)).2) else (had, s)

/-- What was wrong stays so. -/
def Keeps (s s' : Ws) : Prop := s.bad ≠ 0 → s'.bad = s.bad ∧ s'.pos = s.pos
theorem Keeps.refl (s : Ws) : Keeps s s := fun _ => ⟨rfl, rfl⟩
theorem Keeps.trans {a b c : Ws} (h1 : Keeps a b) (h2 : Keeps b c) : Keeps a c := fun h => by
  obtain ⟨e1, e2⟩ := h1 h
  obtain ⟨e3, e4⟩ := h2 (by rw [e1]; exact h)
  exact ⟨e3.trans e1, e4.trans e2⟩
theorem keeps_wrong (E : Nat) (T : List Tok) (e : Nat) (s : Ws) : Keeps s (wrong E T e s) := fun h => by unfold wrong; rw [if_neg h]; exact ⟨rfl, rfl⟩
theorem keeps_step (s : Ws) : Keeps s (stepW s) := fun _ => ⟨rfl, rfl⟩
theorem keeps_kind (E : Nat) (T : List Tok) (k : Nat) (s : Ws) : Keeps s (kindW E T k s).2 := by
  unfold kindW
  refine Keeps.trans ?_ (keeps_step _)
  split
  · exact Keeps.refl _
  · exact keeps_wrong E T 8 s
theorem keeps_fig (E : Nat) (T : List Tok) (s : Ws) : Keeps s (figW E T s).2 := keeps_kind E T 2 s
theorem keeps_dots (E : Nat) (T : List Tok) : ∀ (n : Nat) (s : Ws), Keeps s (dotsW E T n s).2
  | 0, s => Keeps.refl s
  | n + 1, s => ((keeps_kind E T 3 s).trans (keeps_fig E T _)).trans (keeps_dots E T n _)
theorem keeps_opt (E : Nat) (T : List Tok) (b : Bool) (k : Nat) (s : Ws) : Keeps s (optW E T b k s).2 := by
  unfold optW
  split
  · exact (keeps_step s).trans (keeps_fig E T _)
  · exact Keeps.refl s
theorem keeps_head (E : Nat) (T : List Tok) (had : List Cla) (s : Ws) : Keeps s (headW E T had s) := by
  unfold headW
  refine Keeps.trans ?_ (keeps_step _)
  split
  · refine Keeps.trans ?_ (keeps_wrong E T 9 _)
    split
    · exact keeps_wrong E T 8 s
    · exact Keeps.refl s
  · split
    · exact keeps_wrong E T 8 s
    · exact Keeps.refl s
theorem keeps_clause (E : Nat) (T : List Tok) (had : List Cla) (s : Ws) : Keeps s (clauseW E T had s).2 := by
  unfold clauseW
  refine (((keeps_head E T had s).trans (keeps_fig E T _)).trans ?_).trans ((keeps_opt E T _ 4 _).trans (keeps_opt E T _ 5 _))
  split
  · exact keeps_dots E T 3 _
  · exact Keeps.refl _
theorem keeps_clauses (E : Nat) (T : List Tok) : ∀ (f : Nat) (had : List Cla) (s : Ws), Keeps s (clausesW E T f had s).2
  | 0, _, s => Keeps.refl s
  | f + 1, had, s => by
    unfold clausesW
    split
    · exact (keeps_clause E T had s).trans (keeps_clauses E T f _ _)
    · exact Keeps.refl s
theorem keeps_front (E : Nat) (T : List Tok) (s : Ws) : Keeps s (frontW E T s).2 := by
  unfold frontW
  split
  · exact keeps_step s
  · exact (keeps_fig E T s).trans (keeps_clauses E T _ _ _)
theorem keeps_act (E : Nat) (T : List Tok) (s : Ws) : Keeps s (actW E T s).2 := by
  unfold actW
  split
  · exact keeps_step s
  · refine Keeps.trans (Keeps.trans ?_ (keeps_step _)) (keeps_fig E T _)
    split
    · exact Keeps.refl s
    · exact keeps_wrong E T 8 s
theorem keeps_end (E : Nat) (T : List Tok) (s : Ws) : Keeps s (endW E T s) := by
  unfold endW
  split
  · exact keeps_wrong E T 8 s
  · exact Keeps.refl s
theorem keeps_row (E : Nat) (T : List Tok) (s : Ws) : Keeps s (rowW E T s).2 :=
  (((keeps_front E T s).trans (keeps_kind E T 6 _)).trans (keeps_act E T _)).trans (keeps_end E T _)

/-- A walk does what is said of the tokens that are left. -/
def Does {α : Type} (T : List Tok) (s : Ws) (y : α × Ws) (r : Res (α × List Tok)) : Prop :=
  match r with
  | .ok (a, T') => y.1 = a ∧ y.2.bad = 0 ∧ y.2.pos = s.pos ∧ T.drop y.2.i = T'
  | .error (e, q) => y.2.bad = e ∧ y.2.pos = q ∧ e ≠ 0
theorem Does.bind {α β : Type} {T : List Tok} {s : Ws} {y : α × Ws} {r : Res (α × List Tok)} {z : β × Ws} {g : α × List Tok → Res (β × List Tok)} (h : Does T s y r) (hk : Keeps y.2 z.2)
    (h2 : ∀ a T', r = .ok (a, T') → y.1 = a → y.2.bad = 0 → T.drop y.2.i = T' → Does T y.2 z (g (a, T'))) : Does T s z (r.bind g) := by
  cases r with
  | error x =>
    obtain ⟨e, q⟩ := x
    obtain ⟨h1, h3, h4⟩ := h
    obtain ⟨k1, k2⟩ := hk (by rw [h1]; exact h4)
    exact ⟨k1.trans h1, k2.trans h3, h4⟩
  | ok x =>
    obtain ⟨a, T'⟩ := x
    obtain ⟨h1, h3, h4, h5⟩ := h
    have := h2 a T' rfl h1 h3 h5
    show Does T s z (g (a, T'))
    revert this
    generalize g (a, T') = r2
    intro this
    cases r2 with
    | error x => exact this
    | ok x => exact ⟨this.1, this.2.1, this.2.2.1.trans h4, this.2.2.2⟩
theorem Does.map {α β : Type} {T : List Tok} {s : Ws} {y : α × Ws} {r : Res (α × List Tok)} {z : β × Ws} {g : α × List Tok → β × List Tok} (h : Does T s y r) (hz : z.2 = y.2) (h2 : ∀ a T', r = .ok (a, T') → y.1 = a → g (a, T') = (z.1, T')) : Does T s z (r.map g) := by
  cases r with
  | error x =>
    obtain ⟨e, q⟩ := x
    obtain ⟨h1, h3, h4⟩ := h
    exact ⟨by rw [hz]; exact h1, by rw [hz]; exact h3, h4⟩
  | ok x =>
    obtain ⟨a, T'⟩ := x
    obtain ⟨h1, h3, h4, h5⟩ := h
    have e := h2 a T' rfl h1
    show Does T s z (.ok (g (a, T')))
    rw [e]
    exact ⟨rfl, by rw [hz]; exact h3, by rw [hz]; exact h4, by rw [hz]; exact h5⟩

theorem nx_nil {E : Nat} {T : List Tok} {s : Ws} (h : T.drop s.i = []) : nx E T s = ⟨0, E, [], 0⟩ := by
  unfold nx
  have : T.length ≤ s.i := List.drop_eq_nil_iff.1 h
  rw [List.getD, List.getElem?_eq_none this]; rfl
theorem nx_cons {E : Nat} {T : List Tok} {s : Ws} {t : Tok} {T' : List Tok} (h : T.drop s.i = t :: T') : nx E T s = t ∧ s.i < T.length ∧ T.drop (s.i + 1) = T' := by
  have hh : T[s.i]? = some t := by rw [← List.head?_drop, h]; rfl
  refine ⟨by unfold nx; rw [List.getD, hh]; rfl, (List.getElem?_eq_some_iff.1 hh).1, ?_⟩
  rw [← List.drop_drop, h]; rfl
theorem nx_pos (E : Nat) (T : List Tok) (s : Ws) : (nx E T s).pos = posOf E (T.drop s.i) := by
  cases h : T.drop s.i with
  | nil => rw [nx_nil h]; rfl
  | cons t T' => rw [(nx_cons h).1]; rfl
theorem wrong_is {E : Nat} {T : List Tok} {e : Nat} {s : Ws} (h : s.bad = 0) : wrong E T e s = ⟨s.i, e, (nx E T s).pos⟩ := by unfold wrong; rw [if_pos h]

theorem does_kind (E : Nat) (T : List Tok) (k : Nat) (hk : k ≠ 0) (s : Ws) (h : s.bad = 0) : Does T s (kindW E T k s) (takeK E k (T.drop s.i)) := by
  unfold kindW
  cases hd : T.drop s.i with
  | nil =>
    rw [nx_nil hd, if_neg (by simpa using (Ne.symm hk)), wrong_is h, nx_nil hd]
    exact ⟨rfl, rfl, by decide⟩
  | cons t T' =>
    obtain ⟨e1, e2, e3⟩ := nx_cons (E := E) hd
    rw [e1, show takeK E k (t :: T') = if t.kind = k then .ok (t, T') else .error (8, t.pos) from rfl]
    by_cases c : t.kind = k
    · rw [if_pos c, if_pos c]
      exact ⟨rfl, h, rfl, e3⟩
    · rw [if_neg c, if_neg c, wrong_is h, e1]
      exact ⟨rfl, rfl, by decide⟩
theorem does_fig (E : Nat) (T : List Tok) (s : Ws) (h : s.bad = 0) : Does T s (figW E T s) (takeF E (T.drop s.i)) :=
  (does_kind E T 2 (by decide) s h).map rfl fun a T' _ ha => by rw [← ha]; rfl
theorem does_dots (E : Nat) (T : List Tok) : ∀ (n : Nat) (s : Ws), s.bad = 0 → Does T s (dotsW E T n s) (takeD E n (T.drop s.i))
  | 0, s, h => ⟨rfl, h, rfl, rfl⟩
  | n + 1, s, h => by
    unfold dotsW takeD
    refine (does_kind E T 3 (by decide) s h).bind ((keeps_fig E T _).trans (keeps_dots E T n _)) fun a T' _ _ hb hT => ?_
    subst hT
    refine (does_fig E T _ hb).bind (keeps_dots E T n _) fun b T'' _ he hb2 hT2 => ?_
    subst hT2
    exact (does_dots E T n _ hb2).map rfl fun c T3 _ hc => by rw [← hc, ← he]
theorem does_opt (E : Nat) (T : List Tok) (k : Nat) (hk : k ≠ 0) (s : Ws) (h : s.bad = 0) : Does T s (optW E T true k s) (takeO E k (T.drop s.i)) := by
  unfold optW
  cases hd : T.drop s.i with
  | nil =>
    rw [if_neg (by rw [nx_nil hd]; exact fun c => hk c.2.symm)]
    exact ⟨rfl, h, rfl, hd⟩
  | cons t T' =>
    obtain ⟨e1, e2, e3⟩ := nx_cons (E := E) hd
    rw [show takeO E k (t :: T') = if t.kind = k then (takeF E T').map (fun y => (some y.1, y.2)) else .ok (none, t :: T') from rfl]
    by_cases c : t.kind = k
    · rw [if_pos ⟨rfl, by rw [e1]; exact c⟩, if_pos c, ← e3]
      exact (does_fig E T (stepW s) h).map rfl fun a T3 _ ha => by rw [← ha]
    · rw [if_neg (by rw [e1]; exact fun d => c d.2), if_neg c]
      exact ⟨rfl, h, rfl, hd⟩
theorem opt_no (E : Nat) (T : List Tok) (k : Nat) (s : Ws) : optW E T false k s = (none, s) := by unfold optW; rw [if_neg (by simp)]
theorem addr_port (w : List UInt8) (h : isAddrW w = true) : isPortW w = false := by
  unfold isAddrW at h
  simp only [Bool.or_eq_true, beq_iff_eq] at h
  rcases h with rfl | rfl <;> rfl
theorem does_clause (E : Nat) (T : List Tok) (had : List Cla) (s : Ws) (h : s.bad = 0) (t : Tok) (T' : List Tok) (hd : T.drop s.i = t :: T') : Does T s (clauseW E T had s) (takeC E had t T') := by
  obtain ⟨e1, e2, e3⟩ := nx_cons (E := E) hd
  unfold takeC
  by_cases c1 : (!(isAddrW t.text) && !(isPortW t.text) && !(t.text == wProto)) = true
  · rw [if_pos c1]
    have hh : (headW E T had s).bad = 8 ∧ (headW E T had s).pos = t.pos := by
      unfold headW
      rw [e1]
      simp only [c1, if_true]
      split
      · have := keeps_wrong E T 9 (wrong E T 8 s) (by rw [wrong_is h]; show (8 : Nat) ≠ 0; decide)
        rw [wrong_is h, e1] at this ⊢
        exact this
      · rw [wrong_is h, e1]; exact ⟨rfl, rfl⟩
    have hk : Keeps (headW E T had s) (clauseW E T had s).2 := by
      unfold clauseW
      refine ((keeps_fig E T _).trans ?_).trans ((keeps_opt E T _ 4 _).trans (keeps_opt E T _ 5 _))
      split
      · exact keeps_dots E T 3 _
      · exact Keeps.refl _
    obtain ⟨k1, k2⟩ := hk (by rw [hh.1]; decide)
    exact ⟨k1.trans hh.1, k2.trans hh.2, by decide⟩
  rw [if_neg c1]
  by_cases c2 : had.any (fun c => c.word == t.text) = true
  · rw [if_pos c2]
    have hh : (headW E T had s).bad = 9 ∧ (headW E T had s).pos = t.pos := by
      unfold headW
      rw [e1]
      simp only [c2, if_true]
      rw [if_neg c1, wrong_is h, e1]
      exact ⟨rfl, rfl⟩
    have hk : Keeps (headW E T had s) (clauseW E T had s).2 := by
      unfold clauseW
      refine ((keeps_fig E T _).trans ?_).trans ((keeps_opt E T _ 4 _).trans (keeps_opt E T _ 5 _))
      split
      · exact keeps_dots E T 3 _
      · exact Keeps.refl _
    obtain ⟨k1, k2⟩ := hk (by rw [hh.1]; decide)
    exact ⟨k1.trans hh.1, k2.trans hh.2, by decide⟩
  rw [if_neg c2]
  have hh : headW E T had s = stepW s := by
    unfold headW
    rw [e1]
    simp only [if_neg c1, if_neg c2]
  unfold clauseW
  simp only [hh, e1]
  have hs : Does T s (figW E T (stepW s)) (takeF E T') := by rw [← e3]; exact does_fig E T (stepW s) h
  refine hs.bind ?_ fun x T2 hr hx hb hT2 => ?_
  · refine Keeps.trans ?_ ((keeps_opt E T _ 4 _).trans (keeps_opt E T _ 5 _))
    split
    · exact keeps_dots E T 3 _
    · exact Keeps.refl _
  subst hT2
  by_cases c3 : isAddrW t.text = true
  · have c4 := addr_port t.text c3
    simp only [c3, if_true, c4]
    refine (does_dots E T 3 _ hb).bind ((keeps_opt E T _ 4 _).trans (keeps_opt E T _ 5 _)) fun y T3 _ hy hb3 hT3 => ?_
    subst hT3
    refine (does_opt E T 4 (by decide) _ hb3).map (by rw [opt_no]) fun z T4 _ hz => ?_
    rw [opt_no]
    simp [hx, hy, hz]
  · have c3' : isAddrW t.text = false := by simpa using c3
    simp only [c3', Bool.false_eq_true, if_false, opt_no]
    by_cases c4 : isPortW t.text = true
    · simp only [c4, if_true]
      refine (does_opt E T 5 (by decide) _ hb).map rfl fun z T4 _ hz => ?_
      simp [hx, hz]
    · have c4' : isPortW t.text = false := by simpa using c4
      simp only [c4', Bool.false_eq_true, if_false, opt_no]
      exact ⟨by simp [hx], hb, rfl, rfl⟩
theorem does_clauses (E : Nat) (T : List Tok) : ∀ (f : Nat) (had : List Cla) (s : Ws), s.bad = 0 → Does T s (clausesW E T f had s) (takeCs E f had (T.drop s.i))
  | 0, had, s, h => ⟨rfl, h, rfl, rfl⟩
  | f + 1, had, s, h => by
    unfold clausesW
    cases hd : T.drop s.i with
    | nil =>
      rw [if_neg (by rw [nx_nil hd]; exact fun c => absurd (show (0 : Nat) = 1 from c.2) (by decide))]
      exact ⟨rfl, h, rfl, hd⟩
    | cons t T' =>
      obtain ⟨e1, e2, e3⟩ := nx_cons (E := E) hd
      rw [show takeCs E (f + 1) had (t :: T') = if t.kind = 1 then (takeC E had t T').bind (fun x => takeCs E f (had ++ [x.1]) x.2) else .ok (had, t :: T') from rfl]
      by_cases c : t.kind = 1
      · rw [if_pos ⟨h, by rw [e1]; exact c⟩, if_pos c]
        refine (does_clause E T had s h t T' hd).bind (keeps_clauses E T f _ _) fun x T2 _ hx hb hT2 => ?_
        subst hT2
        rw [← hx]
        exact does_clauses E T f _ _ hb
      · rw [if_neg (by rw [e1]; exact fun d => c d.2), if_neg c]
        exact ⟨rfl, h, rfl, hd⟩
theorem word_cons {E : Nat} {T : List Tok} {s : Ws} {t : Tok} {T' : List Tok} (hd : T.drop s.i = t :: T') (w : List UInt8) : (wordW E T w s = true) ↔ (t.kind = 1 ∧ t.text = w) := by
  unfold wordW
  rw [(nx_cons (E := E) hd).1]
  simp
theorem word_nil {E : Nat} {T : List Tok} {s : Ws} (hd : T.drop s.i = []) (w : List UInt8) : wordW E T w s = false := by
  unfold wordW
  rw [nx_nil hd]
  rfl
theorem does_front (E : Nat) (T : List Tok) (s : Ws) (h : s.bad = 0) : Does T s (frontW E T s) (takeH E (T.drop s.i)) := by
  unfold frontW
  have hf : Does T s (((false, (figW E T s).1, (clausesW E T (T.length - (figW E T s).2.i) [] (figW E T s).2).1) : Bool × Fig × List Cla), (clausesW E T (T.length - (figW E T s).2.i) [] (figW E T s).2).2)
      ((takeF E (T.drop s.i)).bind fun x => (takeCs E x.2.length [] x.2).map fun y => ((false, x.1, y.1), y.2)) := by
    refine (does_fig E T s h).bind (keeps_clauses E T _ _ _) fun x T2 _ hx hb hT2 => ?_
    subst hT2
    rw [show (T.drop (figW E T s).2.i).length = T.length - (figW E T s).2.i from List.length_drop]
    exact (does_clauses E T _ [] _ hb).map rfl fun y T3 _ hy => by rw [← hy, ← hx]
  cases hd : T.drop s.i with
  | nil =>
    rw [word_nil hd, if_neg (by decide)]
    rw [hd] at hf
    exact hf
  | cons t T' =>
    obtain ⟨e1, e2, e3⟩ := nx_cons (E := E) hd
    rw [show takeH E (t :: T') = if t.kind = 1 ∧ t.text = wDefault then .ok ((true, ⟨0, 0⟩, []), T') else (takeF E (t :: T')).bind fun x => (takeCs E x.2.length [] x.2).map fun y => ((false, x.1, y.1), y.2) from rfl]
    by_cases c : t.kind = 1 ∧ t.text = wDefault
    · rw [if_pos c, if_pos ((word_cons hd wDefault).2 c)]
      exact ⟨rfl, h, rfl, e3⟩
    · rw [if_neg c, if_neg (fun d => c ((word_cons hd wDefault).1 d))]
      rw [hd] at hf
      exact hf
theorem does_act (E : Nat) (T : List Tok) (s : Ws) (h : s.bad = 0) : Does T s (actW E T s) (takeA E (T.drop s.i)) := by
  unfold actW
  cases hd : T.drop s.i with
  | nil =>
    rw [word_nil hd, word_nil hd, if_neg (by decide), if_neg (by decide)]
    obtain ⟨k1, k2⟩ := (keeps_step (wrong E T 8 s)).trans (keeps_fig E T _) (by rw [wrong_is h]; show (8 : Nat) ≠ 0; decide)
    rw [wrong_is h, nx_nil hd] at k1 k2
    refine ⟨?_, ?_, by decide⟩
    · rw [wrong_is h, nx_nil hd]; exact k1
    · rw [wrong_is h, nx_nil hd]; exact k2
  | cons t T' =>
    obtain ⟨e1, e2, e3⟩ := nx_cons (E := E) hd
    rw [show takeA E (t :: T') = if t.kind = 1 ∧ t.text = wDrop then .ok ((true, ⟨0, 0⟩), T') else if t.kind = 1 ∧ t.text = wPort then (takeF E T').map (fun x => ((false, x.1), x.2)) else .error (8, t.pos) from rfl]
    by_cases c : t.kind = 1 ∧ t.text = wDrop
    · rw [if_pos c, if_pos ((word_cons hd wDrop).2 c)]
      exact ⟨rfl, h, rfl, e3⟩
    · rw [if_neg c, if_neg (fun d => c ((word_cons hd wDrop).1 d))]
      by_cases c2 : t.kind = 1 ∧ t.text = wPort
      · rw [if_pos c2, if_pos ((word_cons hd wPort).2 c2), ← e3]
        exact (does_fig E T (stepW s) h).map rfl fun a T3 _ ha => by rw [← ha]
      · rw [if_neg c2, if_neg (fun d => c2 ((word_cons hd wPort).1 d))]
        obtain ⟨k1, k2⟩ := (keeps_step (wrong E T 8 s)).trans (keeps_fig E T _) (by rw [wrong_is h]; show (8 : Nat) ≠ 0; decide)
        rw [wrong_is h, e1] at k1 k2
        refine ⟨?_, ?_, by decide⟩
        · rw [wrong_is h, e1]; exact k1
        · rw [wrong_is h, e1]; exact k2
theorem does_end (E : Nat) (T : List Tok) (s : Ws) (h : s.bad = 0) : Does T s ((), endW E T s) ((takeE (T.drop s.i)).map fun u => ((), u)) := by
  unfold endW
  cases hd : T.drop s.i with
  | nil =>
    rw [if_neg (fun c => absurd (List.drop_eq_nil_iff.1 hd) (by omega))]
    exact ⟨rfl, h, rfl, hd⟩
  | cons t T' =>
    obtain ⟨e1, e2, e3⟩ := nx_cons (E := E) hd
    rw [show takeE (t :: T') = if t.kind = 7 then .ok (t :: T') else .error (8, t.pos) from rfl]
    by_cases c : t.kind = 7
    · rw [if_pos c, if_neg (by rw [e1]; exact fun d => d.2 c)]
      exact ⟨rfl, h, rfl, hd⟩
    · rw [if_neg c, if_pos ⟨e2, by rw [e1]; exact c⟩, wrong_is h, e1]
      exact ⟨rfl, rfl, by decide⟩
theorem does_row (E : Nat) (T : List Tok) (s : Ws) (h : s.bad = 0) : Does T s (rowW E T s) (takeR E (T.drop s.i)) := by
  unfold rowW takeR
  refine (does_front E T s h).bind (((keeps_kind E T 6 _).trans (keeps_act E T _)).trans (keeps_end E T _)) fun x T2 _ hx hb hT2 => ?_
  subst hT2
  refine (does_kind E T 6 (by decide) _ hb).bind ((keeps_act E T _).trans (keeps_end E T _)) fun y T3 _ hy hb3 hT3 => ?_
  subst hT3
  refine (does_act E T _ hb3).bind (keeps_end E T _) fun z T4 _ hz hb4 hT4 => ?_
  subst hT4
  have he := does_end E T _ hb4
  rw [← nx_pos, ← hx, ← hz]
  revert he
  cases takeE (T.drop (actW E T (kindW E T 6 (frontW E T s).2).2).2.i) with
  | error q => exact fun he => he
  | ok u => exact fun he => ⟨rfl, he.2⟩
/-- THE WALK THROUGH THE TOKENS comes to the lines, or to what is wrong first. -/
theorem does_rows (E : Nat) (T : List Tok) : ∀ (f : Nat) (had : List Raw) (s : Ws), s.bad = 0 → match takeL E f had (T.drop s.i) with
    | .ok l => (rowsW E T f had s).2.bad = 0 ∧ (rowsW E T f had s).1 = l
    | .error x => (rowsW E T f had s).2.bad = x.1 ∧ (rowsW E T f had s).2.pos = x.2 ∧ x.1 ≠ 0
  | 0, had, s, h => ⟨h, rfl⟩
  | f + 1, had, s, h => by
    have stay : ∀ (g : Nat) (had : List Raw) (s : Ws), s.bad ≠ 0 → rowsW E T g had s = (had, s) := fun g had s hb => by
      cases g with
      | zero => rfl
      | succ g => unfold rowsW; rw [if_neg (fun c => hb c.2)]
    cases hd : T.drop s.i with
    | nil =>
      have hR : rowsW E T (f + 1) had s = (had, s) := by
        unfold rowsW
        rw [if_neg (fun c => absurd (List.drop_eq_nil_iff.1 hd) (by omega))]
      rw [hR]
      exact ⟨h, rfl⟩
    | cons t T' =>
      obtain ⟨e1, e2, e3⟩ := nx_cons (E := E) hd
      have hL : takeL E (f + 1) had (t :: T') = if t.kind = 7 then takeL E f had T' else if had.length = 64 then .error (4, t.pos) else (takeR E (t :: T')).bind (fun x => takeL E f (had ++ [x.1]) x.2) := rfl
      have hR : rowsW E T (f + 1) had s = if t.kind = 7 then rowsW E T f had (stepW s) else rowsW E T f (had ++ [(rowW E T (if had.length = 64 then wrong E T 4 s else s)).1]) (rowW E T (if had.length = 64 then wrong E T 4 s else s)).2 := by
        rw [rowsW, if_pos ⟨e2, h⟩, e1]
      by_cases c : t.kind = 7
      · rw [if_pos c] at hL hR
        rw [hL, hR]
        have := does_rows E T f had (stepW s) h
        rw [show (stepW s).i = s.i + 1 from rfl, e3] at this
        exact this
      · rw [if_neg c] at hL hR
        by_cases c2 : had.length = 64
        · rw [if_pos c2] at hL
          simp only [if_pos c2] at hR
          rw [hL, hR]
          obtain ⟨k1, k2⟩ := keeps_row E T (wrong E T 4 s) (by rw [wrong_is h]; show (4 : Nat) ≠ 0; decide)
          have hw : (wrong E T 4 s).bad = 4 ∧ (wrong E T 4 s).pos = t.pos := by rw [wrong_is h, e1]; exact ⟨rfl, rfl⟩
          rw [stay _ _ _ (by rw [k1, hw.1]; decide)]
          exact ⟨k1.trans hw.1, k2.trans hw.2, by show (4 : Nat) ≠ 0; decide⟩
        · rw [if_neg c2] at hL
          simp only [if_neg c2] at hR
          rw [hL, hR]
          have hr := does_row E T s h
          rw [hd] at hr
          cases hx : takeR E (t :: T') with
          | error x =>
            rw [hx] at hr
            obtain ⟨h1, h2, h3⟩ := hr
            rw [stay _ _ _ (by rw [h1]; exact h3)]
            exact ⟨h1, h2, h3⟩
          | ok x =>
            rw [hx] at hr
            obtain ⟨a, T2⟩ := x
            obtain ⟨h1, h2, _, h4⟩ := hr
            have := does_rows E T f (had ++ [(rowW E T s).1]) (rowW E T s).2 h2
            rw [h4, h1] at this
            rw [h1]
            exact this
/-! How far a walk goes. -/
end Go.Proofs.YthddlchkbnmcaaaGreatDoor
