import Derived.Test.YtfamnloobmdhdaaDoorJ1
import Derived.Lib.Bytealg
import Derived.Lib.UnsafeStr
import Derived.Lib.BufferWrite
import Derived.Laws.MakeOwn
import Derived.OwnWalk
import Derived.Test.YtfamnloobmdhdaaDoorRows
import Derived.Test.YtfamnloobmdhdaaDoorProg
import Derived.ProofKit
import Derived.OpenShut
import Derived.Carry
import Derived.Deep.Slices
import Derived.OrdersHeld
namespace Go.Proofs.YtfamnloobmdhdaaDoor
open Go Go.RowKit
set_option maxRecDepth 20000

/-- The extern that finds a byte. -/
theorem extern_idx (s : ByteArray) (c : Int) (w : World) : (callFunc 106 #[.string s, .int .u8 c]).run Tryd.prog w = .ok (.value (.int .i64 (Lib.indexByte s.data.toList c.toNat.toUInt8))) w := by
  rw [run_callFunc_extern (e := Extern.BytealgIndexByte.indexByte) Tryd.func106 (by kernel_rfl) (by kernel_rfl) (by kernel_rfl) (by kernel_rfl), Lib.run_indexByteString]
  rfl

set_option maxHeartbeats 400000 in
theorem idx_any (s : ByteArray) (c : Int) (w : World) :
    Calls Tryd.prog 88 #[.string s, .int .u8 c] w fun e w' => e = .returned (.int .i64 (Lib.indexByte s.data.toList c.toNat.toUInt8)) ∧ w' = w := by
  have h1 : ∀ W, (callFunc 106 #[.string s, .int .u8 c]).run Tryd.prog W = .ok (.value (.int .i64 (Lib.indexByte s.data.toList c.toNat.toUInt8))) W := extern_idx s c
  have h2 : ∀ W, Calls Tryd.prog 100 #[.string s, .int .u8 c] W fun e w' => e = .returned (.int .i64 (Lib.indexByte s.data.toList c.toNat.toUInt8)) ∧ w' = W := fun W => by
    go_enter Tryd.func100, Tryd.ntmps100
    go_wp2
    go_ret
    exact ⟨rfl, rfl⟩
  go_enter Tryd.func88, Tryd.ntmps88
  go_wp2_with fail
  refine (h2 _).mono ?_
  rintro e w1 ⟨rfl, rfl⟩
  go_wp2_with fail
  go_ret
  exact ⟨rfl, rfl⟩
theorem idx_iff (l : List UInt8) (c : UInt8) : 0 ≤ Lib.indexByte l c ↔ c ∈ l := by
  induction l with
  | nil => simp [Lib.indexByte]
  | cons b l ih =>
    have := Lib.indexByte_ge l c
    unfold Lib.indexByte
    by_cases h : (b == c) = true
    · rw [if_pos h]
      have : b = c := by simpa using h
      simp [this]
    · rw [if_neg h]
      have hne : ¬ c = b := fun e => h (by simp [e])
      by_cases h2 : (Lib.indexByte l c == -1) = true
      · rw [if_pos h2]
        have h3 : Lib.indexByte l c = -1 := by simpa using h2
        rw [h3] at ih
        simp only [List.mem_cons, hne, false_or, ← ih]
      · rw [if_neg h2]
        have h3 : ¬ Lib.indexByte l c = -1 := by simpa using h2
        simp only [List.mem_cons, hne, false_or, ← ih]
        omega
/-- Where a byte that is there stands first. -/
theorem idx_take (l : List UInt8) (c : UInt8) (h : 0 ≤ Lib.indexByte l c) : Lib.indexByte l c = ((l.takeWhile fun b => b != c).length : Nat) := by
  induction l with
  | nil => simp [Lib.indexByte] at h
  | cons b l ih =>
    have hge := Lib.indexByte_ge l c
    unfold Lib.indexByte at h ⊢
    by_cases h1 : (b == c) = true
    · rw [if_pos h1]
      have : b = c := by simpa using h1
      simp [this]
    · rw [if_neg h1] at h ⊢
      by_cases h2 : (Lib.indexByte l c == -1) = true
      · rw [if_pos h2] at h; omega
      · rw [if_neg h2]
        have h3 : ¬ Lib.indexByte l c = -1 := by simpa using h2
        have hb : (b != c) = true := by simpa using h1
        rw [List.takeWhile_cons, if_pos hb, List.length_cons, ih (by omega)]
        omega
theorem idx_none (l : List UInt8) (c : UInt8) (h : ¬ 0 ≤ Lib.indexByte l c) : (l.takeWhile fun b => b != c).length = l.length := by
  rw [idx_iff] at h
  have := takeWhile_append_stop (fun b => b != c) [] (fun y hy => by simp at hy) l fun b hb => by
    have : b ≠ c := fun e => h (e ▸ hb)
    simpa using this
  rw [List.append_nil] at this
  rw [this]

def abcL : List UInt8 := [97, 98, 99, 100, 101, 102, 103, 104, 105, 106, 107, 108, 109, 110, 111, 112, 113, 114, 115, 116, 117, 118, 119, 120, 121, 122]
def digL : List UInt8 := [48, 49, 50, 51, 52, 53, 54, 55, 56, 57]
theorem all256 (p : UInt8 → Bool) (h : (List.range 256).all (fun n => p (UInt8.ofNat n)) = true) (c : UInt8) : p c = true := by
  rw [List.all_eq_true] at h
  have := h c.toNat (by rw [List.mem_range]; exact c.toNat_lt)
  rwa [UInt8.ofNat_toNat] at this
theorem abc_let (c : UInt8) : decide (0 ≤ Lib.indexByte abcL c) = isLet c := by
  have := all256 (fun c => decide (0 ≤ Lib.indexByte abcL c) == isLet c) (by kernel_rfl) c
  simpa using this
theorem dig_dig (c : UInt8) : decide (0 ≤ Lib.indexByte digL c) = isDig c := by
  have := all256 (fun c => decide (0 ≤ Lib.indexByte digL c) == isDig c) (by kernel_rfl) c
  simpa using this

theorem tw_in (q : UInt8 → Bool) : ∀ (S : List UInt8) (k : Nat), k < (S.takeWhile q).length → ∃ b, S[k]? = some b ∧ q b = true
  | [], k, h => by simp at h
  | c :: S, k, h => by
    rw [List.takeWhile_cons] at h
    split at h
    · rename_i hc
      cases k with
      | zero => exact ⟨c, rfl, hc⟩
      | succ k =>
        obtain ⟨b, h1, h2⟩ := tw_in q S k (by simpa using h)
        exact ⟨b, by simpa using h1, h2⟩
    · simp at h
theorem tw_out (q : UInt8 → Bool) (S : List UInt8) (b : UInt8) (h : S[(S.takeWhile q).length]? = some b) : q b = false :=
  takeWhile_stop q S b (by rw [List.head?_drop]; exact h)
theorem byte_beq (b : UInt8) (c : UInt8) : (((b.toNat : Int)) == (c.toNat : Int)) = (b == c) := by
  rw [Bool.eq_iff_iff, beq_iff_eq, beq_iff_eq]
  constructor
  · intro h; exact UInt8.toNat_inj.1 (by exact_mod_cast h)
  · rintro rfl; rfl
theorem byte_q (s : ByteArray) (k : Nat) (hk : k < s.size) : s.data.toList[k]? = some s[k] := by
  rw [List.getElem?_eq_getElem (by simpa using hk)]; rfl

set_option maxHeartbeats 1000000 in
theorem row_any (s : ByteArray) (hs : s.size ≤ maxLen) (kind : ByteArray) (q : UInt8 → Bool) (hq : ∀ c, decide (0 ≤ Lib.indexByte kind.data.toList c) = q c) (w : World) :
    Calls Tryd.prog 89 #[.string s, .string kind] w fun e w' => e = .returned (.int .i64 ((s.data.toList.takeWhile q).length : Nat)) ∧ w' = w := by
  unfold maxLen at hs
  obtain ⟨T, hT⟩ : ∃ T, T = (s.data.toList.takeWhile q).length := ⟨_, rfl⟩
  have hTs : T ≤ s.size := by
    rw [hT, Lib.size_eq]; exact takeWhile_le q _
  have HIN : Hid (∀ k (hk : k < s.size), k < T → q s[k] = true) := fun k hk hkT => by
    obtain ⟨b, h1, h2⟩ := tw_in q s.data.toList k (by omega)
    rw [byte_q s k hk] at h1
    obtain rfl : s[k] = b := by simpa using h1
    exact h2
  have HOUT : Hid (∀ (hk : T < s.size), q s[T] = false) := fun hk => tw_out q s.data.toList _ (by rw [← hT]; exact byte_q s T hk)
  have HI : Hid (∀ (c : UInt8) W, Calls Tryd.prog 88 #[.string kind, .int .u8 (c.toNat : Int)] W fun e w' => e = .returned (.int .i64 (Lib.indexByte kind.data.toList c)) ∧ w' = W) := fun c W => by
    have := idx_any kind (c.toNat : Int) W
    rwa [show ((c.toNat : Int)).toNat.toUInt8 = c by simp] at this
  have HQ : Hid (∀ c, decide (0 ≤ Lib.indexByte kind.data.toList c) = q c) := hq
  rw [← hT]
  clear hT hq
  go_enter Tryd.func89, Tryd.ntmps89
  go_wp2_with fail
  go_loop [5] (fun n => ∃ k : Nat, k ≤ T ∧ n = .int .i64 (k : Int)) (fun n => T - (intOf n).toNat)
  case atStart => exact ⟨0, Nat.zero_le _, rfl⟩
  case round =>
    obtain ⟨k, hk, rfl⟩ := hrel
    by_cases hin : k < s.size
    · have hix : ∀ W, (Instr.index 9 (.string s) (.int .i64 (k : Int))).run Tryd.prog W = .ok (.int .u8 (s[k].toNat : Int)) W := fun W => by
        simp [go_sem, Tryd.underlying9, hin]
      obtain ⟨c, hc⟩ : ∃ c, c = s[k] := ⟨_, rfl⟩
      have C1 : Hid (∀ W, Calls Tryd.prog 88 #[.string kind, .int .u8 (c.toNat : Int)] W fun e w' => e = .returned (.int .i64 (Lib.indexByte kind.data.toList c)) ∧ w' = W) := HI.out c
      have hd := HQ.out c
      obtain ⟨J, hJ⟩ : ∃ J, J = Lib.indexByte kind.data.toList c := ⟨_, rfl⟩
      rw [← hJ] at C1 hd
      rw [← hc] at hix
      have hin' : (k : Int) < (s.size : Int) := by omega
      by_cases hkT : k < T
      · have hqc : q c = true := by rw [hc]; exact HIN.out k hin hkT
        have hJ0 : 0 ≤ J := by rw [hqc] at hd; exact of_decide_eq_true hd
        clear hd hqc hJ hc hin
        go_wp2_with fail
        refine (C1.out _).mono ?_
        rintro e w1 ⟨rfl, rfl⟩
        go_wp2_with fail
        go_round
        case rel => exact ⟨k + 1, by omega, by go_num⟩
        case measure => simp [intOf]; omega
      · have hkT' : k = T := by omega
        subst hkT'
        have hqc : q c = false := by rw [hc]; exact HOUT.out hin
        have hJ0 : ¬ 0 ≤ J := by rw [hqc] at hd; exact of_decide_eq_false hd
        clear hd hqc hJ hc hin hkT
        go_wp2_with fail
        refine (C1.out _).mono ?_
        rintro e w1 ⟨rfl, rfl⟩
        go_wp2_with fail
        go_ret
        exact ⟨rfl, rfl⟩
    · have hin' : (s.size : Int) ≤ (k : Int) := by omega
      have hkT' : k = T := by omega
      subst hkT'
      clear hin
      go_wp2_with fail
      go_ret
      exact ⟨rfl, rfl⟩

set_option maxHeartbeats 1000000 in
theorem remark_any (s : ByteArray) (w : World) :
    Calls Tryd.prog 64 #[.string s] w fun e w' => e = .returned (.int .i64 ((s.data.toList.takeWhile notEnd).length : Nat)) ∧ w' = w := by
  have C1 : Hid (∀ W, Calls Tryd.prog 88 #[.string s, .int .u8 10] W fun e w' => e = .returned (.int .i64 (Lib.indexByte s.data.toList 10)) ∧ w' = W) := fun W => idx_any s 10 W
  have h1 : 0 ≤ Lib.indexByte s.data.toList 10 → Lib.indexByte s.data.toList 10 = ((s.data.toList.takeWhile notEnd).length : Nat) := idx_take s.data.toList 10
  have h2 : ¬ 0 ≤ Lib.indexByte s.data.toList 10 → (s.data.toList.takeWhile notEnd).length = s.size := fun h => by
    rw [Lib.size_eq]; exact idx_none s.data.toList 10 h
  obtain ⟨J, hJ⟩ : ∃ J, J = Lib.indexByte s.data.toList 10 := ⟨_, rfl⟩
  obtain ⟨T, hT⟩ : ∃ T, T = (s.data.toList.takeWhile notEnd).length := ⟨_, rfl⟩
  rw [← hJ] at C1 h1 h2
  rw [← hT] at h1 h2 ⊢
  clear hJ hT
  by_cases h : 0 ≤ J
  · have := h1 h
    subst this
    clear h1 h2
    go_enter Tryd.func64, Tryd.ntmps64
    go_wp2_with fail
    refine (C1.out _).mono ?_
    rintro e w1 ⟨rfl, rfl⟩
    go_wp2_with fail
    go_ret
    exact ⟨rfl, rfl⟩
  · have := h2 h
    subst this
    clear h1 h2
    go_enter Tryd.func64, Tryd.ntmps64
    go_wp2_with fail
    refine (C1.out _).mono ?_
    rintro e w1 ⟨rfl, rfl⟩
    go_wp2_with fail
    go_ret
    exact ⟨rfl, rfl⟩
end Go.Proofs.YtfamnloobmdhdaaDoor
namespace Go.Proofs.YtfamnloobmdhdaaDoor
open Go Go.RowKit
set_option maxRecDepth 20000

/-- Where a walk stands still. -/
def StopT (p : Prop) : Prop := p
theorem of_stopT {p : Prop} (h : StopT p) : p := h
/-- A token's cells. -/
def tv (k p : Int) (t : ByteArray) (n : Int) : Array Value := #[.int .i64 k, .int .i64 p, .string t, .int .i64 n]
def encT (t : Tok) : Array Value := tv (t.kind : Nat) (t.pos : Nat) ⟨t.text.toArray⟩ (t.num : Nat)
def TokE : El := ⟨90, 78, 4, 40, tv 0 0 ⟨#[]⟩ 0⟩
theorem TokOk : TokE.Ok := ⟨Tryd.underlying78, ⟨_, Tryd.underlying90, rfl⟩, by kernel_rfl, rfl, by decide, by decide, by decide⟩
theorem tv_fits (k p : Int) (t : ByteArray) (n : Int) : Fits TokE (tv k p t n) := ⟨rfl, by simp [tv, Value.oneCell']⟩
theorem encT_size (t : Tok) : (encT t).size = TokE.size := rfl

theorem beq_bytes (a b : ByteArray) : (a == b) = (a.data.toList == b.data.toList) := by rw [beq_toListBytes, ByteArray.toList_eq, ByteArray.toList_eq]
theorem eqFields_step {P : Program} (w : World) {d : Nat} {xs ys : Array Value} {f : Field} {fs : List Field} {a b : Value} {r R : Bool} (hn : f.name ≠ "_") (ha : (part f.type xs f.offset).run P w = .ok a w) (hb : (part f.type ys f.offset).run P w = .ok b w)
    (he : (Op.equalIn d f.type a b).run P w = .ok r w) (h : (Op.eqFields d xs ys fs).run P w = .ok R w) : (Op.eqFields d xs ys (f :: fs)).run P w = .ok (r && R) w := by
  simp only [Op.eqFields, if_pos hn, Sem.run_bind, ha, hb, he, Result.andThen_ok]
  cases r
  · simp
  · simpa using h
theorem part_cell {P : Program} (w : World) {t : TypeId} {xs : Array Value} {k : Nat} {v : Value} (ha : (isAgg t).run P w = .ok false w) (hx : xs[k]? = some v) : (part t xs k).run P w = .ok v w := by
  simp [part, ha, hx, Sem.run_bind]
theorem eqT (k p : Int) (t : ByteArray) (n : Int) (k' p' : Int) (t' : ByteArray) (n' : Int) (w : World) :
    (Op.equalIn 10000 90 (.agg (tv k p t n)) (.agg (tv k' p' t' n'))).run Tryd.prog w = .ok (k == k' && (p == p' && (t.toList == t'.toList && (n == n' && true)))) w := by
  rw [run_equalIn_struct w 9999 90 _ _ Tryd.underlying90 (by kernel_rfl)]
  have a3 : (isAgg 3).run Tryd.prog w = .ok false w := by kernel_rfl
  have a9 : (isAgg 9).run Tryd.prog w = .ok false w := by kernel_rfl
  simp only [Program.fieldsOf, Tryd.underlying90]
  refine eqFields_step w (by decide) (part_cell w a3 rfl) (part_cell w a3 rfl) (run_equalIn_int w _ 3 .i64 .i64 _ _ Tryd.underlying3) ?_
  refine eqFields_step w (by decide) (part_cell w a3 rfl) (part_cell w a3 rfl) (run_equalIn_int w _ 3 .i64 .i64 _ _ Tryd.underlying3) ?_
  refine eqFields_step w (by decide) (part_cell w a9 rfl) (part_cell w a9 rfl) (run_equalIn_string w _ 9 _ _ Tryd.underlying9) ?_
  refine eqFields_step w (by decide) (part_cell w a3 rfl) (part_cell w a3 rfl) (run_equalIn_int w _ 3 .i64 .i64 _ _ Tryd.underlying3) ?_
  rfl
theorem eqT_same (t : Tok) (w : World) : (Op.equalIn 10000 90 (.agg (encT t)) (.agg (encT t))).run Tryd.prog w = .ok true w := by
  unfold encT
  rw [eqT]
  simp
theorem egT (op : BinOp) (x y : Operand) (xs ys : Array Value) (w : World) : (eqGuard op 90 x y (.agg xs) (.agg ys)).run Tryd.prog w = .ok () w :=
  run_eqGuard_agg w op 90 x y xs ys (by kernel_rfl)

theorem tc_row {w : World} {g k : Nat} {cs : Array Value} {t : TypeId} {fr : Nat × Nat} (h : w.heap[g]? = some (.cells cs t fr)) (v : Value) : (w.setCell ⟨g, k, none⟩ v).heap[g]? = some (.cells (cs.setIfInBounds k v) t fr) := by
  simp [World.setCell, Array.getElem?_modify, h]
theorem tc_far {w : World} {g g' k : Nat} (h : g ≠ g') (v : Value) : (w.setCell ⟨g, k, none⟩ v).heap[g']? = w.heap[g']? := by
  simp [World.setCell, Array.getElem?_modify, h]
theorem tc_below {B : Nat} {a w : World} (h : Below B a w) {g : Nat} (hg : B ≤ g) (k : Nat) (v : Value) : Below B a (w.setCell ⟨g, k, none⟩ v) :=
  ⟨h.os, h.tape, h.output, by simpa [World.setCell] using h.size, fun j hj => (tc_far (by omega) v).trans (h.block j hj)⟩
theorem tc_size (w : World) (a : Addr) (v : Value) : (w.setCell a v).heap.size = w.heap.size := by simp [World.setCell]
theorem tc_frozen {w : World} {g k : Nat} {cs : Array Value} {t : TypeId} {fr : Nat × Nat} (h : w.heap[g]? = some (.cells cs t fr)) (hf : fr = (0, 0)) : w.frozen? ⟨g, k, none⟩ = false := by
  subst hf
  simp [World.frozen?, h]

theorem retT {fn : Func} {R : Ending → World → Prop} {a : Act} {w : World} {p u u' : Tmp} (hr : fn.results = #[.cell p 90, .tmp u, .tmp u']) (hd : a.defers = []) (g : Nat) (hp : a.tmps.getD p undef = .pointer (some ⟨g, 0, none⟩)) (cs : Array Value) (hcs : cs.size = 4)
    (hg : w.heap[g]? = some (.cells cs 90 (0, 0))) (v v' : Value) (hu : a.tmps.getD u undef = v) (hu' : a.tmps.getD u' undef = v') (h : R (.returned (.tuple #[.agg cs, v, v'])) w) : bodyPost Tryd.prog fn R .ret a w := by
  refine bodyPost_ret (v := .tuple #[.agg cs, v, v']) ?_ hd h
  rw [Array.getD_eq_getD_getElem?] at hp hu hu'
  simp [results, hr, hp, hu, hu', asAddr, run_loadVar_row w g 90 90 cs (0, 0) _ hg Tryd.underlying90 rfl (TokOk.cellsz cs hcs)]
end Go.Proofs.YtfamnloobmdhdaaDoor
namespace Go.Proofs.YtfamnloobmdhdaaDoor
open Go.ChangeShapes Go.WideShapes Go.ChangeAt Go.WideMaps Go.WideElems Go.RowKit
set_option maxRecDepth 20000

theorem ownK : ownKnob Tryd.prog.godebug = none := by kernel_rfl
theorem laidK : laidOutB Tryd.prog = true := by kernel_rfl
end Go.Proofs.YtfamnloobmdhdaaDoor
namespace Go.Proofs.YtfamnloobmdhdaaDoor
open Go.ChangeShapes Go.WideShapes Go.ChangeAt Go.WideMaps Go.WideElems Go.RowKit
set_option maxRecDepth 20000

theorem El.Ok.cellsOf {E : El} (H : E.Ok) : Tryd.prog.cellsOf E.elem = E.size := by
  obtain ⟨i, h1, _, h2, _⟩ := H.info
  simp [Program.cellsOf, h1, h2]

/-- A slice that comes in, of elements that are opened one by one. -/
theorem open_any {E : El} (HE : E.Ok) {α : Type} [Inhabited α] (row : α → Array Value) (hrow : ∀ a, (row a).size = E.size) (Q : α → Prop) {H : Type} {enc : TypeId × Value → H} {W : World} {base : Nat} {spare : Nat → Bool} {held : Bool}
    (elem : ∀ (fuel : Nat) (cs : List Value) (x : DataW H × List MemPlace), cs.length = E.size → DataW.trod enc Tryd.prog W base spare held fuel E.elem cs = some x → ∃ a, cs = (row a).toList ∧ Q a)
    {fuel : Nat} {v : Value} {x : DataW H × List MemPlace} (hf : DataW.trod enc Tryd.prog W base spare held fuel E.slice [v] = some x) : ∃ C : List α, GSl E row W v C ∧ ∀ c ∈ C, Q c := by
  have hp := HE.hp
  rcases Deep.open_slice HE.hs hf with ⟨h0, _⟩ | ⟨a, len, cap, m, n, D, Pl, h0, hb, hl, hm, hmm, _, hx⟩
  · obtain rfl : v = .slice none 0 0 := by simpa using h0
    exact ⟨[], gsl_nil E row W, fun c hc => absurd hc (by simp)⟩
  · obtain rfl : v = .slice (some a) len cap := by simpa using h0
    rw [HE.cellsOf] at hx
    have hlm : len ≤ m := by rw [hmm]; split <;> omega
    have each : ∀ i, i < len → ∃ c : α, Q c ∧ ∀ j, j < E.size → W.cell? (a.add (i * E.size + j)) = (row c)[j]? := fun i hi => by
      obtain ⟨cs', h1, h2⟩ := hx i (by omega)
      obtain ⟨_, hlen, hcell⟩ := World.cells?_some h1
      obtain ⟨c, h3, h4⟩ := elem _ cs' _ hlen h2
      refine ⟨c, h4, fun j hj => ?_⟩
      have := hcell j hj
      rw [Deep.add_add] at this
      rw [this, h3]
      simp
    obtain ⟨f, hf⟩ := Deep.choose_lt each
    refine ⟨(List.range len).map f, ⟨some a, cap, by simp, by simpa using hl, hm, fun i hi => ?_⟩, fun c hc => ?_⟩
    · have hi' : i < len := by simpa using hi
      have h1 := (hf i hi').2
      obtain ⟨g, off, sp⟩ := a
      have hj : ∀ j, j < E.size → ∃ cur t fr, W.heap[g]? = some (.cells cur t fr) ∧ cur[off + i * E.size + j]? = (row (f i))[j]? ∧ (i * E.size + j = 0 → sp = none) := fun j hj => by
        have h2 := h1 j hj
        obtain ⟨y, hy⟩ : ∃ y, (row (f i))[j]? = some y := ⟨_, Array.getElem?_eq_getElem (by rw [hrow]; exact hj)⟩
        rw [hy] at h2 ⊢
        unfold World.cell? at h2
        split at h2
        · rename_i cur t fr hq
          have hbk : (Addr.add ⟨g, off, sp⟩ (i * E.size + j)).block = g := by unfold Addr.add; split <;> rfl
          have hof : (Addr.add ⟨g, off, sp⟩ (i * E.size + j)).off = off + i * E.size + j := by unfold Addr.add; split <;> simp_all [Nat.add_assoc]
          rw [hbk] at hq
          rw [hof] at h2
          split at h2
          · cases h2
          · rename_i hsp
            refine ⟨cur, t, fr, hq, h2, fun h0 => ?_⟩
            unfold Addr.add at hsp
            rw [if_pos h0] at hsp
            simpa using hsp
        · cases h2
      have hsp : sp = none := by
        obtain ⟨cur, t, fr, h2, h3, h4⟩ := hj 0 hp
        by_cases hi0 : i = 0
        · exact h4 (by rw [hi0]; simp)
        · have h5 := (hf 0 (by omega)).2 0 hp
          obtain ⟨y, hy⟩ : ∃ y, (row (f 0))[0]? = some y := ⟨_, Array.getElem?_eq_getElem (by rw [hrow]; exact hp)⟩
          rw [hy] at h5
          unfold World.cell? at h5
          split at h5
          · split at h5
            · cases h5
            · rename_i hs
              simpa [Addr.add] using hs
          · cases h5
      subst hsp
      obtain ⟨cur, t, fr, h2, _, _⟩ := hj 0 hp
      refine ⟨g, off, cur, t, fr, rfl, h2, fun j hjl => ?_⟩
      obtain ⟨cur', t', fr', h3, h4, _⟩ := hj j hjl
      rw [h2] at h3
      obtain ⟨rfl, rfl, rfl⟩ : cur = cur' ∧ t = t' ∧ fr = fr' := by simpa using h3
      rw [h4]
      simp
    · rw [List.mem_map] at hc
      obtain ⟨i, hi, rfl⟩ := hc
      exact (hf i (by simpa using hi)).1

/-- A list whose elements hold lists of their own: each row with the value of its inner list. -/
def NSl {α : Type} (E : El) (row : α → Value → Array Value) (R : World → α → Value → Prop) (w : World) (v : Value) (C : List α) : Prop :=
  ∃ P : List (α × Value), P.map (·.1) = C ∧ GSl E (fun p => row p.1 p.2) w v P ∧ ∀ p ∈ P, R w p.1 p.2
theorem NSl.below {α : Type} {E : El} {row : α → Value → Array Value} {R : World → α → Value → Prop} (hR : ∀ w w' a v, Below w.heap.size w w' → R w a v → R w' a v) {w w' : World} {v : Value} {C : List α} (h : NSl E row R w v C) (hb : Below w.heap.size w w') : NSl E row R w' v C := by
  obtain ⟨P, h1, h2, h3⟩ := h
  exact ⟨P, h1, h2.below hb, fun p hp => hR w w' _ _ hb (h3 p hp)⟩
theorem NSl.slice {α : Type} {E : El} {row : α → Value → Array Value} {R : World → α → Value → Prop} {w : World} {v : Value} {C : List α} (h : NSl E row R w v C) : ∃ (o : Option Addr) (cap : Nat), v = .slice o C.length cap ∧ C.length ≤ cap ∧ cap ≤ maxLen := by
  obtain ⟨P, h1, h2, _⟩ := h
  obtain ⟨o, cap, e, h4, h5⟩ := h2.slice
  have hl : P.length = C.length := by rw [← h1, List.length_map]
  rw [hl] at e h4
  exact ⟨o, cap, e, h4, h5⟩
theorem NSl.at {α : Type} {E : El} {row : α → Value → Array Value} {R : World → α → Value → Prop} {w : World} {o : Option Addr} {n cap : Nat} {C : List α} (h : NSl E row R w (.slice o n cap) C) (k : Nat) (hk : k < n) :
    ∃ g off cur t fr, ∃ (c : α) (u : Value), o = some ⟨g, off, none⟩ ∧ w.heap[g]? = some (.cells cur t fr) ∧ (∀ j, j < E.size → cur[off + k * E.size + j]? = (row c u)[j]?) ∧ C[k]? = some c ∧ R w c u := by
  obtain ⟨P, h1, h2, h3⟩ := h
  obtain ⟨g, off, cur, t, fr, c, e1, e2, e3, e4⟩ := h2.at k hk
  exact ⟨g, off, cur, t, fr, c.1, c.2, e1, e2, e3, by rw [← h1, List.getElem?_map, e4]; rfl, h3 c (List.mem_of_getElem? e4)⟩
/-- The same of one's own row. -/
def NOwn {α : Type} (E : El) (row : α → Value → Array Value) (R : World → α → Value → Prop) (w : World) (B : Nat) (v : Value) (C : List α) : Prop :=
  ∃ P : List (α × Value), P.map (·.1) = C ∧ w.ownsRow B E.elem E.size v P.length (gcells (fun p : α × Value => row p.1 p.2) P) ∧ ∀ p ∈ P, R w p.1 p.2
theorem NOwn.sl {α : Type} {E : El} {row : α → Value → Array Value} {R : World → α → Value → Prop} (hrow : ∀ a u, (row a u).size = E.size) {w : World} {B : Nat} {v : Value} {C : List α} (h : NOwn E row R w B v C) : NSl E row R w v C := by
  obtain ⟨P, h1, h2, h3⟩ := h
  exact ⟨P, h1, gsl_of h2 fun c _ => hrow c.1 c.2, h3⟩
theorem NOwn.nil {α : Type} (E : El) (row : α → Value → Array Value) (R : World → α → Value → Prop) (w : World) (B : Nat) : NOwn E row R w B (.slice none 0 0) [] :=
  ⟨[], rfl, World.ownsRow_nil _ _ _ _, fun p hp => by simp at hp⟩
theorem NOwn.below {α : Type} {E : El} {row : α → Value → Array Value} {R : World → α → Value → Prop} (hR : ∀ w w' a v, Below w.heap.size w w' → R w a v → R w' a v) {w w' : World} {B : Nat} {v : Value} {C : List α} (h : NOwn E row R w B v C) (hb : Below w.heap.size w w') : NOwn E row R w' B v C := by
  obtain ⟨P, h1, h2, h3⟩ := h
  exact ⟨P, h1, gown_below h2 hb, fun p hp => hR w w' _ _ hb (h3 p hp)⟩
/-- Rows of two types lie apart. -/
theorem own_apart {w : World} {B B' : Nat} {e e' : TypeId} {s s' : Nat} {v u : Value} {n m : Nat} {xs ys : List Value} (h : w.ownsRow B e s v n xs) (h' : w.ownsRow B' e' s' u m ys) (hne : e ≠ e') : ∀ g, v.ownBlock = some g → u.ownBlock ≠ some g := by
  intro g hg hu
  obtain ⟨_, ⟨rfl, _⟩ | ⟨g1, cap, cur, rfl, _, h1, _⟩⟩ := h
  · simp [Value.ownBlock] at hg
  · obtain ⟨_, ⟨rfl, _⟩ | ⟨g2, cap', cur', rfl, _, h2, _⟩⟩ := h'
    · simp [Value.ownBlock] at hu
    · simp only [Value.ownBlock, Option.some.injEq] at hg hu
      subst hg
      subst hu
      rw [h1] at h2
      simp only [Option.some.injEq, Obj.cells.injEq] at h2
      exact hne h2.2.1
/-- A row stays as it is while another one grows. -/
theorem own_grown {w w' : World} {b : Option Nat} (hgr : w.grownBy w' b) {B : Nat} {e : TypeId} {s : Nat} {u : Value} {m : Nat} {ys : List Value} (h : w.ownsRow B e s u m ys) (hne : ∀ g, b = some g → u.ownBlock ≠ some g) : w'.ownsRow B e s u m ys := by
  obtain ⟨h0, h1 | ⟨g, cap, cur, rfl, hB, hcur, h3⟩⟩ := h
  · exact ⟨h0, .inl h1⟩
  · refine ⟨h0, .inr ⟨g, cap, cur, rfl, hB, ?_, h3⟩⟩
    rw [hgr.block g (Array.getElem?_eq_some_iff.1 hcur).1 (fun hq => hne g hq.symm rfl)]
    exact hcur
theorem NOwn.grown {α : Type} {E : El} {row : α → Value → Array Value} {R : World → α → Value → Prop} {w w' : World} {b : Option Nat} (hgr : w.grownBy w' b) {B : Nat} {v : Value} {C : List α} (h : NOwn E row R w B v C) (hne : ∀ g, b = some g → v.ownBlock ≠ some g) (hR : ∀ a u, R w a u → R w' a u) : NOwn E row R w' B v C := by
  obtain ⟨P, h1, h2, h3⟩ := h
  exact ⟨P, h1, own_grown hgr h2 hne, fun p hp => hR _ _ (h3 p hp)⟩
theorem NOwn.snoc {α : Type} {E : El} {row : α → Value → Array Value} {R : World → α → Value → Prop} {w' : World} {B : Nat} {v' : Value} {C : List α} {c : α} {u : Value} {P : List (α × Value)} (h1 : P.map (·.1) = C) (h2 : w'.ownsRow B E.elem E.size v' (P ++ [(c, u)]).length (gcells (fun p : α × Value => row p.1 p.2) (P ++ [(c, u)])))
    (h3 : ∀ p ∈ P, R w' p.1 p.2) (h4 : R w' c u) : NOwn E row R w' B v' (C ++ [c]) :=
  ⟨P ++ [(c, u)], by rw [List.map_append, h1]; rfl, h2, fun p hp => by
    rcases List.mem_append.1 hp with hp | hp
    · exact h3 p hp
    · obtain rfl : p = (c, u) := by simpa using hp
      exact h4⟩
end Go.Proofs.YtfamnloobmdhdaaDoor
namespace Go.Proofs.YtfamnloobmdhdaaDoor
open Go.ChangeShapes Go.WideShapes Go.ChangeAt Go.WideMaps Go.WideElems Go.RowKit
set_option maxRecDepth 20000

theorem take_one {cs : List Value} {i : Nat} {v : Value} (h : (cs.drop i).take 1 = [v]) : cs[i]? = some v := by
  have := congrArg List.head? h
  rw [List.head?_take, if_neg (by decide), List.head?_drop] at this
  simpa using this
/-- The one cell of a field. -/
theorem field_int {P : Program} {H : Type} {enc : TypeId × Value → H} {W : World} {base : Nat} {spare : Nat → Bool} {held : Bool} {n : Nat} {t : TypeId} {cs : List Value} {y : Option (DataW H × List MemPlace)} {i : Nat} {k : IntKind} (ht : P.underlying t = some (.int k)) (hc : P.cellsOf t = 1)
    (h : DataW.trod enc P W base spare held n t ((cs.drop i).take (P.cellsOf t)) = y) (hy : y.isSome = true) : ∃ z : Int, cs[i]? = some (.int k z) ∧ (Lit.int k z).wf = true := by
  obtain ⟨y', rfl⟩ := Option.isSome_iff_exists.1 hy
  obtain ⟨z, h1, _, h3⟩ := DataW.trod_int ht h
  rw [hc] at h1
  exact ⟨z, take_one h1, h3⟩
theorem field_bool {P : Program} {H : Type} {enc : TypeId × Value → H} {W : World} {base : Nat} {spare : Nat → Bool} {held : Bool} {n : Nat} {t : TypeId} {cs : List Value} {y : Option (DataW H × List MemPlace)} {i : Nat} (ht : P.underlying t = some .bool) (hc : P.cellsOf t = 1)
    (h : DataW.trod enc P W base spare held n t ((cs.drop i).take (P.cellsOf t)) = y) (hy : y.isSome = true) : ∃ b : Bool, cs[i]? = some (.bool b) := by
  obtain ⟨y', rfl⟩ := Option.isSome_iff_exists.1 hy
  obtain ⟨b, h1, _⟩ := DataW.trod_bool ht h
  rw [hc] at h1
  exact ⟨b, take_one h1⟩
theorem field_string {P : Program} {H : Type} {enc : TypeId × Value → H} {W : World} {base : Nat} {spare : Nat → Bool} {held : Bool} {n : Nat} {t : TypeId} {cs : List Value} {y : Option (DataW H × List MemPlace)} {i : Nat} (ht : P.underlying t = some .string) (hc : P.cellsOf t = 1)
    (h : DataW.trod enc P W base spare held n t ((cs.drop i).take (P.cellsOf t)) = y) (hy : y.isSome = true) : ∃ s : ByteArray, cs[i]? = some (.string s) ∧ s.size ≤ maxLen := by
  obtain ⟨y', rfl⟩ := Option.isSome_iff_exists.1 hy
  obtain ⟨s, h1, _, h3⟩ := DataW.trod_string ht h
  rw [hc] at h1
  exact ⟨s, take_one h1, h3⟩
/-- A field that is a slice: its cell, and what is read of it. -/
theorem field_slice {P : Program} {H : Type} {enc : TypeId × Value → H} {W : World} {base : Nat} {spare : Nat → Bool} {held : Bool} {n : Nat} {t e : TypeId} {cs : List Value} {y : Option (DataW H × List MemPlace)} {i : Nat} (ht : P.underlying t = some (.slice e)) (hc : P.cellsOf t = 1)
    (h : DataW.trod enc P W base spare held n t ((cs.drop i).take (P.cellsOf t)) = y) (hy : y.isSome = true) : ∃ (v : Value) (x : DataW H × List MemPlace), cs[i]? = some v ∧ DataW.trod enc P W base spare held n t [v] = some x := by
  obtain ⟨y', rfl⟩ := Option.isSome_iff_exists.1 hy
  have hv : ∃ v, (cs.drop i).take (P.cellsOf t) = [v] := by
    rcases DataW.trod_slice ht h with ⟨e1, _⟩ | ⟨a, len, cap, _, _, _, _, e1, _⟩
    · exact ⟨_, e1⟩
    · exact ⟨_, e1⟩
  obtain ⟨v, hv⟩ := hv
  rw [hv] at h
  rw [hc] at hv
  exact ⟨v, y', take_one hv, h⟩
theorem xs_some {α : Type} {xs : List α} {n i : Nat} (h : xs.length = n) (hi : i < n) : (xs[i]?).isSome = true := by
  rw [List.getElem?_eq_getElem (by omega)]; rfl

/-- A token that comes in. -/
theorem tok_of {H : Type} {enc : TypeId × Value → H} {W : World} {base : Nat} {spare : Nat → Bool} {held : Bool} (fuel : Nat) (cs : List Value) (x : DataW H × List MemPlace) (hl : cs.length = 4)
    (h : DataW.trod enc Tryd.prog W base spare held fuel 90 cs = some x) : ∃ c : Int × Int × ByteArray × Int, cs = (tv c.1 c.2.1 c.2.2.1 c.2.2.2).toList ∧ c.2.2.1.size ≤ maxLen := by
  have c3 : Tryd.prog.cellsOf 3 = 1 := by kernel_rfl
  have c9 : Tryd.prog.cellsOf 9 = 1 := by kernel_rfl
  obtain ⟨xs, n, _, _, _, hxl, hf⟩ := DataW.trod_struct Tryd.underlying90 h
  obtain ⟨k, h0, _⟩ := field_int Tryd.underlying3 c3 (hf 0 _ rfl) (xs_some hxl (by decide))
  obtain ⟨p, h1, _⟩ := field_int Tryd.underlying3 c3 (hf 1 _ rfl) (xs_some hxl (by decide))
  obtain ⟨t, h2, hs⟩ := field_string Tryd.underlying9 c9 (hf 2 _ rfl) (xs_some hxl (by decide))
  obtain ⟨m, h3, _⟩ := field_int Tryd.underlying3 c3 (hf 3 _ rfl) (xs_some hxl (by decide))
  refine ⟨(k, p, t, m), ?_, hs⟩
  match cs, hl with
  | [a, b, c, d], _ =>
    obtain rfl : a = .int .i64 k := by simpa using h0
    obtain rfl : b = .int .i64 p := by simpa using h1
    obtain rfl : c = .string t := by simpa using h2
    obtain rfl : d = .int .i64 m := by simpa using h3
    rfl
end Go.Proofs.YtfamnloobmdhdaaDoor
namespace Go.Proofs.YtfamnloobmdhdaaDoor
open Go
set_option maxRecDepth 20000

/-- A number in a text, and where it begins. -/
structure Fig where
  n : Int
  pos : Int
/-- A word and its numbers. -/
structure Cla where
  word : List UInt8
  pos : Int
  nums : List Fig
  slash : Bool
  dash : Bool
/-- A line. -/
structure Raw where
  pos : Int
  dflt : Bool
  prio : Fig
  clauses : List Cla
  drop : Bool
  port : Fig

def wSrc : List UInt8 := [115, 114, 99]
def wDst : List UInt8 := [100, 115, 116]
def wSport : List UInt8 := [115, 112, 111, 114, 116]
def wDport : List UInt8 := [100, 112, 111, 114, 116]
def wProto : List UInt8 := [112, 114, 111, 116, 111]
def wDefault : List UInt8 := [100, 101, 102, 97, 117, 108, 116]
def wDrop : List UInt8 := [100, 114, 111, 112]
def wPort : List UInt8 := [112, 111, 114, 116]
def isAddrW (w : List UInt8) : Bool := w == wSrc || w == wDst
def isPortW (w : List UInt8) : Bool := w == wSport || w == wDport

abbrev Res (α : Type) := Except (Nat × Nat) α

/-- Where the token at hand begins, or the text ends. -/
def posOf (E : Nat) : List Tok → Nat
  | [] => E
  | t :: _ => t.pos
/-- A token of a kind. -/
def takeK (E k : Nat) : List Tok → Res (Tok × List Tok)
  | [] => .error (8, E)
  | t :: T => if t.kind = k then .ok (t, T) else .error (8, t.pos)
/-- A number. -/
def takeF (E : Nat) (T : List Tok) : Res (Fig × List Tok) := (takeK E 2 T).map fun x => (⟨(x.1.num : Int), (x.1.pos : Int)⟩, x.2)
/-- So many numbers more, with a Dot ahead of each. -/
def takeD (E : Nat) : Nat → List Tok → Res (List Fig × List Tok)
  | 0, T => .ok ([], T)
  | n + 1, T => (takeK E 3 T).bind fun x => (takeF E x.2).bind fun y => (takeD E n y.2).map fun z => (y.1 :: z.1, z.2)
/-- Perhaps a sign and a number. -/
def takeO (E k : Nat) : List Tok → Res (Option Fig × List Tok)
  | [] => .ok (none, [])
  | t :: T => if t.kind = k then (takeF E T).map fun y => (some y.1, y.2) else .ok (none, t :: T)
/-- A clause, its word being the token at hand. -/
def takeC (E : Nat) (had : List Cla) (t : Tok) (T : List Tok) : Res (Cla × List Tok) :=
  if !(isAddrW t.text) && !(isPortW t.text) && !(t.text == wProto) then .error (8, t.pos)
  else if had.any (fun c => c.word == t.text) then .error (9, t.pos)
  else (takeF E T).bind fun x =>
    if isAddrW t.text then (takeD E 3 x.2).bind fun y => (takeO E 4 y.2).map fun z => (⟨t.text, (t.pos : Int), x.1 :: y.1 ++ z.1.toList, z.1.isSome, false⟩, z.2)
    else if isPortW t.text then (takeO E 5 x.2).map fun z => (⟨t.text, (t.pos : Int), x.1 :: z.1.toList, false, z.1.isSome⟩, z.2)
    else .ok (⟨t.text, (t.pos : Int), [x.1], false, false⟩, x.2)
/-- Clauses, as many as there are (so many at most). -/
def takeCs (E : Nat) : Nat → List Cla → List Tok → Res (List Cla × List Tok)
  | 0, had, T => .ok (had, T)
  | _ + 1, had, [] => .ok (had, [])
  | f + 1, had, t :: T => if t.kind = 1 then (takeC E had t T).bind fun x => takeCs E f (had ++ [x.1]) x.2 else .ok (had, t :: T)
/-- What is done: the word 'drop', or 'port' and a number. -/
def takeA (E : Nat) : List Tok → Res ((Bool × Fig) × List Tok)
  | [] => .error (8, E)
  | t :: T => if t.kind = 1 ∧ t.text = wDrop then .ok ((true, ⟨0, 0⟩), T) else if t.kind = 1 ∧ t.text = wPort then (takeF E T).map fun x => ((false, x.1), x.2) else .error (8, t.pos)
/-- The end of a line, which is not taken. -/
def takeE : List Tok → Res (List Tok)
  | [] => .ok []
  | t :: T => if t.kind = 7 then .ok (t :: T) else .error (8, t.pos)
/-- What stands ahead of the Arrow. -/
def takeH (E : Nat) : List Tok → Res ((Bool × Fig × List Cla) × List Tok)
  | [] => .error (8, E)
  | t :: T => if t.kind = 1 ∧ t.text = wDefault then .ok ((true, ⟨0, 0⟩, []), T) else (takeF E (t :: T)).bind fun x => (takeCs E x.2.length [] x.2).map fun y => ((false, x.1, y.1), y.2)
/-- A line. -/
def takeR (E : Nat) (T : List Tok) : Res (Raw × List Tok) :=
  (takeH E T).bind fun x => (takeK E 6 x.2).bind fun y => (takeA E y.2).bind fun z => (takeE z.2).map fun u => (⟨(posOf E T : Int), x.1.1, x.1.2.1, x.1.2.2, z.1.1, z.1.2⟩, u)
/-- Lines (so many steps at most). -/
def takeL (E : Nat) : Nat → List Raw → List Tok → Res (List Raw)
  | 0, had, _ => .ok had
  | _ + 1, had, [] => .ok had
  | f + 1, had, t :: T => if t.kind = 7 then takeL E f had T else if had.length = 64 then .error (4, t.pos) else (takeR E (t :: T)).bind fun x => takeL E f (had ++ [x.1]) x.2
/-- A text's lines. -/
def parseT (S : List UInt8) : Res (List Raw) :=
  if 4096 < S.length then .error (5, 4096) else match lexW 0 S with
    | .error x => .error x
    | .ok T => takeL S.length (T.length + 1) [] T

/-- A number's digits. -/
def decF : Nat → Nat → List UInt8
  | 0, n => [UInt8.ofNat (48 + n % 10)]
  | f + 1, n => if n < 10 then [UInt8.ofNat (48 + n)] else decF f (n / 10) ++ [UInt8.ofNat (48 + n % 10)]
def dec (n : Nat) : List UInt8 := decF n n
def decI (n : Int) : List UInt8 := if 0 ≤ n then dec n.toNat else 45 :: dec (-n).toNat
/-- Numbers with a sign between. -/
def numsP (last : UInt8) : List Fig → List UInt8
  | [] => []
  | [x] => last :: decI x.n
  | x :: y :: l => 46 :: decI x.n ++ numsP last (y :: l)
def lastSign (c : Cla) : UInt8 := if c.slash then 47 else if c.dash then 45 else 46
def numsAll (c : Cla) : List UInt8 := match c.nums with
  | [] => []
  | x :: l => decI x.n ++ numsP (lastSign c) l
def claP (c : Cla) : List UInt8 := 32 :: c.word ++ (32 :: numsAll c)
def headP (x : Raw) : List UInt8 := (if x.dflt then wDefault else decI x.prio.n) ++ x.clauses.flatMap claP
def actP (x : Raw) : List UInt8 := if x.drop then wDrop else wPort ++ (32 :: decI x.port.n)
def rowP (x : Raw) : List UInt8 := headP x ++ ([32, 45, 62, 32] ++ (actP x ++ [10]))
def printT (l : List Raw) : List UInt8 := l.flatMap rowP
end Go.Proofs.YtfamnloobmdhdaaDoor
namespace Go.Proofs.YtfamnloobmdhdaaDoor
open Go.ChangeShapes Go.WideShapes Go.ChangeAt Go.WideMaps Go.WideElems Go.RowKit
set_option maxRecDepth 20000

def figV (f : Fig) : Array Value := #[.int .i64 f.n, .int .i64 f.pos]
def claV (c : Cla) (u : Value) : Array Value := #[.string ⟨c.word.toArray⟩, .int .i64 c.pos, u, .bool c.slash, .bool c.dash]
def rawV (x : Raw) (u : Value) : Array Value := #[.int .i64 x.pos, .bool x.dflt, .int .i64 x.prio.n, .int .i64 x.prio.pos, u, .bool x.drop, .int .i64 x.port.n, .int .i64 x.port.pos]
def FigE : El := ⟨48, 52, 2, 16, #[.int .i64 0, .int .i64 0]⟩
def ClaE : El := ⟨54, 49, 5, 56, #[.string ⟨#[]⟩, .int .i64 0, .slice none 0 0, .bool false, .bool false]⟩
def RawE : El := ⟨51, 29, 8, 80, #[.int .i64 0, .bool false, .int .i64 0, .int .i64 0, .slice none 0 0, .bool false, .int .i64 0, .int .i64 0]⟩
theorem FigOk : FigE.Ok := ⟨Tryd.underlying52, ⟨_, Tryd.underlying48, rfl⟩, by kernel_rfl, rfl, by decide, by decide, by decide⟩
theorem ClaOk : ClaE.Ok := ⟨Tryd.underlying49, ⟨_, Tryd.underlying54, rfl⟩, by kernel_rfl, rfl, by decide, by decide, by decide⟩
theorem RawOk : RawE.Ok := ⟨Tryd.underlying29, ⟨_, Tryd.underlying51, rfl⟩, by kernel_rfl, rfl, by decide, by decide, by decide⟩
theorem fig_fits (f : Fig) : Fits FigE (figV f) := ⟨rfl, by simp [figV, Value.oneCell']⟩

/-- A clause's numbers, a line's clauses, the lines, as they lie in memory. -/
def FigsAt (w : World) (c : Cla) (u : Value) : Prop := GSl FigE figV w u c.nums
def ClasAt (w : World) (x : Raw) (u : Value) : Prop := NSl ClaE claV FigsAt w u x.clauses
def RawsAt (w : World) (v : Value) (l : List Raw) : Prop := NSl RawE rawV ClasAt w v l
theorem figs_below (w w' : World) (c : Cla) (u : Value) (hb : Below w.heap.size w w') (h : FigsAt w c u) : FigsAt w' c u := GSl.below h hb
theorem clas_below (w w' : World) (x : Raw) (u : Value) (hb : Below w.heap.size w w') (h : ClasAt w x u) : ClasAt w' x u := NSl.below figs_below h hb
theorem raws_below {w w' : World} {v : Value} {l : List Raw} (h : RawsAt w v l) (hb : Below w.heap.size w w') : RawsAt w' v l := NSl.below clas_below h hb

theorem fig_of {H : Type} {enc : TypeId × Value → H} {W : World} {base : Nat} {spare : Nat → Bool} {held : Bool} (fuel : Nat) (cs : List Value) (x : DataW H × List MemPlace) (hl : cs.length = 2)
    (h : DataW.trod enc Tryd.prog W base spare held fuel 48 cs = some x) : ∃ f : Fig, cs = (figV f).toList ∧ (Lit.int .i64 f.n).wf = true := by
  have c3 : Tryd.prog.cellsOf 3 = 1 := by kernel_rfl
  obtain ⟨xs, n, _, _, _, hxl, hf⟩ := DataW.trod_struct Tryd.underlying48 h
  obtain ⟨k, h0, w0⟩ := field_int Tryd.underlying3 c3 (hf 0 _ rfl) (xs_some hxl (by decide))
  obtain ⟨p, h1, _⟩ := field_int Tryd.underlying3 c3 (hf 1 _ rfl) (xs_some hxl (by decide))
  refine ⟨⟨k, p⟩, ?_, w0⟩
  match cs, hl with
  | [a, b], _ =>
    obtain rfl : a = .int .i64 k := by simpa using h0
    obtain rfl : b = .int .i64 p := by simpa using h1
    rfl
/-- What is asked of the numbers that come in. -/
def wfN (n : Int) : Prop := (Lit.int .i64 n).wf = true
theorem cla_of {H : Type} {enc : TypeId × Value → H} {W : World} {base : Nat} {spare : Nat → Bool} {held : Bool} (fuel : Nat) (cs : List Value) (x : DataW H × List MemPlace) (hl : cs.length = 5)
    (h : DataW.trod enc Tryd.prog W base spare held fuel 54 cs = some x) : ∃ c : Cla × Value, cs = (claV c.1 c.2).toList ∧ (FigsAt W c.1 c.2 ∧ c.1.word.length ≤ maxLen ∧ ∀ f ∈ c.1.nums, wfN f.n) := by
  have c3 : Tryd.prog.cellsOf 3 = 1 := by kernel_rfl
  have c4 : Tryd.prog.cellsOf 4 = 1 := by kernel_rfl
  have c9 : Tryd.prog.cellsOf 9 = 1 := by kernel_rfl
  have cf : Tryd.prog.cellsOf 52 = 1 := by kernel_rfl
  obtain ⟨xs, n, _, _, _, hxl, hf⟩ := DataW.trod_struct Tryd.underlying54 h
  obtain ⟨t, h0, hs⟩ := field_string Tryd.underlying9 c9 (hf 0 _ rfl) (xs_some hxl (by decide))
  obtain ⟨p, h1, _⟩ := field_int Tryd.underlying3 c3 (hf 1 _ rfl) (xs_some hxl (by decide))
  obtain ⟨v, y, h2, hv⟩ := field_slice Tryd.underlying52 cf (hf 2 _ rfl) (xs_some hxl (by decide))
  obtain ⟨b1, h3⟩ := field_bool Tryd.underlying4 c4 (hf 3 _ rfl) (xs_some hxl (by decide))
  obtain ⟨b2, h4⟩ := field_bool Tryd.underlying4 c4 (hf 4 _ rfl) (xs_some hxl (by decide))
  have hin : Inhabited Fig := ⟨⟨0, 0⟩⟩
  obtain ⟨C, hC, hq⟩ := open_any (E := FigE) FigOk figV (fun _ => rfl) (fun f => wfN f.n) fig_of hv
  refine ⟨(⟨t.data.toList, p, C, b1, b2⟩, v), ?_, hC, by show t.data.toList.length ≤ maxLen; simpa using hs, hq⟩
  match cs, hl with
  | [a, b, c, d, e], _ =>
    obtain rfl : a = .string t := by simpa using h0
    obtain rfl : b = .int .i64 p := by simpa using h1
    obtain rfl : c = v := by simpa using h2
    obtain rfl : d = .bool b1 := by simpa using h3
    obtain rfl : e = .bool b2 := by simpa using h4
    rfl
theorem raw_of {H : Type} {enc : TypeId × Value → H} {W : World} {base : Nat} {spare : Nat → Bool} {held : Bool} (fuel : Nat) (cs : List Value) (x : DataW H × List MemPlace) (hl : cs.length = 8)
    (h : DataW.trod enc Tryd.prog W base spare held fuel 51 cs = some x) : ∃ c : Raw × Value, cs = (rawV c.1 c.2).toList ∧ (ClasAt W c.1 c.2 ∧ wfN c.1.prio.n ∧ wfN c.1.port.n ∧ ∀ d ∈ c.1.clauses, d.word.length ≤ maxLen ∧ ∀ f ∈ d.nums, wfN f.n) := by
  have c3 : Tryd.prog.cellsOf 3 = 1 := by kernel_rfl
  have c4 : Tryd.prog.cellsOf 4 = 1 := by kernel_rfl
  have cc : Tryd.prog.cellsOf 49 = 1 := by kernel_rfl
  have cfig : Tryd.prog.cellsOf 48 = 2 := by kernel_rfl
  obtain ⟨xs, n, _, _, _, hxl, hf⟩ := DataW.trod_struct Tryd.underlying51 h
  obtain ⟨p, h0, _⟩ := field_int Tryd.underlying3 c3 (hf 0 _ rfl) (xs_some hxl (by decide))
  obtain ⟨b1, h1⟩ := field_bool Tryd.underlying4 c4 (hf 1 _ rfl) (xs_some hxl (by decide))
  have g2 : DataW.trod enc Tryd.prog W base spare held n 48 ((cs.drop 2).take (Tryd.prog.cellsOf 48)) = xs[2]? := hf 2 _ rfl
  obtain ⟨y2, e2⟩ := Option.isSome_iff_exists.1 (xs_some (i := 2) hxl (by decide))
  rw [e2, cfig] at g2
  obtain ⟨pr, h2, w2⟩ := fig_of _ _ _ (by simp [hl]) g2
  obtain ⟨v, y, h3, hv⟩ := field_slice Tryd.underlying49 cc (hf 3 _ rfl) (xs_some hxl (by decide))
  obtain ⟨b2, h4⟩ := field_bool Tryd.underlying4 c4 (hf 4 _ rfl) (xs_some hxl (by decide))
  have g5 : DataW.trod enc Tryd.prog W base spare held n 48 ((cs.drop 6).take (Tryd.prog.cellsOf 48)) = xs[5]? := hf 5 _ rfl
  obtain ⟨y5, e5⟩ := Option.isSome_iff_exists.1 (xs_some (i := 5) hxl (by decide))
  rw [e5, cfig] at g5
  obtain ⟨po, h5, w5⟩ := fig_of _ _ _ (by simp [hl]) g5
  have hin : Inhabited (Cla × Value) := ⟨(⟨[], 0, [], false, false⟩, undef)⟩
  obtain ⟨C, hC, hq⟩ := open_any (E := ClaE) ClaOk (fun q : Cla × Value => claV q.1 q.2) (fun _ => rfl) (fun q => FigsAt W q.1 q.2 ∧ q.1.word.length ≤ maxLen ∧ ∀ f ∈ q.1.nums, wfN f.n) cla_of hv
  refine ⟨(⟨p, b1, pr, C.map (·.1), b2, po⟩, v), ?_, ⟨C, rfl, hC, fun q hq' => (hq q hq').1⟩, w2, w5, fun d hd => ?_⟩
  · match cs, hl with
    | [a0, a1, a2, a3, a4, a5, a6, a7], _ =>
      obtain rfl : a0 = .int .i64 p := by simpa using h0
      obtain rfl : a1 = .bool b1 := by simpa using h1
      obtain ⟨rfl, rfl⟩ : a2 = .int .i64 pr.n ∧ a3 = .int .i64 pr.pos := by simpa [figV] using h2
      obtain rfl : a4 = v := by simpa using h3
      obtain rfl : a5 = .bool b2 := by simpa using h4
      obtain ⟨rfl, rfl⟩ : a6 = .int .i64 po.n ∧ a7 = .int .i64 po.pos := by simpa [figV] using h5
      rfl
  · obtain ⟨q, hq', rfl⟩ := List.mem_map.1 hd
    exact (hq q hq').2
/-- Lines that come in. -/
theorem open_raws {H : Type} {enc : TypeId × Value → H} {W : World} {r : Reach} {b0 base : Nat} {spare : Nat → Bool} {held : Bool} {v : Value} {d : DataW H} {p : List MemPlace}
    (hok : Value.okWide Tryd.prog W r b0 29 v) (h : DataW.Trod enc Tryd.prog W base spare held 29 v d p) :
    ∃ l, RawsAt W v l ∧ ∀ x ∈ l, wfN x.prio.n ∧ wfN x.port.n ∧ ∀ d ∈ x.clauses, d.word.length ≤ maxLen ∧ ∀ f ∈ d.nums, wfN f.n := by
  obtain ⟨fuel, hf⟩ := h
  have hv1 : v.cells.toList = [v] := by
    simp only [Value.okWide, Cell.okWide, Cell.ok, Tryd.underlying29] at hok
    cases v <;> simp_all [Value.cells]
  rw [hv1] at hf
  have hin : Inhabited (Raw × Value) := ⟨(⟨0, false, ⟨0, 0⟩, [], false, ⟨0, 0⟩⟩, undef)⟩
  obtain ⟨C, hC, hq⟩ := open_any (E := RawE) RawOk (fun q : Raw × Value => rawV q.1 q.2) (fun _ => rfl) (fun q => ClasAt W q.1 q.2 ∧ wfN q.1.prio.n ∧ wfN q.1.port.n ∧ ∀ d ∈ q.1.clauses, d.word.length ≤ maxLen ∧ ∀ f ∈ d.nums, wfN f.n) raw_of hf
  refine ⟨C.map (·.1), ⟨C, rfl, hC, fun q hq' => (hq q hq').1⟩, fun x hx => ?_⟩
  obtain ⟨q, hq', rfl⟩ := List.mem_map.1 hx
  exact (hq q hq').2
end Go.Proofs.YtfamnloobmdhdaaDoor
namespace Go.Proofs.YtfamnloobmdhdaaDoor
open Go Go.RowKit
set_option maxRecDepth 20000

/-- An operation that only reckons or reads. -/
def isRead (o : Oper) : Bool :=
  match o.op with
  | .move _ | .load _ _ | .binOp _ _ _ _ _ | .indexAddr _ _ _ | .extract _ _ | .assign _ | .fieldAddr _ _ _ | .slice _ _ _ _ _ => true
  | _ => false

theorem read_value {P : Program} {ρ : Operand → Value} {o : Oper} (h : isRead o = true) (w : World) (nx : Next) (w' : World) (hr : (execOp ρ o).run P w = .ok nx w') : ∃ u, nx = .value u := by
  unfold isRead at h
  unfold execOp at hr
  split at h
  · rename_i x e
    simp only [e, Sem.run_pure, Result.ok.injEq] at hr
    exact ⟨_, hr.1.symm⟩
  · rename_i t x e
    simp only [e, Sem.run_bind, Sem.run_pure] at hr
    revert hr
    generalize (Instr.loadAt t (ρ x)).run P w = r
    intro hr
    cases r with
    | ok a w1 => simp only [Result.andThen_ok, Result.ok.injEq] at hr; exact ⟨_, hr.1.symm⟩
    | halt x w1 => simp [Result.andThen] at hr
  · rename_i op t x y z e
    simp only [e, Sem.run_bind, Sem.run_pure] at hr
    revert hr
    generalize ((eqGuard op t x y (ρ x) (ρ y)).run P w).andThen (fun _ w' => (binOp op t (ρ x) (ρ y)).run P w') = r
    intro hr
    cases r with
    | ok a w1 => simp only [Result.andThen_ok, Result.ok.injEq] at hr; exact ⟨_, hr.1.symm⟩
    | halt x w1 => simp [Result.andThen] at hr
  · rename_i t x y e
    simp only [e, Sem.run_bind, Sem.run_pure] at hr
    revert hr
    generalize (Instr.indexAt t (ρ x) (ρ y)).run P w = r
    intro hr
    cases r with
    | ok a w1 => simp only [Result.andThen_ok, Result.ok.injEq] at hr; exact ⟨_, hr.1.symm⟩
    | halt x w1 => simp [Result.andThen] at hr
  · rename_i x i e
    simp only [e, Sem.run_bind, Sem.run_pure] at hr
    revert hr
    generalize (Instr.extract (ρ x) i).run P w = r
    intro hr
    cases r with
    | ok a w1 => simp only [Result.andThen_ok, Result.ok.injEq] at hr; exact ⟨_, hr.1.symm⟩
    | halt x w1 => simp [Result.andThen] at hr
  · rename_i x e
    simp only [e, Sem.run_pure, Result.ok.injEq] at hr
    exact ⟨_, hr.1.symm⟩
  · rename_i t x i e
    simp only [e, Sem.run_bind, Sem.run_pure] at hr
    revert hr
    generalize (Instr.fieldAt t (ρ x) i).run P w = r
    intro hr
    cases r with
    | ok a w1 => simp only [Result.andThen_ok, Result.ok.injEq] at hr; exact ⟨_, hr.1.symm⟩
    | halt x w1 => simp [Result.andThen] at hr
  · rename_i t x lo hi mx e
    simp only [e, Sem.run_bind, Sem.run_pure] at hr
    revert hr
    generalize (Instr.sliceAt t (ρ x) (lo.map ρ) (hi.map ρ) (mx.map ρ)).run P w = r
    intro hr
    cases r with
    | ok a w1 => simp only [Result.andThen_ok, Result.ok.injEq] at hr; exact ⟨_, hr.1.symm⟩
    | halt x w1 => simp [Result.andThen] at hr
  · cases h

theorem yieldsIf_of_in {P : Program} {ops : Array Oper} {S : World → Prop} {o : Oper} {v : Value} {a : Act} (h : isRead o = true) (hy : YieldsIn P ops S o v a) : YieldsIf P ops S o v a := by
  rcases hy with ⟨hw, hv⟩ | hn
  · refine .inl ⟨hw, fun w hS => ?_⟩
    have hq := hv w hS
    unfold Oper.quietAt at hq
    cases hr : (execOp a.eval o).run P w with
    | ok nx w' =>
      obtain ⟨u, rfl⟩ := read_value h w nx w' hr
      rw [hr] at hq
      obtain ⟨rfl, rfl⟩ := hq
      rfl
    | halt x w' => rw [hr] at hq; exact hq.elim
  · exact .inr hn

def headFrom (md : Region.Mode) (ops : Array Oper) : Nat → Nat → Array Bool → Bool
  | 0, _, _ => true
  | f + 1, k, listed => (Region.ready md ops listed).contains k && Region.free md ops listed k && headFrom md ops f (k + 1) (listed.setIfInBounds k true)
def listedFrom : Nat → Nat → Array Bool → Array Bool
  | 0, _, l => l
  | f + 1, k, l => listedFrom f (k + 1) (l.setIfInBounds k true)

theorem reads_held {P : Program} {md : Region.Mode} {ops : Array Oper} {Q : Exit → Act → World → Prop} {S : World → Prop} {g : Nat} (hs : Region.noSelect ops = true) (hQ : ∀ d v c a w, Q (.panic c) (Act.put a d v) w → Q (.panic c) a w) (w : World) (hS : S w) :
    ∀ (l : List Oper) (k : Nat) (listed : Array Bool) (a : Act), (∀ j, j < l.length → l[j]? = ops[k + j]?) → headFrom md ops l.length k listed = true → l.all isRead = true →
      wpQuiet P ops S (fun a' => wpAnyH P md ops Q S g (listedFrom l.length k listed) a' w) l a → wpAnyH P md ops Q S (l.length + g) listed a w
  | [], _, _, _, _, _, _, h => by simpa [wpQuiet, listedFrom] using h
  | o :: l, k, listed, a, hl, hB, hr, h => by
    have h0 : ops[k]? = some o := by simpa using (hl 0 (by simp)).symm
    simp only [List.length_cons, headFrom, Bool.and_eq_true] at hB
    simp only [List.all_cons, Bool.and_eq_true] at hr
    have hst : qOp P ops S k (wpQuiet P ops S (fun a' => wpAnyH P md ops Q S g (listedFrom (o :: l).length k listed) a' w) l) a := by
      unfold qOp; simp only [h0]; exact h
    obtain ⟨v, hy, hK⟩ := yieldsIn_of_qOp h0 hst
    have ih := reads_held hs hQ w hS l (k + 1) (listed.setIfInBounds k true) (a.put o.dst v) (fun j hj => by
      have := hl (j + 1) (by simp; omega)
      simpa [Nat.add_assoc, Nat.add_comm 1 j] using this) hB.2 hr.2 hK
    rw [show (o :: l).length + g = (l.length + g) + 1 by simp; omega]
    exact wpAnyH_take h0 hs hB.1.2 hB.1.1 (fun c a w => hQ o.dst v c a w) (yieldsIf_of_in hr.1 hy) hS ih

/-- A drawn region, from its beginning. -/
theorem region_begin {P : Program} {id : Nat} {Q : Exit → Act → World → Prop} {a : Act} {w : World} {lo : List Oper} (n : Nat) (hn : lo.length = n) (hm : P.follows .mixedOrders = true)
    (h : wpAnyH P .any lo.toArray Q (fun w' => ∃ u : Later w, w' = u.world) n (Array.replicate n false) a w.drew) : (Code.region id lo.toArray true).wp P Q a w := by
  refine wp_region_held (S := fun w' => ∃ u : Later w, w' = u.world) hm ?_
  rw [show lo.toArray.size = n by simpa using hn]
  exact h
/-- The same with a class of worlds of one's own. -/
theorem region_beginS {P : Program} {id : Nat} {Q : Exit → Act → World → Prop} {a : Act} {w : World} {lo : List Oper} (S : World → Prop) (n : Nat) (hn : lo.length = n) (hm : P.follows .mixedOrders = true)
    (h : wpAnyH P .any lo.toArray Q S n (Array.replicate n false) a w.drew) : (Code.region id lo.toArray true).wp P Q a w := by
  refine wp_region_held (S := S) hm ?_
  rw [show lo.toArray.size = n by simpa using hn]
  exact h
/-- n operations, from number k on, that only read, are taken first. -/
theorem region_reads {P : Program} {Q : Exit → Act → World → Prop} {S : World → Prop} {a : Act} {w : World} {lo : List Oper} {listed : Array Bool} (k n g : Nat) (hl : ((lo.drop k).take n).length = n) (hs : Region.noSelect lo.toArray = true)
    (hB : headFrom .any lo.toArray n k listed = true) (hr : ((lo.drop k).take n).all isRead = true) (hQ : ∀ d v c a w, Q (.panic c) (Act.put a d v) w → Q (.panic c) a w) (hS : S w)
    (h : wpQuiet P lo.toArray S (fun a' => wpAnyH P .any lo.toArray Q S g (listedFrom n k listed) a' w) ((lo.drop k).take n) a) : wpAnyH P .any lo.toArray Q S (n + g) listed a w := by
  have := reads_held (P := P) (md := .any) (Q := Q) (g := g) hs hQ w hS ((lo.drop k).take n) k listed a (fun j hj => by
    rw [hl] at hj
    rw [List.getElem?_take_of_lt hj, List.getElem?_drop]
    simp) (by rw [hl]; exact hB) hr (by rw [hl]; exact h)
  rwa [hl] at this
theorem noPanic {F : Act → World → Prop} : ∀ (d : Option Tmp) (v : Value) c (a : Act) (w : World), (fun (e : Exit) a w => e = .normal ∧ F a w) (.panic c) (Act.put a d v) w → (fun (e : Exit) a w => e = .normal ∧ F a w) (.panic c) a w :=
  fun _ _ _ _ _ h => absurd h.1 (by simp)
/-- A cut behind a region. -/
theorem region_cut {P : Program} {c : Code} {Q : Exit → Act → World → Prop} {a : Act} {w : World} (F : Act → Act → World → Prop) (h1 : c.wp P (fun e a' w' => e = .normal ∧ F a a' w') a w) (h2 : ∀ a' w', F a a' w' → Q .normal a' w') : c.wp P Q a w :=
  Code.wp_mono (by rintro e a' w' ⟨rfl, h⟩; exact h2 a' w' h) h1

theorem wpOp_wanted {P : Program} {ops : Array Oper} {Q : Exit → Act → World → Prop} {i : Nat} {o : Oper} {K : Act → World → Prop} {a : Act} {w : World} (hi : ops[i]? = some o) (hw : Region.wanted o (yielded ops a.tmps) = true) (h : o.wp P a w K Q) : wpOp P ops Q i K a w := by
  unfold Go.wpOp
  simp only [hi, hw, if_true]
  exact .inl h
theorem wpOp_call {ops : Array Oper} {Q : Exit → Act → World → Prop} {i : Nat} {o : Oper} {K : Act → World → Prop} {a : Act} {w : World} (hi : ops[i]? = some o) (hw : Region.wanted o (yielded ops a.tmps) = true) (f : FuncId) (xs : Array Operand)
    (hf : ∀ (b : Act) (w : World), (execOp b.eval o).run Tryd.prog w = .ok (.enter f (xs.map b.eval)) w) (vs : Array Value) (hvs : xs.toList.map a.eval = vs.toList)
    (D : Value → World → Prop) (h : Calls Tryd.prog f vs w fun e w' => ∃ v, e = .returned v ∧ D v w') (d : Option Tmp) (hd : o.dst = d) (hK : ∀ v w', D v w' → K (a.put d v) w') : wpOp Tryd.prog ops Q i K a w := by
  subst hd
  refine wpOp_wanted hi hw ?_
  unfold Oper.wp
  rw [hf a w, show xs.map a.eval = vs from Array.ext' (by rw [Array.toList_map]; exact hvs)]
  refine h.mono ?_
  rintro e w' ⟨v, rfl, hc⟩
  exact hK v w' hc
theorem wpOp_store26 {ops : Array Oper} {Q : Exit → Act → World → Prop} {i : Nat} {o : Oper} {K : Act → World → Prop} {a : Act} {w : World} (hi : ops[i]? = some o) (hw : Region.wanted o (yielded ops a.tmps) = true) (x y : Operand) (ho : o.op = .store 37 x y)
    (g : Nat) (L : List Int) (hx : a.eval x = .pointer (some ⟨g, 0, none⟩)) (hy : a.eval y = .agg (hv L)) (old : Array Value) (hg : w.heap[g]? = some (.cells old 37 (0, 0))) (hold : old.size = 13) (hL : L.length = 13) (d : Option Tmp) (hd : o.dst = d)
    (hK : K (a.put d undef) (w.setRow g (hv L))) : wpOp Tryd.prog ops Q i K a w := by
  subst hd
  exact wpOp_wanted hi hw (wp_store_row 37 x y ho g (hv L) hx hy 37 old hg (size26 L hL) (by rw [hv_size, hold, hL]) (hv_one L) hK)
theorem wpOp_assign {P : Program} {ops : Array Oper} {Q : Exit → Act → World → Prop} {i : Nat} {o : Oper} {K : Act → World → Prop} {a : Act} {w : World} (hi : ops[i]? = some o) (hw : Region.wanted o (yielded ops a.tmps) = true) (x : Operand) (ho : o.op = .assign x) (v : Value) (hx : a.eval x = v) (d : Option Tmp) (hd : o.dst = d)
    (hK : K (a.put d v) w) : wpOp P ops Q i K a w := by
  subst hd hx
  refine wpOp_wanted hi hw ?_
  unfold Oper.wp execOp
  simp only [ho, Sem.run_pure]
  exact hK
end Go.Proofs.YtfamnloobmdhdaaDoor
