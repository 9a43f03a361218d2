import Derived.Test.YtgcfdcgmddjhbaaDoorPrInt
import Derived.Test.YtgcfdcgmddjhbaaDoorRdTake
import Derived.Test.YtgcfdcgmddjhbaaDoorParsePrint
import Derived.Lib.AppendStr
import Derived.Lib.ItoaLen
import Derived.Lib.OthersKept
namespace Go.Proofs.YtgcfdcgmddjhbaaDoor
open Go Go.RowKit
set_option maxRecDepth 20000

theorem decDigits_dec (n : Nat) : Lib.decDigits n = dec n := by
  induction n using Nat.strongRecOn with
  | ind n ih =>
    by_cases h : n < 10
    · rw [Lib.decDigits_one h, dec_small h]
    · rw [Lib.decDigits, dif_neg h, ih (n / 10) (by omega), dec_big (n := n) (by omega), dec_small (show n % 10 < 10 by omega)]
theorem itoa_decI (n : Int) : Lib.itoa n = decI n := by
  unfold Lib.itoa decI
  by_cases h : n < 0
  · rw [if_pos h, if_neg (by omega), decDigits_dec, show n.natAbs = (-n).toNat by omega]
  · rw [if_neg h, if_pos (by omega), decDigits_dec]

/-- A buffer of bytes of one's own. -/
def Buf (B : Nat) (w : World) (v : Value) (bs : List UInt8) : Prop := w.ownsRow B 5 1 v bs.length (Lib.byteCells bs)
/-- What an append leaves: the buffer, all below it, and all blocks of other types. -/
structure Pt (B : Nat) (w w' : World) (v' : Value) (bs : List UInt8) : Prop where
  buf : Buf B w' v' bs
  below : Below B w w'
  kept : Lib.OthersKept 5 none w w'
theorem Pt.trans {B : Nat} {a b c : World} {v v' : Value} {bs bs' : List UInt8} (h : Pt B a b v bs) (h' : Pt B b c v' bs') : Pt B a c v' bs' := ⟨h'.buf, h.below.trans h'.below, h.kept.trans h'.kept⟩
theorem Pt.alloc {B : Nat} {w w' : World} {v : Value} {bs : List UInt8} (h : Pt B w w' v bs) (hB : B ≤ w'.heap.size) (o : Obj) : Pt B w (w'.alloc o) v bs :=
  ⟨h.buf.alloc o, h.below.alloc hB o, fun k x hk hb ho => heap_past _ _ _ _ (h.kept k x hk hb ho)⟩
theorem Pt.start {B : Nat} {w : World} {v : Value} {bs : List UInt8} (h : Buf B w v bs) : Pt B w w v bs := ⟨h, Below.refl _ _, Lib.OthersKept.refl _ _ _⟩
/-- A block of another type is kept. -/
theorem kept_row {w w' : World} (h : Lib.OthersKept 5 none w w') {k : Nat} {cs : Array Value} {ty : TypeId} {fr : Nat × Nat} (hk : w.heap[k]? = some (.cells cs ty fr)) (ht : ty ≠ 5) : w'.heap[k]? = some (.cells cs ty fr) :=
  h k _ hk (by simp) fun c fz hq => ht (by injection hq)
theorem kept_grown {w w' : World} {B n : Nat} {v : Value} {xs : List Value} (hown : w.ownsRow B 5 1 v n xs) (hgr : w.grownBy w' v.ownBlock) : Lib.OthersKept 5 none w w' := fun k o hk _ ho => by
  refine (hgr.block k (Array.getElem?_eq_some_iff.1 hk).1 fun hq => ?_).trans hk
  obtain ⟨_, ⟨rfl, _⟩ | ⟨g, cap, cur, rfl, _, h2, _⟩⟩ := hown
  · simp [Value.ownBlock] at hq
  · simp only [Value.ownBlock, Option.some.injEq] at hq
    subst hq
    rw [hk] at h2
    exact ho _ _ (Option.some.inj h2)
theorem infoByte : ∃ i, Tryd.prog.info? 5 = some i ∧ i.zero = some (.int .u8 0) ∧ i.size = 1 ∧ i.bytes = 1 := by
  have h : (Tryd.prog.info? 5).map (fun i => (i.zero, i.size, i.bytes)) = some (some (.int .u8 0), 1, 1) := by kernel_rfl
  cases hi : Tryd.prog.info? 5 with
  | none => rw [hi] at h; simp at h
  | some i =>
    rw [hi] at h
    simp only [Option.map_some, Option.some.injEq, Prod.mk.injEq] at h
    exact ⟨i, rfl, h.1, h.2.1, h.2.2⟩
/-- A string is appended. -/
theorem wl_appS {ops : Array Oper} {rest : List Oper} {o : Oper} {a : Act} {w : World} {Q : Exit → Act → World → Prop} (hgd : o.guard = none) (sl x : Operand) (ho : o.op = .call { callee := .builtin .append, args := #[sl, x], argTypes := #[37, 9] })
    (B : Nat) (v : Value) (bs : List UInt8) (hs : a.eval sl = v) (hb : Buf B w v bs) (s : ByteArray) (hx : a.eval x = .string s) (hn : bs.length + s.size ≤ 1000000) (hB : B ≤ w.heap.size)
    (h : ∀ v' w', Pt B w w' v' (bs ++ s.data.toList) → wpList Tryd.prog ops Q rest (a.put o.dst v') w') : wpList Tryd.prog ops Q (o :: rest) a w := by
  obtain ⟨i, hi, hz, h1, h2⟩ := infoByte
  refine Lib.wpList_append_own_string _ hgd sl x 37 9 ho B 5 i Tryd.underlying37 Tryd.underlying9 hi hz h1 h2 v _ _ hs hb s hx (by unfold maxLen; omega) (by omega) hB ?_
  intro v' w' hown hgr _
  refine h v' w' ⟨?_, ?_, kept_grown hb hgr⟩
  · have e : Lib.byteCells bs ++ Lib.strCells s = Lib.byteCells (bs ++ s.data.toList) := by simp [Lib.byteCells, Lib.strCells]
    have e2 : bs.length + s.size = (bs ++ s.data.toList).length := by rw [List.length_append, Lib.size_eq]
    rw [e, e2] at hown
    exact hown
  · exact (Below.refl _ _).grown hgr hB fun k hk => (hb.lt k hk).1
/-- A byte is appended: it lies in a new block of its own. -/
theorem wl_appB {ops : Array Oper} {rest : List Oper} {o : Oper} {a : Act} {w : World} {Q : Exit → Act → World → Prop} (hgd : o.guard = none) (sl x : Operand) (ho : o.op = .call { callee := .builtin .append, args := #[sl, x], argTypes := #[37, 37] })
    (B : Nat) (v : Value) (bs : List UInt8) (hs : a.eval sl = v) (hb : Buf B w v bs) (g : Nat) (c : UInt8) (hx : a.eval x = .slice (some ⟨g, 0, none⟩) 1 1) (hg : w.heap[g]? = some (.cells #[.int .u8 (c.toNat : Int)] 5 (0, 0))) (hn : bs.length ≤ 1000000) (hB : B ≤ w.heap.size)
    (h : ∀ v' w', Pt B w w' v' (bs ++ [c]) → wpList Tryd.prog ops Q rest (a.put o.dst v') w') : wpList Tryd.prog ops Q (o :: rest) a w := by
  obtain ⟨i, hi, hz, h1, h2⟩ := infoByte
  refine wpList_append_own _ hgd sl x 37 ho B 5 i (.int .u8 0) 1 1 Tryd.underlying37 hi hz h1 h2 rfl (by decide) v _ _ hs hb ⟨g, 0, none⟩ 1 1 [.int .u8 (c.toNat : Int)] hx rfl ?_ ?_ (by unfold maxLen; omega) (by omega) hB ?_
  · intro j u hj
    match j, hj with
    | 0, hj =>
      simp at hj
      subst hj
      show w.cell? ⟨g, 0, none⟩ = _
      rw [cell_of_row _ _ _ _ _ _ hg]
      rfl
  · intro u hu
    simp at hu
    subst hu
    rfl
  intro v' w' hown hgr _
  refine h v' w' ⟨?_, (Below.refl _ _).grown hgr hB fun k hk => (hb.lt k hk).1, kept_grown hb hgr⟩
  have e : Lib.byteCells bs ++ [Value.int .u8 (c.toNat : Int)] = Lib.byteCells (bs ++ [c]) := by simp [Lib.byteCells]
  have e2 : bs.length + 1 = (bs ++ [c]).length := by simp
  rw [e, e2] at hown
  exact hown

set_option maxHeartbeats 2000000 in
theorem printFigure_any (B : Nat) (f : Fig) (hf : okN f.n) (v : Value) (bs : List UInt8) (w : World) (hb : Buf B w v bs) (hB : B ≤ w.heap.size) (hn : bs.length ≤ 1000000) (htab : Lib.TabBelow Tryd.prog B w "internal/strconv.uint64pow10" .u64 Lib.pow10Tab) :
    Calls Tryd.prog 13 #[v, .agg (figV f)] w fun e w' => ∃ v', e = .returned v' ∧ Pt B w w' v' (bs ++ decI f.n) := by
  have CA : Hid (∀ W, Buf B W v bs → B ≤ W.heap.size → Lib.TabBelow Tryd.prog B W "internal/strconv.uint64pow10" .u64 Lib.pow10Tab → Calls Tryd.prog 20 #[v, .int .i64 f.n, .int .i64 10] W fun e w' => ∃ v', e = .returned v' ∧ Pt B W w' v' (bs ++ decI f.n)) := fun W hb hB ht => by
    refine (appendInt_any B bs.length f.n hf.1 hf.2 v _ W hb hB (by omega) ht).mono ?_
    rintro e w' ⟨v', rfl, h1, h2, h3⟩
    refine ⟨v', rfl, ?_, h2, h3⟩
    rw [itoa_decI] at h1
    have e : Lib.byteCells bs ++ Lib.byteCells (decI f.n) = Lib.byteCells (bs ++ decI f.n) := by simp [Lib.byteCells]
    rw [e, ← List.length_append] at h1
    exact h1
  have HB : Hid (Buf B w v bs) := hb
  have HT : Hid (Lib.TabBelow Tryd.prog B w "internal/strconv.uint64pow10" .u64 Lib.pow10Tab) := htab
  have n0 := heap_new w (.cells (figV f) 25) _ rfl
  have c0 : (w.alloc (.cells (figV f) 25)).cell? ⟨w.heap.size, 0, none⟩ = some (.int .i64 f.n) := by rw [cell_of_row _ _ _ _ _ _ n0]; rfl
  have bA : Below B w (w.alloc (.cells (figV f) 25)) := (Below.refl _ _).alloc hB _
  have HP : Hid (Pt B w (w.alloc (.cells (figV f) 25)) v bs) := (Pt.start hb).alloc hB _
  have HTA : Hid (Lib.TabBelow Tryd.prog B (w.alloc (.cells (figV f) 25)) "internal/strconv.uint64pow10" .u64 Lib.pow10Tab) := htab.on bA
  clear hb htab n0 bA hf
  go_enter Tryd.func13, Tryd.ntmps13
  go_wp2_with fail
  refine (CA.out _ HP.out.buf (by simp; omega) HTA.out).mono ?_
  rintro e w1 ⟨v', rfl, hp⟩
  go_wp2_with fail
  go_ret
  exact ⟨_, rfl, HP.out.trans hp⟩

set_option maxHeartbeats 2000000 in
theorem between_any (c : Cla) (u : Value) (hu : ∃ o m, u = .slice o c.nums.length m) (j : Nat) (hl : c.nums.length ≤ 1000000) (w : World) :
    Calls Tryd.prog 21 #[.agg (claV c u), .int .i64 (j : Int)] w fun e w' => e = .returned (.int .u8 ((signJ c j).toNat : Int)) ∧ Below w.heap.size w w' ∧ Lib.OthersKept 5 none w w' := by
  obtain ⟨o, m, rfl⟩ := hu
  obtain ⟨n, hn⟩ : ∃ n, n = c.nums.length := ⟨_, rfl⟩
  have HS : Hid (signJ c j = if j + 1 = n then (if c.slash then 47 else if c.dash then 45 else 46) else 46) := by show _ = _; unfold signJ lastSign; rw [hn]
  rw [← hn] at hl ⊢
  have n0 := heap_new w (.cells (claV c (.slice o n m)) 31) _ rfl
  have c2 : (w.alloc (.cells (claV c (.slice o n m)) 31)).cell? ⟨w.heap.size, 2, none⟩ = some (.slice o n m) := by rw [cell_of_row _ _ _ _ _ _ n0]; rfl
  have c3 : (w.alloc (.cells (claV c (.slice o n m)) 31)).cell? ⟨w.heap.size, 3, none⟩ = some (.bool c.slash) := by rw [cell_of_row _ _ _ _ _ _ n0]; rfl
  have c4 : (w.alloc (.cells (claV c (.slice o n m)) 31)).cell? ⟨w.heap.size, 4, none⟩ = some (.bool c.dash) := by rw [cell_of_row _ _ _ _ _ _ n0]; rfl
  have HB : Hid (Below w.heap.size w (w.alloc (.cells (claV c (.slice o n m)) 31)) ∧ Lib.OthersKept 5 none w (w.alloc (.cells (claV c (.slice o n m)) 31))) := ⟨(Below.refl _ _).alloc (Nat.le_refl _) _, fun k x hk _ _ => heap_past _ _ _ _ hk⟩
  clear n0 hn
  by_cases h1 : j + 1 = n
  · rw [if_pos h1] at HS
    have e1 : ((j : Int) == (n : Int) - 1) = true := by simp; omega
    clear h1
    by_cases h2 : c.slash = true
    · rw [if_pos h2] at HS
      rw [h2] at c3
      clear h2
      go_enter Tryd.func21, Tryd.ntmps21
      go_wp2_with fail
      go_ret
      rw [HS.out]
      exact ⟨rfl, HB.out⟩
    · rw [if_neg h2] at HS
      have h2' : c.slash = false := by simpa using h2
      rw [h2'] at c3
      clear h2 h2'
      by_cases h3 : c.dash = true
      · rw [if_pos h3] at HS
        rw [h3] at c4
        clear h3
        go_enter Tryd.func21, Tryd.ntmps21
        go_wp2_with fail
        go_ret
        rw [HS.out]
        exact ⟨rfl, HB.out⟩
      · rw [if_neg h3] at HS
        have h3' : c.dash = false := by simpa using h3
        rw [h3'] at c4
        clear h3 h3'
        go_enter Tryd.func21, Tryd.ntmps21
        go_wp2_with fail
        go_ret
        rw [HS.out]
        exact ⟨rfl, HB.out⟩
  · rw [if_neg h1] at HS
    have e1 : ((j : Int) == (n : Int) - 1) = false := by simp; omega
    clear h1
    go_enter Tryd.func21, Tryd.ntmps21
    go_wp2_with fail
    go_ret
    rw [HS.out]
    exact ⟨rfl, HB.out⟩
end Go.Proofs.YtgcfdcgmddjhbaaDoor
