import Derived.Test.YtfbphblodankmaaBase
import Derived.Test.YtfbphblodankmaaWireMath
import Derived.Lib.UnsafeStr
import Derived.Laws.AppendOwn
import Derived.Laws.OwnMore
import Derived.Laws.AppendOwnNone
import Derived.Laws.BytesArg
import Derived.Maps.AppendAt
namespace Go.Proofs.Ytfbphblodankmaa
open Go Go.RowKit
set_option maxRecDepth 20000

/-- Where a walk stands still. -/
def StopW (p : Prop) : Prop := p
theorem of_stopW {p : Prop} (h : StopW p) : p := h
theorem add_form (g off j : Nat) : (⟨g, off, none⟩ : Addr).add j = ⟨g, off + j, none⟩ := by unfold Addr.add; split <;> simp_all
/-- Bytes, wherever they lie. -/
def BSl (w : World) (v : Value) (L : List UInt8) : Prop :=
  ∃ (o : Option Addr) (cap : Nat), v = .slice o L.length cap ∧ L.length ≤ cap ∧ cap ≤ maxLen ∧ (o = none → cap = 0) ∧ ∀ (i : Nat) (hi : i < L.length), ∃ g off cur t fr, o = some ⟨g, off, none⟩ ∧ w.heap[g]? = some (.cells cur t fr) ∧ cur[off + i]? = some (.int .u8 (L[i].toNat : Int))
theorem BSl.of_heap {w w' : World} {v : Value} {L : List UInt8} (h : BSl w v L) (hb : ∀ g o, w.heap[g]? = some o → v.ownBlock = some g → w'.heap[g]? = some o) : BSl w' v L := by
  obtain ⟨o, cap, rfl, h1, h2, h3, h4⟩ := h
  refine ⟨o, cap, rfl, h1, h2, h3, fun i hi => ?_⟩
  obtain ⟨g, off, cur, t, fr, rfl, h5, h6⟩ := h4 i hi
  exact ⟨g, off, cur, t, fr, rfl, hb _ _ h5 rfl, h6⟩
theorem BSl.below {w w' : World} {v : Value} {L : List UInt8} (h : BSl w v L) (hb : Below w.heap.size w w') : BSl w' v L :=
  h.of_heap fun g _ hg _ => (hb.block g (Array.getElem?_eq_some_iff.1 hg).1).trans hg
theorem BSl.alloc {w : World} {v : Value} {L : List UInt8} (h : BSl w v L) (x : Obj) : BSl (w.alloc x) v L :=
  h.of_heap fun _ _ hg _ => heap_past _ _ _ _ hg
theorem BSl.grown {w w' : World} {v : Value} {L : List UInt8} (h : BSl w v L) {row : Option Nat} (hg : w.grownBy w' row) (hne : ∀ g, v.ownBlock = some g → row ≠ some g) : BSl w' v L :=
  h.of_heap fun g _ hq hv => (hg.block g (Array.getElem?_eq_some_iff.1 hq).1 fun e => hne g hv e.symm).trans hq
theorem BSl.slice {w : World} {v : Value} {L : List UInt8} (h : BSl w v L) : ∃ o cap, v = .slice o L.length cap ∧ L.length ≤ cap ∧ cap ≤ maxLen := by
  obtain ⟨o, cap, rfl, h1, h2, _⟩ := h
  exact ⟨o, cap, rfl, h1, h2⟩
theorem BSl.len {w : World} {o : Option Addr} {n cap : Nat} {L : List UInt8} (h : BSl w (.slice o n cap) L) : n = L.length := by
  obtain ⟨o', cap', h1, _⟩ := h
  simp only [Value.slice.injEq] at h1
  exact h1.2.1
theorem BSl.at {w : World} {o : Option Addr} {n cap : Nat} {L : List UInt8} (h : BSl w (.slice o n cap) L) (k : Nat) (hk : k < n) :
    ∃ g off, ∃ c : UInt8, o = some ⟨g, off, none⟩ ∧ w.cell? ⟨g, off + k, none⟩ = some (.int .u8 (c.toNat : Int)) ∧ L[k]? = some c := by
  obtain ⟨o', cap', h1, _, _, _, h3⟩ := h
  simp only [Value.slice.injEq] at h1
  obtain ⟨rfl, rfl, rfl⟩ := h1
  obtain ⟨g, off, cur, t, fr, h4, h5, h6⟩ := h3 k hk
  exact ⟨g, off, L[k], h4, by rw [cell_of_row _ _ _ _ _ _ h5]; exact h6, List.getElem?_eq_getElem hk⟩
/-- A part of it. -/
theorem BSl.part {w : World} {o : Option Addr} {n cap : Nat} {L : List UInt8} (h : BSl w (.slice o n cap) L) (g off p q cap' : Nat) (ho : o = some ⟨g, off, none⟩) (hq : p + q ≤ n) (hc1 : q ≤ cap') (hc2 : cap' ≤ maxLen) : BSl w (.slice (some ⟨g, off + p, none⟩) q cap') ((L.drop p).take q) := by
  have hn := h.len
  obtain ⟨o', cap0, h1, h2, h3, h4, h5⟩ := h
  simp only [Value.slice.injEq] at h1
  obtain ⟨rfl, rfl, rfl⟩ := h1
  have hl : ((L.drop p).take q).length = q := by simp; omega
  refine ⟨some ⟨g, off + p, none⟩, cap', by rw [hl], by omega, hc2, (fun e => by cases e), fun i hi => ?_⟩
  rw [hl] at hi
  obtain ⟨g', off', cur, t, fr, e, h6, h7⟩ := h5 (p + i) (by omega)
  rw [ho] at e
  simp only [Option.some.injEq, Addr.mk.injEq, and_true] at e
  obtain ⟨rfl, rfl⟩ := e
  refine ⟨g, off + p, cur, t, fr, rfl, h6, ?_⟩
  rw [Nat.add_assoc, h7]
  simp [List.getElem_take, List.getElem_drop]
theorem bsl_nil (w : World) : BSl w (.slice none 0 0) [] := ⟨none, 0, rfl, Nat.le_refl _, Nat.zero_le _, fun _ => rfl, fun i hi => absurd hi (by simp)⟩
theorem bsl_none (w : World) (a : Addr) (cap : Nat) (h : cap ≤ maxLen) : BSl w (.slice (some a) 0 cap) [] := ⟨some a, cap, rfl, Nat.zero_le _, h, (fun e => by cases e), fun i hi => absurd hi (by simp)⟩

/-- Bytes of one's own. -/
def BOwn (B : Nat) (w : World) (v : Value) (L : List UInt8) : Prop := w.ownsRow B 5 1 v L.length (Lib.byteCells L)
theorem bcells_at (L : List UInt8) (i : Nat) (hi : i < L.length) : (Lib.byteCells L)[i]? = some (.int .u8 (L[i].toNat : Int)) := by simp [Lib.byteCells, hi]
theorem BOwn.sl {B : Nat} {w : World} {v : Value} {L : List UInt8} (h : BOwn B w v L) : BSl w v L := by
  obtain ⟨h1, ⟨rfl, h2⟩ | ⟨g, cap, cur, rfl, hB, hcur, h5, h6, _, h4⟩⟩ := h
  · exact ⟨none, 0, by rw [h2], by omega, Nat.zero_le _, fun _ => rfl, fun i hi => by omega⟩
  · refine ⟨_, cap, rfl, h5, h6, (fun e => by cases e), fun i hi => ⟨g, 0, cur, _, _, rfl, hcur, ?_⟩⟩
    rw [← bcells_at L i hi, ← h4, Nat.mul_one, List.getElem?_take_of_lt hi, Nat.zero_add]
    simp
theorem BOwn.nil (B : Nat) (w : World) : BOwn B w (.slice none 0 0) [] := World.ownsRow_nil _ _ _ _
theorem BOwn.base {B B' : Nat} {w : World} {v : Value} {L : List UInt8} (h : BOwn B w v L) (hB : B' ≤ B) : BOwn B' w v L := by
  obtain ⟨h1, h2 | ⟨g', cap, cur, rfl, hB, h3⟩⟩ := h
  · exact ⟨h1, .inl h2⟩
  · exact ⟨h1, .inr ⟨g', cap, cur, rfl, by omega, h3⟩⟩
theorem BOwn.below {B : Nat} {w w' : World} {v : Value} {L : List UInt8} (h : BOwn B w v L) (hb : Below w.heap.size w w') : BOwn B w' v L := by
  obtain ⟨h1, h2 | ⟨g, cap, cur, rfl, hB, hcur, h3⟩⟩ := h
  · exact ⟨h1, .inl h2⟩
  · exact ⟨h1, .inr ⟨g, cap, cur, rfl, hB, (hb.block g (Array.getElem?_eq_some_iff.1 hcur).1).trans hcur, h3⟩⟩
theorem BOwn.ge {B : Nat} {w : World} {v : Value} {L : List UInt8} (h : BOwn B w v L) : ∀ g, v.ownBlock = some g → B ≤ g ∧ g < w.heap.size := fun g hg => World.ownsRow.lt h g hg

theorem infoB : ∃ i, Try.prog.info? 5 = some i ∧ i.zero = some (.int .u8 0) ∧ i.size = 1 ∧ i.bytes = 1 := by
  have h : (Try.prog.info? 5).map (fun i => (i.zero, i.size, i.bytes)) = some (some (.int .u8 0), 1, 1) := by kernel_rfl
  cases hi : Try.prog.info? 5 with
  | none => rw [hi] at h; simp at h
  | some i =>
    rw [hi] at h
    simp only [Option.map_some, Option.some.injEq, Prod.mk.injEq] at h
    exact ⟨i, rfl, h.1, h.2.1, h.2.2⟩
/-- Bytes are appended to bytes of one's own. -/
theorem wl_appW {ops : Array Oper} {rest : List Oper} {o : Oper} {a : Act} {w : World} {Q : Exit → Act → World → Prop} (hgd : o.guard = none) (s x : Operand) (ho : o.op = .call { callee := .builtin .append, args := #[s, x], argTypes := #[22, 22] })
    (B : Nat) (v u : Value) (L M : List UInt8) (hs : a.eval s = v) (hb : BOwn B w v L) (hx : a.eval x = u) (hM : BSl w u M) (hn : L.length + M.length ≤ 140737488355328) (hB : B ≤ w.heap.size)
    (h : ∀ v' w', BOwn B w' v' (L ++ M) → w.grownBy w' v.ownBlock → (v'.ownBlock = v.ownBlock ∨ v'.ownBlock = some w.heap.size) → wpList Try.prog ops Q rest (a.put o.dst v') w') : wpList Try.prog ops Q (o :: rest) a w := by
  obtain ⟨i, hi, hz, h1, h2⟩ := infoB
  obtain ⟨oa, cap, rfl, hc1, hc2, hc3, hc4⟩ := hM
  cases oa with
  | none =>
    have h0 : M = [] := by
      cases M with
      | nil => rfl
      | cons c M => obtain ⟨g, off, cur, t, fr, e, _⟩ := hc4 0 (by simp); cases e
    subst h0
    obtain rfl := hc3 rfl
    refine wpList_append_own_none hgd s x 22 ho B 5 i 1 Try.underlying22 hi v _ _ hs hb hx ?_
    refine h v w (by rw [List.append_nil]; exact hb) ⟨rfl, rfl, rfl, Nat.le_refl _, fun _ _ _ => rfl⟩ (.inl rfl)
  | some ad =>
    refine wpList_append_own_at _ hgd s x 22 ho B 5 i (.int .u8 0) 1 1 Try.underlying22 hi hz h1 h2 rfl (by decide) v _ _ hs hb ad M.length cap (Lib.byteCells M) hx (by rw [Lib.byteCells_length]; omega) ?_ ?_ (by unfold maxLen; omega) (by omega) hB ?_
    · intro j c hj
      have hjl : j < M.length := by
        have := (List.getElem?_eq_some_iff.1 hj).1
        rwa [Lib.byteCells_length] at this
      obtain ⟨g, off, cur, t, fr, e, h5, h6⟩ := hc4 j hjl
      obtain rfl := Option.some.inj e
      rw [add_form, cell_of_row _ _ _ _ _ _ h5, h6, ← hj, bcells_at M j hjl]
    · intro c hc
      unfold Lib.byteCells at hc
      obtain ⟨b, _, rfl⟩ := List.mem_map.1 hc
      rfl
    · intro v' w' hown hgr _ hat
      refine h v' w' ?_ hgr hat
      unfold BOwn
      rw [List.length_append, Lib.byteCells_append]
      exact hown

/-- Bytes as a string. -/
theorem run_strB (w : World) (v : Value) (L : List UInt8) (h : BSl w v L) : (convert 22 9 v).run Try.prog w = .ok (.string ⟨L.toArray⟩) w := by
  obtain ⟨o, cap, rfl, h1, h2, h3, h4⟩ := h
  cases L with
  | nil =>
    cases o with
    | none => exact run_convert_bytes_nil w 22 5 Try.underlying22 Try.underlying5 _ _ 9 Try.underlying9
    | some a =>
      rw [run_convert_bytes_string w 22 9 5 _ _ _ Try.underlying22 Try.underlying5 Try.underlying9]
      exact run_bytesToString w a 0 cap [] rfl
  | cons c L =>
    obtain ⟨g, off, _, _, _, rfl, _⟩ := h4 0 (by simp)
    have hx : ∀ i, i < (c :: L).length → w.cell? ⟨g, off + i, none⟩ = some (.int .u8 (((c :: L).map fun b => (b.toNat : Int)).getD i 0)) := fun i hi => by
      obtain ⟨g', off', cur, t, fr, e, h5, h6⟩ := h4 i hi
      simp only [Option.some.injEq, Addr.mk.injEq, and_true] at e
      obtain ⟨rfl, rfl⟩ := e
      rw [cell_of_row _ _ _ _ _ _ h5, h6, List.getD_eq_getElem?_getD, List.getElem?_map, List.getElem?_eq_getElem hi]
      rfl
    rw [run_convert_bytes_arg w 22 5 Try.underlying22 Try.underlying5 g off _ cap ((c :: L).map fun b => (b.toNat : Int)) (by simp) hx 9 Try.underlying9]
    congr 2
    unfold strOfNums
    congr 1
    rw [List.map_map]
    congr 1
    conv => rhs; rw [← List.map_id (c :: L)]
    refine List.map_congr_left fun b _ => ?_
    simp

set_option maxHeartbeats 2000000 in
theorem rsameB_any (v u : Value) (L M : List UInt8) (w : World) (hL : BSl w v L) (hM : BSl w u M) :
    Calls Try.prog 12 #[v, u] w fun e w' => e = .returned (.bool (L == M)) ∧ w' = w := by
  have h1 := run_strB w v L hL
  have h2 := run_strB w u M hM
  clear hL hM
  go_enter Try.func12, Try.ntmps12
  go_wp2_with fail
  go_ret
  exact ⟨rfl, rfl⟩
end Go.Proofs.Ytfbphblodankmaa
