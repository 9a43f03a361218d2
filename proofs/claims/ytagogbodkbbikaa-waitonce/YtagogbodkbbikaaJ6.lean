import Derived.Test.YtagogbodkbbikaaJ5
import Derived.Test.YtagogbodkbbikaaJ3
import Derived.Test.YtagogbodkbbikaaJ2
import Derived.Test.YtagogbodkbbikaaJ1
import Derived.Laws.CopyRow
namespace Go.Proofs.Ytagogbodkbbikaa
open Go Go.RowKit
set_option maxRecDepth 20000

set_option maxHeartbeats 16000000 in
theorem addW_any (B : Nat) (w : World) (g : Nat) (m : WaitM) (v : Value) (h : WaitV B w g m v) (hm : WaitIn m) (i : Int) (L : List Int) (hL : L.length = 13) (now : Int) (hlast : m.last < 1000000000000) :
    Calls Try.prog 10 #[.pointer (some ⟨g, 0, none⟩), .int .i64 i, .agg (hv L), .int .i64 now] w fun e w' => e = .returned (.tuple #[.int .i64 (addW m i L now).2.1, .int .i64 (addW m i L now).2.2]) ∧ WaitTo B w w' g (addW m i L now).1 v := by
  obtain ⟨w0, hw0⟩ : ∃ w0, w0 = w.alloc (.cells (hv L) 32) := ⟨_, rfl⟩
  have B0 : Below w.heap.size w w0 := by rw [hw0]; exact (Below.refl _ _).alloc (Nat.le_refl _) _
  have Z0 : w0.heap[w.heap.size]? = some (.cells (hv L) 32 (0, 0)) := by rw [hw0]; exact heap_new _ _ _ rfl
  have h0 := h.below B0
  have c4 := h0.f.c4
  have c0 := h0.f.c0
  have c3 := h0.f.c3
  have fz3 := h0.f.fz 3
  obtain ⟨o, cap, hv0, hc1, hc2⟩ := h.own.slice
  have hl64 := hm.len
  have hroom := hm.ok.len
  obtain ⟨q, hq⟩ : ∃ q, q = m.l.length := ⟨_, rfl⟩
  rw [← hq] at hv0 hc1 hl64 hroom
  have mixed : Try.prog.follows Departure.mixedOrders = true := by kernel_rfl
  by_cases hfull : (q : Int) = m.room
  · have e : addW m i L now = (m, 0, 13) := by unfold addW; rw [if_pos (by rw [← hq]; exact hfull)]
    rw [e]
    have HS : Hid (WaitTo B w w0.drew g m v) := h.stay B0.drew
    rw [← hfull] at c0
    rw [hw0] at c0 c4 HS
    clear e hfull hroom hq h0 h hm c3 fz3 Z0 B0 hw0
    subst hv0
    go_enter Try.func10, Try.ntmps10
    go_wp2_with fail
    go_region
    go_wp2_with fail
    go_ret2
    exact ⟨rfl, HS.out⟩
  · have e : addW m i L now = (putW m i L now, (m.last : Int) + 1, 0) := by unfold addW; rw [if_neg (by rw [← hq]; exact hfull)]
    rw [e]
    clear e
    obtain ⟨W8, hW8⟩ : ∃ W8, W8 = w0.drew.setCell ⟨g, 3, none⟩ (.int .i64 ((m.last : Int) + 1)) := ⟨_, rfl⟩
    obtain ⟨m1, hm1⟩ : ∃ m1 : WaitM, m1 = { m with last := m.last + 1 } := ⟨_, rfl⟩
    have hset := (h0.below (w' := w0.drew) (Below.refl _ _).drew).setC 3 (.int .i64 ((m.last : Int) + 1)) m1 (by rw [hm1]; unfold waV; dsimp only; rw [show (((m.last + 1 : Nat)) : Int) = (m.last : Int) + 1 by omega]; rfl) (by rw [hm1])
    rw [← hW8] at hset
    obtain ⟨hV8, hF8⟩ := hset
    have hF8 : Frm (footW g v) (footW g v) w W8 := (Frm.of_below (w' := w0.drew) B0.drew).trans hF8
    obtain ⟨c, hc⟩ : ∃ c : AskM, c = ⟨(m.last : Int) + 1, i, L, 1, clockW now + m.time⟩ := ⟨_, rfl⟩
    have hpl : (putW m i L now).l = m.l ++ [c] := by rw [hc]; rfl
    have hZ8 : W8.heap[w.heap.size]? = some (.cells (hv L) 32 (0, 0)) := by
      rw [hW8, heap_setCell_other w0.drew ⟨g, 3, none⟩ w.heap.size _ (by have := (h.foot_in g (.inl rfl)).2; show _ ≠ g; omega)]
      exact Z0
    have ml : m1.l = m.l := by rw [hm1]
    have HBK : Hid (W8.heap[g]? = some (.cells (waV m1 v) 52 (0, 0))) := hV8.blk
    have HZ8 : Hid (W8.heap[w.heap.size]? = some (.cells (hv L) 32 (0, 0))) := hZ8
    have HO : Hid (AsksAt B W8 v m.l) := by have := hV8.own; rw [ml] at this; exact this
    have HB8 : Hid (B ≤ W8.heap.size) := hV8.hw
    have HN : Hid (m.l.length ≤ 100000) := by show _ ≤ _; omega
    have HM : Hid ((waV m1 v)[2]? = some (.int .i64 m.time) ∧ (waV m1 v)[3]? = some (.int .i64 ((m.last : Int) + 1)) ∧ (waV m1 v)[4]? = some v) := by
      rw [hm1]
      refine ⟨rfl, ?_, rfl⟩
      unfold waV
      dsimp only
      rw [show (((m.last + 1 : Nat)) : Int) = (m.last : Int) + 1 by omega]
      rfl
    have HX : Hid (∀ W' u, Kept (rowX v) W8 W' → AsksAt B W' u (m.l ++ [c]) → (u.ownBlock = v.ownBlock ∨ ∀ k, u.ownBlock = some k → W8.heap.size ≤ k) → (W'.setCell ⟨g, 4, none⟩ u).cell? ⟨g, 3, none⟩ = some (.int .i64 ((m.last : Int) + 1)) ∧ WaitTo B w (W'.setCell ⟨g, 4, none⟩ u) g (putW m i L now) v) := fun W' u hk hu hq => by
      have hp := hV8.put (m' := putW m i L now) hk (by rw [hpl]; exact hu) hq (by rw [hm1]; rfl)
      have c3 := hp.1.f.c3
      rw [show ((putW m i L now).last : Int) = (m.last : Int) + 1 by unfold putW; dsimp only; omega] at c3
      exact ⟨c3, u, hp.1, hF8.trans hp.2⟩
    obtain ⟨cl, hcl⟩ : ∃ cl, cl = clockW now := ⟨_, rfl⟩
    have HC : Hid (∀ W, Calls Try.prog 22 #[.int .i64 now] W fun e w' => e = .returned (.int .i64 cl) ∧ w' = W) := fun W => by rw [hcl]; exact bounded_any now W
    have hcb := clock_in now
    have hti := hm.ti
    have hti1 := hm.ok.time1
    rw [← hcl] at hc hcb
    obtain ⟨hcb1, hcb2⟩ := hcb
    have hd0 : ((q : Int) == m.room) = false := by simpa using hfull
    have hwr : IntKind.i64.wrap ((m.last : Int) + 1) = (m.last : Int) + 1 := by rw [IntKind.wrap_i64]; omega
    obtain ⟨la, hla⟩ : ∃ la : Int, la = (m.last : Int) := ⟨_, rfl⟩
    obtain ⟨r, hr⟩ : ∃ r, r = m.room := ⟨_, rfl⟩
    obtain ⟨ti, hti0⟩ : ∃ ti, ti = m.time := ⟨_, rfl⟩
    rw [← hla] at c3 hW8 hwr HM HX hc ⊢
    rw [← hti0] at HM hc hti hti1
    rw [← hr] at c0 hd0
    have hwt : IntKind.i64.wrap (cl + ti) = cl + ti := by rw [IntKind.wrap_i64]; omega
    rw [hw0] at c4 c0 c3 fz3 hW8
    have HL : Hid (L.length = 13) := hL
    have HCE : Hid (c = ⟨la + 1, i, L, 1, cl + ti⟩) := hc
    clear hc hla hti0 hr hcl hcb1 hcb2 hti hti1 hfull hF8 hV8 hZ8 hpl hm1 ml hlast hq hroom hc1 hm h h0 Z0 B0 hw0 hL
    subst hv0
    go_enter Try.func10, Try.ntmps10
    go_wp2_with fail
    go_region
    go_wp2_with fail
    rw [show ((w.alloc (.cells (hv L) 32)).setCell ⟨g, 3, none⟩ (.int .i64 (la + 1))).drew = W8 from hW8.symm]
    clear hW8 c4 c0 c3 fz3 hd0 hwr
    refine wa6_region (by exact Nat.le_of_eq rfl) g w.heap.size B L HL.out (la + 1) i ti now cl c HCE.out (.slice o q cap) m.l (waV m1 (.slice o q cap)) rfl rfl rfl rfl HBK.out HM.out.1 HM.out.2.1 HM.out.2.2 HZ8.out HC.out hwt HO.out HB8.out HN.out ?_
    intro y w' u hk hr hf
    obtain ⟨f1, f2⟩ := HX.out w' u hk hr hf
    have F2 : Hid _ := f2
    clear hk hr hf f2
    simp only [putsD, wa6_D, List.foldl_cons, List.foldl_nil, Act.put, List.setIfInBounds_toArray, List.set_cons_succ, List.set_cons_zero]
    go_wp2_with fail
    go_ret2
    exact ⟨rfl, F2.out⟩
end Go.Proofs.Ytagogbodkbbikaa
namespace Go.Proofs.Ytagogbodkbbikaa
open Go Go.RowKit
set_option maxRecDepth 20000

def z13 : List Int := [0, 0, 0, 0, 0, 0, 0, 0, 0, 0, 0, 0, 0]
theorem hv_z13 : hv z13 = #[.int .u8 0, .int .u8 0, .int .u8 0, .int .u8 0, .int .u8 0, .int .u8 0, .int .u8 0, .int .u8 0, .int .u8 0, .int .u8 0, .int .u8 0, .int .u8 0, .int .u8 0] := rfl
def awW0 : WaitM := ⟨2, 1, 3, [], 0⟩
def awA1 : AskM := ⟨1, 7, z13, 1, 3⟩
def awA2 : AskM := ⟨1, 7, z13, 2, 6⟩
def awW1 : WaitM := ⟨2, 1, 3, [awA1], 1⟩
def awW2 : WaitM := ⟨2, 1, 3, [awA2], 1⟩
theorem awW_0 : newW 2 1 3 = some awW0 := rfl
theorem awW_1 : addW awW0 7 z13 0 = (awW1, 1, 0) := rfl
theorem awW_2 : tickW awW1 3 = awW2 ∧ againW awW1 3 = [awA2] ∧ goneW awW1 3 = [] := ⟨rfl, rfl, rfl⟩
theorem awW_3 : againW awW2 6 = [] ∧ goneW awW2 6 = [awA2] := ⟨rfl, rfl⟩
theorem awW_i1 : WaitIn awW1 := by have := add_inW (new_inW awW_0) 7 z13 0; rw [awW_1] at this; exact this
theorem awW_i2 : WaitIn awW2 := by have := tick_inW awW_i1 3; rw [awW_2.1] at this; exact this
/-- One slot. -/
theorem asks_one {B : Nat} {w : World} {v : Value} {x : AskM} (h : AsksAt B w v [x]) : ∃ g cap, v = .slice (some ⟨g, 0, none⟩) 1 cap ∧ 1 ≤ cap ∧ cap ≤ maxLen ∧ AskF w g 0 x := by
  obtain ⟨o, cap, e, h1, h2⟩ := h.slice
  subst e
  obtain ⟨g, off, cur, t, fr, c, rfl, hg, hcc, hx⟩ := h.sl.at 0 (by simp)
  obtain rfl : x = c := by simpa using hx
  obtain ⟨_, ⟨e, _⟩ | ⟨g', cap', cur', e, _⟩⟩ := h
  · cases e
  · have he := e
    simp only [Value.slice.injEq, Option.some.injEq, Addr.mk.injEq] at he
    obtain ⟨⟨rfl, rfl, _⟩, _, rfl⟩ := he
    exact ⟨g, cap, rfl, h1, h2, by have := askf_of hg hcc; simpa using this⟩
theorem asks_none {B : Nat} {w : World} {v : Value} (h : AsksAt B w v []) : ∃ o cap, v = .slice o 0 cap := by
  obtain ⟨o, cap, e, _⟩ := h.slice
  exact ⟨o, cap, e⟩
set_option maxHeartbeats 8000000 in
theorem awake19_any (w : World) : Calls Try.prog 7 #[] w fun e w' => e = .returned (.bool true) ∧ Below w.heap.size w w' := by
  have HNw := newWt_yes 2 1 3 ⟨by decide, by decide, by decide, by decide, by decide, by decide⟩ w
  have S1 : Hid (∀ W v, WaitV w.heap.size W w.heap.size awW0 v → Calls Try.prog 10 #[.pointer (some ⟨w.heap.size, 0, none⟩), .int .i64 7, .agg #[.int .u8 0, .int .u8 0, .int .u8 0, .int .u8 0, .int .u8 0, .int .u8 0, .int .u8 0, .int .u8 0, .int .u8 0, .int .u8 0, .int .u8 0, .int .u8 0, .int .u8 0], .int .i64 0] W fun e w' => e = .returned (.tuple #[.int .i64 1, .int .i64 0]) ∧ WaitTo w.heap.size W w' w.heap.size awW1 v) := fun W v h => by
    have := addW_any w.heap.size W w.heap.size awW0 v h (new_inW awW_0) 7 z13 rfl 0 (by decide)
    rw [awW_1, hv_z13] at this
    exact this
  have S2 : Hid (∀ W v, WaitV w.heap.size W w.heap.size awW1 v → Calls Try.prog 14 #[.pointer (some ⟨w.heap.size, 0, none⟩), .int .i64 3] W fun e w' => ∃ a b u, e = .returned (.tuple #[a, b]) ∧ Rows3 W.heap.size w' u a b [awA2] [awA2] [] ∧ WaitV w.heap.size w' w.heap.size awW2 u ∧ Frm (footW w.heap.size v) (footW w.heap.size u) W w') := fun W v h => by
    have := tickK_any w.heap.size W w.heap.size awW1 v h awW_i1 3
    rw [awW_2.1, awW_2.2.1, awW_2.2.2] at this
    exact this
  have S3 : Hid (∀ W v, WaitV w.heap.size W w.heap.size awW2 v → Calls Try.prog 14 #[.pointer (some ⟨w.heap.size, 0, none⟩), .int .i64 6] W fun e w' => ∃ a b, e = .returned (.tuple #[a, b]) ∧ AsksAt W.heap.size w' a [] ∧ AsksAt W.heap.size w' b [awA2] ∧ Kept (footW w.heap.size v) W w') := fun W v h => by
    refine (tickK_any w.heap.size W w.heap.size awW2 v h awW_i2 6).mono ?_
    rintro e w' ⟨a, b, u, h1, h2, h3, h4⟩
    have q2 := h2.b
    have q3 := h2.c
    rw [awW_3.1] at q2
    rw [awW_3.2] at q3
    exact ⟨a, b, h1, q2, q3, h4.kept⟩
  go_enter Try.func7, Try.ntmps7
  go_wp2_with (go_at_call 8; refine HNw.mono ?_; rintro e w1 ⟨rfl, hV1, hb1⟩; refine of_stopT ?_)
  unfold StopT
  have c1 := S1.out w1 _ hV1
  have B1 : Hid (Below w.heap.size w w1) := hb1
  have FT1 : Hid (∀ k, footW w.heap.size (.slice none 0 0) k → w.heap.size ≤ k) := fun k e => (hV1.foot_in k e).1
  clear hV1 hb1 HNw S1
  go_wp2_with (go_at_call 10; refine c1.mono ?_; rintro e w2 ⟨rfl, u2, hV2, hF2⟩; refine of_stopT ?_)
  unfold StopT
  have c2 := S2.out w2 _ hV2
  have B2 : Hid (Below w.heap.size w w2) := B1.out.trans (hF2.kept.below FT1.out B1.out.size)
  have FT2 : Hid (∀ k, footW w.heap.size u2 k → w.heap.size ≤ k) := fun k e => (hV2.foot_in k e).1
  have HLT : Hid (w.heap.size < w2.heap.size) := (hV2.foot_in _ (.inl rfl)).2
  clear hV2 hF2 c1 S2 B1 FT1
  go_wp2_with (go_at_call 14; refine c2.mono ?_; rintro e w3 ⟨a3, b3, u3, rfl, hr3, hV3, hF3⟩; refine of_stopT ?_)
  unfold StopT
  have c3 := S3.out w3 _ hV3
  have B3 : Hid (Below w.heap.size w w3) := B2.out.trans (hF3.kept.below FT2.out B2.out.size)
  have FT3 : Hid (∀ k, footW w.heap.size u3 k → w.heap.size ≤ k) := fun k e => (hV3.foot_in k e).1
  have HA3 : Hid (AsksAt w2.heap.size w3 a3 [awA2]) := hr3.b
  have HN3 : Hid (∀ k, a3.ownBlock = some k → ¬ footW w.heap.size u3 k) := fun k e e' => by
    rcases e' with e' | e'
    · have := (hr3.b.lt k e).1
      have := (hV3.foot_in _ (.inl rfl)).2
      have h9 := B2.out.size
      have : w.heap.size < w2.heap.size := HLT.out
      omega
    · exact hr3.ab.ne k e' e
  obtain ⟨g3, p3, ea3, _⟩ := asks_one hr3.b
  obtain ⟨o4, p4, eb3⟩ := asks_none hr3.c
  clear hr3 hV3 hF3 c2 S3 B2 FT2
  subst eb3
  subst ea3
  go_wp2_with (go_at_call 14; refine c3.mono ?_; rintro e w4 ⟨a4, b4, rfl, h4a, h4b, h4k⟩; refine of_stopT ?_)
  unfold StopT
  have B4 : Hid (Below w.heap.size w w4) := B3.out.trans (h4k.below FT3.out B3.out.size)
  obtain ⟨g5, p5, ea5, q1, q2, FA⟩ := asks_one (AsksAt.kept HA3.out h4k HN3.out)
  obtain ⟨o6, p6, eb6⟩ := asks_none h4a
  obtain ⟨g7, p7, eb7, q3, q4, FB⟩ := asks_one h4b
  have k1 := FA.c3
  have k2 := FA.c4
  have k3 := FB.c1
  unfold maxLen at q2 q4
  simp only [Nat.zero_add] at k1 k2 k3
  simp only [Value.slice.injEq, Option.some.injEq, Addr.mk.injEq] at ea5
  obtain ⟨⟨rfl, _, _⟩, _, rfl⟩ := ea5
  clear h4a h4b h4k FA FB c3 B3 FT3 HA3 HN3
  subst eb6
  subst eb7
  have z1 : awA2.sent = 2 := rfl
  have z2 : awA2.due = 6 := rfl
  have z3 : awA2.index = 7 := rfl
  rw [z1] at k1
  rw [z2] at k2
  rw [z3] at k3
  go_wp2_with fail
  go_ret
  exact ⟨rfl, B4.out⟩
end Go.Proofs.Ytagogbodkbbikaa
namespace Go.Proofs.Ytagogbodkbbikaa
open Go Go.RowKit
set_option maxRecDepth 20000

theorem step_append_ask {ops : Array Oper} {o : Oper} {a : Act} {w : World} {K : Act → World → Prop} {Q : Exit → Act → World → Prop} {R : Prop}
    (hgd : o.guard = none) (s x : Operand) (hop : o.op = Op.call { callee := Callee.builtin Builtin.append, args := #[s, x], argTypes := #[41, 41] })
    (g n cap : Nat) (hs : a.eval s = .slice (some ⟨g, 0, none⟩) n cap) (cur : Array Value) (hg : w.heap[g]? = some (.cells cur 38 (0, 0)))
    (ad : Addr) (m c : Nat) (news : List Value) (hx : a.eval x = .slice (some ad) m c) (hn : news.length = m * 17) (hc : ∀ j u, news[j]? = some u → w.cell? (ad.add j) = some u) (h1c : ∀ u ∈ news, u.oneCell' = true)
    (hroom : n + m ≤ cap) (hfit : n * 17 + news.length ≤ cur.size) (k : Nat) (hk : n + m = k) (W : World) (hW : W = w.setRow g (cur.toList.take (n * 17) ++ news ++ cur.toList.drop (n * 17 + news.length)).toArray)
    (hK : K (a.put o.dst (.slice (some ⟨g, 0, none⟩) k cap)) W) :
    if Region.wanted o (yielded ops a.tmps) = true then Oper.wp Try.prog o a w K Q else R := by
  subst hk
  rw [hW] at hK
  exact step_append_row (E := AskE) AskOk hgd s x hop g n cap hs cur hg ad m c news hx hn hc h1c hroom hfit hK
/-- One element at the end is cleared. -/
theorem run_clear_oneK {E : El} (H : E.Ok) (hz : (Array.all E.zero (·.oneCell')) = true) (w : World) (ty : TypeId) (g m c : Nat) (cur : Array Value) (hg : w.heap[g]? = some (.cells cur E.elem (0, 0))) (hf : m * E.size + E.size ≤ cur.size) :
    (Builtin.clear_ #[E.slice] ty #[.slice (some ⟨g, m * E.size, none⟩) 1 c]).run Try.prog w = .ok (.tuple #[]) (w.setRow g (cur.toList.take (m * E.size) ++ E.zero.toList ++ cur.toList.drop (m * E.size + E.size)).toArray) := by
  obtain ⟨i0, hi, hz0, hz1, hz2⟩ := H.info
  have hzv : ∀ w, (zeroValue E.elem).run Try.prog w = .ok (.agg E.zero) w := fun w => by simp [zeroValue, typeInfo, hi, hz0, go_sem]
  have hzc : (Builtin.zeroCells E.zero 1).toList = E.zero.toList := by
    apply List.ext_getElem?
    intro k
    by_cases hk : k < E.zero.size
    · simp [Builtin.zeroCells, hk, Nat.mod_eq_of_lt hk]
    · rw [List.getElem?_eq_none (by simp [Builtin.zeroCells]; omega), List.getElem?_eq_none (by simp; omega)]
  have hst := run_storeCells_at Try.prog g (m * E.size) E.elem E.zero.toList 0 cur w hg (by simp [H.hz]; omega) (fun u hu => (Array.all_eq_true_iff_forall_mem.1 hz) u (by simpa using hu))
  simp only [Nat.add_zero, Array.length_toList, H.hz] at hst
  simp [Builtin.clear_, run_underlying H.hs, hzv, hzc, hst, Value.cells]
theorem ask_len (C : List AskM) : (gcells askV C).length = C.length * 17 := by
  induction C with
  | nil => rfl
  | cons x C ih => rw [gcells_cons, List.length_append, ih, List.length_cons]; show 17 + _ = _; omega
theorem ask_drop : ∀ (C : List AskM) (k : Nat), (gcells askV C).drop (k * 17) = gcells askV (C.drop k)
  | [], k => by simp [gcells]
  | x :: C, 0 => by simp
  | x :: C, k + 1 => by
    rw [gcells_cons, List.drop_succ_cons, ← ask_drop C k, show (k + 1) * 17 = 17 + k * 17 by omega, ← List.drop_drop]
    rfl
theorem ask_take : ∀ (C : List AskM) (k : Nat), (gcells askV C).take (k * 17) = gcells askV (C.take k)
  | [], k => by simp [gcells]
  | x :: C, 0 => by simp [gcells]
  | x :: C, k + 1 => by
    rw [List.take_succ_cons, gcells_cons, gcells_cons, ← ask_take C k, show (k + 1) * 17 = (askV x).toList.length + k * 17 by show _ = 17 + _; omega, List.take_length_add_append]
theorem ask_one {C : List AskM} {u : Value} (h : u ∈ gcells askV C) : u.oneCell' = true := by
  unfold gcells at h
  obtain ⟨x, _, hu⟩ := List.mem_flatMap.1 h
  exact (Array.all_eq_true_iff_forall_mem.1 (ask_fits x).2) u (by simpa using hu)
set_option maxHeartbeats 8000000 in
theorem deleteK_any (B : Nat) (w : World) (v : Value) (C : List AskM) (hv : AsksAt B w v C) (i : Nat) (hi : i < C.length) (hn : C.length ≤ 1000000) :
    Calls Try.prog 24 #[v, .int .i64 (i : Int), .int .i64 ((i + 1 : Nat) : Int)] w fun e w' => ∃ u, e = .returned u ∧ AsksAt B w' u (C.eraseIdx i) ∧ u.ownBlock = v.ownBlock ∧ Kept (rowX v) w w' := by
  obtain ⟨h1, ⟨rfl, h2⟩ | ⟨g, cap, cur, rfl, hB, hcur, h3, h4, h5, h6⟩⟩ := hv
  · omega
  obtain ⟨m, hm⟩ : ∃ m, C.length = m + 1 := ⟨C.length - 1, by omega⟩
  rw [hm] at h3 h6 hi
  rw [hm]
  unfold maxLen at h4
  have hic : i ≤ cap := by omega
  have hjc : i + 1 ≤ cap := by omega
  have hi0 : (0 : Int) ≤ (i : Int) + 1 := by omega
  have him : i ≤ m := by omega
  have mixed : Try.prog.follows Departure.mixedOrders = true := by kernel_rfl
  obtain ⟨news, hnews⟩ : ∃ news, news = gcells askV (C.drop (i + 1)) := ⟨_, rfl⟩
  have hlen : news.length = (m - i) * 17 := by rw [hnews, ask_len, List.length_drop, hm]; congr 1; omega
  have hgl : (gcells askV C).length = (m + 1) * 17 := by rw [ask_len, hm]
  have hnat : ∀ t u, news[t]? = some u → cur[(i + 1) * 17 + t]? = some u := fun t u hu => by
    have ht : t < (m - i) * 17 := by rw [← hlen]; exact (List.getElem?_eq_some_iff.1 hu).1
    rw [hnews, ← ask_drop, List.getElem?_drop, ← h6, List.getElem?_take_of_lt (by omega), Array.getElem?_toList] at hu
    exact hu
  obtain ⟨A, hA, hsrc⟩ : ∃ A : Addr, (if cap = i + 1 then some (⟨g, 0, none⟩ : Addr) else some ⟨g, (i + 1) * 17, none⟩) = some A ∧ Hid (∀ t u, news[t]? = some u → w.drew.cell? (A.add t) = some u) := by
    by_cases h : cap = i + 1
    · refine ⟨⟨g, 0, none⟩, by simp [h], fun t u hu => ?_⟩
      have := (List.getElem?_eq_some_iff.1 hu).1
      omega
    · refine ⟨⟨g, (i + 1) * 17, none⟩, by simp [h], fun t u hu => ?_⟩
      rw [Addr.add_lit]
      show w.cell? _ = _
      rw [cell_of_row _ _ _ _ _ _ hcur]
      exact hnat t u hu
  have s1 : Hid (news.length = (m - i) * 17) := hlen
  have s2 : Hid (∀ u ∈ news, u.oneCell' = true) := fun u hu => ask_one (by rw [hnews] at hu; exact hu)
  have s3 : Hid (w.drew.heap[g]? = some (.cells cur 38 (0, 0))) := hcur
  obtain ⟨W1, hW1⟩ : ∃ W1, W1 = w.drew.setRow g (cur.toList.take (i * 17) ++ news ++ cur.toList.drop (i * 17 + news.length)).toArray := ⟨_, rfl⟩
  have hW : Hid (W1 = w.drew.setRow g (cur.toList.take (i * 17) ++ news ++ cur.toList.drop (i * 17 + news.length)).toArray) := hW1
  have sz : Hid (i * 17 + news.length ≤ cur.size) := by show _ ≤ _; rw [hlen, h5]; omega
  obtain ⟨r1, hr1⟩ : ∃ r1, r1 = (cur.toList.take (i * 17) ++ news ++ cur.toList.drop (i * 17 + news.length)).toArray := ⟨_, rfl⟩
  have hcl : cur.toList.length = cap * 17 := by rw [Array.length_toList, h5]
  have hfr : (cur.toList.take (i * 17) ++ news).length = m * 17 := by rw [List.length_append, List.length_take, hcl, hlen]; omega
  have hs1 : r1.size = cap * 17 := by rw [hr1, List.size_toArray, List.length_append, hfr, List.length_drop, hcl, hlen]; omega
  have ht1 : r1.toList.take (m * 17) = gcells askV (C.eraseIdx i) := by
    rw [hr1, ← hfr, List.take_left, hnews, List.eraseIdx_eq_take_drop_succ, gcells_append, ← ask_take, ← h6, List.take_take, show min (i * 17) ((m + 1) * 17) = i * 17 by omega]
  have hg1 : W1.heap[g]? = some (.cells r1 38 (0, 0)) := by rw [hW1, ← hr1]; exact setRow_heap _ _ _ _ _ _ s3.out
  obtain ⟨W2, hW2⟩ : ∃ W2, W2 = W1.setRow g (r1.toList.take (m * 17) ++ (askV zeroA).toList ++ r1.toList.drop (m * 17 + 17)).toArray := ⟨_, rfl⟩
  have hc2 : ∀ ty, (Builtin.clear_ #[41] ty #[.slice (some ⟨g, m * 17, none⟩) 1 (cap - m)]).run Try.prog W1 = .ok (.tuple #[]) W2 := fun ty => by
    rw [hW2]
    exact run_clear_oneK (E := AskE) AskOk ((ask_fits zeroA).2) W1 ty g m (cap - m) r1 hg1 (by rw [hs1]; show m * 17 + 17 ≤ _; omega)
  have HE : Hid (AsksAt B W2 (.slice (some ⟨g, 0, none⟩) m cap) (C.eraseIdx i) ∧ Kept (rowX (.slice (some ⟨g, 0, none⟩) (m + 1) cap)) w W2) := by
    have hlt : (r1.toList.take (m * 17)).length = m * 17 := by rw [List.length_take, Array.length_toList, hs1]; omega
    have hel : (C.eraseIdx i).length = m := by rw [List.length_eraseIdx_of_lt (by omega), hm]; rfl
    refine ⟨⟨by rw [ask_len], .inr ⟨g, cap, _, by rw [hel], hB, by rw [hW2]; exact setRow_heap _ _ _ _ _ _ hg1, by omega, h4, ?_, ?_⟩⟩, ?_⟩
    · have hrl : r1.toList.length = cap * 17 := by rw [Array.length_toList, hs1]
      rw [List.size_toArray, List.length_append, List.length_append, hlt, List.length_drop, hrl]
      show _ + 17 + _ = _
      omega
    · rw [hel, List.append_assoc, List.take_append_of_le_length (by rw [hlt]; exact Nat.le_refl _), List.take_of_length_le (by rw [hlt]; exact Nat.le_refl _), ht1]
    · have k1 : Kept (isB g) w W1 := by rw [hW1]; exact ⟨rfl, rfl, rfl, by simp, fun k _ hk => setRow_other _ g k _ hk⟩
      have k2 : Kept (isB g) W1 W2 := by rw [hW2]; exact ⟨rfl, rfl, rfl, by simp, fun k _ hk => setRow_other _ g k _ hk⟩
      exact (k1.trans k2 fun k e => .inl e).mono fun k _ e => by unfold isB at e; unfold rowX Value.ownBlock; rw [e]
  have hcm : ¬ cap = m := by omega
  clear hn h1 hB hlen hgl hnat hnews hW1 h5 h6 hcur hm hr1 hcl hfr hs1 ht1 hg1 hW2
  go_enter Try.func24, Try.ntmps24
  go_wp2_with fail
  go_region_law_o (refine step_append_ask rfl (.tmp 22) (.tmp 25) rfl g i cap (by simp [Act.eval, Act.put]) cur s3.out A (m - i) (cap - (i + 1)) news (by simp [Act.eval, Act.put]) s1.out hsrc.out s2.out (by omega) sz.out m (by omega) W1 hW.out ?_)
  go_wp2
  go_ret
  exact ⟨_, rfl, HE.out.1, rfl, HE.out.2⟩
end Go.Proofs.Ytagogbodkbbikaa
namespace Go.Proofs.Ytagogbodkbbikaa
open Go Go.Lib Go.RowKit
set_option maxRecDepth 20000

/-! Structs that no slice is made of, in memory. -/
/-- A struct that no slice is made of. -/
structure Ag where
  elem : TypeId
  size : Nat
structure Ag.Ok (E : Ag) : Prop where
  hu : ∃ d, Try.prog.underlying E.elem = some d ∧ (match d with | .struct _ | .array _ _ => true | _ => false) = true
  hi : (Try.prog.info? E.elem).map (fun i => i.size) = some E.size
theorem Ag.Ok.load {E : Ag} (H : E.Ok) (w : World) (g off : Nat) (cur : Array Value) (t : TypeId) (fr : Nat × Nat) (cs : Array Value) (hcs : cs.size = E.size) (hg : w.heap[g]? = some (.cells cur t fr)) (hc : ∀ j, j < E.size → cur[off + j]? = cs[j]?) :
    (loadVar E.elem ⟨g, off, none⟩).run Try.prog w = .ok (.agg cs) w := by
  have hl : (loadCells ⟨g, off, none⟩ cs.toList.length).run Try.prog w = .ok cs.toList.toArray w :=
    run_loadCells_list (P := Try.prog) w ⟨g, off, none⟩ cs.toList (fun j v hv => by
      have hadd : (⟨g, off, none⟩ : Addr).add j = ⟨g, off + j, none⟩ := by unfold Addr.add; split <;> simp_all
      have hj : j < E.size := by
        have := (List.getElem?_eq_some_iff.1 hv).1
        rw [Array.length_toList] at this
        omega
      rw [hadd, cell_of_row w g (off + j) cur t fr hg, hc j hj]
      simpa using hv)
  obtain ⟨i, hq, hs⟩ : ∃ i, Try.prog.info? E.elem = some i ∧ i.size = E.size := by
    have h1 := H.hi
    cases h : Try.prog.info? E.elem with
    | none => rw [h] at h1; simp at h1
    | some i => rw [h] at h1; exact ⟨i, rfl, by simpa using h1⟩
  have hagg : (isAgg E.elem).run Try.prog w = .ok true w := by
    obtain ⟨d, hd, hm⟩ := H.hu
    unfold isAgg
    rw [Sem.run_bind, run_underlying hd w]
    revert hm
    cases d <;> simp [go_sem]
  rw [Array.length_toList, hcs, Array.toArray_toList] at hl
  simp [loadVar, Sem.run_bind, hagg, sizeOf, typeInfo, hq, hs, hl]
theorem wl_loadA {E : Ag} (H : E.Ok) {ops : Array Oper} {rest : List Oper} {o : Oper} {a : Act} {w : World} {Q : Exit → Act → World → Prop} (hw : Region.wanted o (yielded ops a.tmps) = true) (x : Operand) (ho : o.op = .load E.elem x)
    (g off : Nat) (hx : a.eval x = .pointer (some ⟨g, off, none⟩)) (cur : Array Value) (t : TypeId) (fr : Nat × Nat) (cs : Array Value) (hcs : cs.size = E.size) (hg : w.heap[g]? = some (.cells cur t fr)) (hc : ∀ j, j < E.size → cur[off + j]? = cs[j]?)
    (h : wpList Try.prog ops Q rest (a.put o.dst (.agg cs)) w) : wpList Try.prog ops Q (o :: rest) a w := by
  refine wpList_step fun K hK => ?_
  rw [if_pos hw]
  unfold Oper.wp execOp
  simp only [ho, hx, Instr.loadAt, Instr.sureAddr, Sem.run_bind, Sem.run_pure, Result.andThen_ok, H.load w g off cur t fr cs hcs hg hc]
  exact hK _ _ h
/-- A struct that is stored within a block, from a place on. -/
theorem Ag.Ok.store {E : Ag} (H : E.Ok) (w : World) (g off : Nat) (cur : Array Value) (t : TypeId) (cs : Array Value) (hf : cs.size = E.size ∧ cs.all (·.oneCell') = true) (hg : w.heap[g]? = some (.cells cur t (0, 0))) (hs : off + E.size ≤ cur.size) :
    (storeVar E.elem ⟨g, off, none⟩ (.agg cs)).run Try.prog w = .ok () (w.setRow g (cur.toList.take off ++ cs.toList ++ cur.toList.drop (off + E.size)).toArray) := by
  have hst := run_storeCells_at Try.prog g off t cs.toList 0 cur w hg (by rw [Array.length_toList, hf.1]; omega) (fun v hv => by
    have h1 := Array.all_eq_true_iff_forall_mem.1 hf.2 v (by simpa using hv)
    exact h1)
  obtain ⟨i, hq, hz⟩ : ∃ i, Try.prog.info? E.elem = some i ∧ i.size = E.size := by
    have h1 := H.hi
    cases h : Try.prog.info? E.elem with
    | none => rw [h] at h1; simp at h1
    | some i => rw [h] at h1; exact ⟨i, rfl, by simpa using h1⟩
  rw [Nat.add_zero, Array.length_toList, hf.1] at hst
  simp [storeVar, sizeOf, typeInfo, hq, Value.cells, hz, hf.1]
  simpa using hst
/-- The end of a function whose results are a struct in memory and another one. -/
theorem retAe {E : Ag} (H : E.Ok) {fn : Func} {R : Ending → World → Prop} {a : Act} {w : World} {p u : Tmp} (hr : fn.results = #[.cell p E.elem, .tmp u]) (hd : a.defers = []) (g : Nat) (hp : a.tmps.getD p undef = .pointer (some ⟨g, 0, none⟩)) (cs : Array Value) (hcs : cs.size = E.size)
    (hg : w.heap[g]? = some (.cells cs E.elem (0, 0))) (v : Value) (hu : a.tmps.getD u undef = v) (h : R (.returned (.tuple #[.agg cs, v])) w) : bodyPost Try.prog fn R .ret a w := by
  refine bodyPost_ret (v := .tuple #[.agg cs, v]) ?_ hd h
  rw [results_cell_tmp hr, hp, hu]
  simp [asAddr, H.load w g 0 cs E.elem (0, 0) cs hcs hg (own_cells _ _)]
end Go.Proofs.Ytagogbodkbbikaa
namespace Go.Proofs.Ytagogbodkbbikaa
open Go Go.RowKit
set_option maxRecDepth 20000

def AskG : Ag := ⟨38, 17⟩
theorem AskGOk : AskG.Ok := ⟨⟨_, Try.underlying38, rfl⟩, by kernel_rfl⟩
theorem erase_seq : ∀ {l : List AskM}, (l.Pairwise fun x y => x.seq < y.seq) → ∀ {i : Nat} {x : AskM}, l[i]? = some x → l.find? (seqW x.seq) = some x ∧ (l.filter fun y => !(seqW x.seq y)) = l.eraseIdx i
  | [], _, i, x, h => by simp at h
  | a :: l, hp, i, x, h => by
    obtain ⟨h1, h2⟩ := List.pairwise_cons.1 hp
    cases i with
    | zero =>
      obtain rfl : a = x := by simpa using h
      have e : seqW a.seq a = true := by unfold seqW; simp
      refine ⟨by rw [List.find?_cons, e], ?_⟩
      rw [List.filter_cons, e]
      simp only [Bool.not_true, Bool.false_eq_true, if_false, List.eraseIdx_cons_zero]
      exact List.filter_eq_self.2 fun y hy => by unfold seqW; have := h1 y hy; simp; omega
    | succ i =>
      rw [List.getElem?_cons_succ] at h
      obtain ⟨q1, q2⟩ := erase_seq h2 h
      have := h1 x (List.mem_of_getElem? h)
      have e : seqW x.seq a = false := by unfold seqW; simp; omega
      refine ⟨by rw [List.find?_cons, e]; exact q1, ?_⟩
      rw [List.filter_cons, e, List.eraseIdx_cons_succ, q2]
      rfl
theorem answer_yes {m : WaitM} (hok : WaitOk m) {i : Nat} {x : AskM} (hx : m.l[i]? = some x) {s : Int} (hs : x.seq = s) : answerW m s = ({ m with l := m.l.eraseIdx i }, some x) := by
  subst hs
  obtain ⟨h1, h2⟩ := erase_seq hok.rise hx
  unfold answerW dropW
  rw [h1, h2]
theorem answer_none {m : WaitM} {s : Int} (h : ∀ (j : Nat) (x : AskM), m.l[j]? = some x → x.seq ≠ s) : answerW m s = (m, none) := by
  have : m.l.find? (seqW s) = none := List.find?_eq_none.2 fun x hx => by
    obtain ⟨j, hj⟩ := List.getElem?_of_mem hx
    have := h j x hj
    unfold seqW
    simpa using this
  unfold answerW
  rw [this]
set_option maxHeartbeats 16000000 in
theorem answerK_any (B : Nat) (w : World) (g : Nat) (m : WaitM) (v : Value) (h : WaitV B w g m v) (hm : WaitIn m) (s : Int) :
    Calls Try.prog 12 #[.pointer (some ⟨g, 0, none⟩), .int .i64 s] w fun e w' => e = .returned (.tuple #[.agg (askV ((answerW m s).2.getD zeroA)), .bool (answerW m s).2.isSome]) ∧ WaitTo B w w' g (answerW m s).1 v := by
  obtain ⟨w0, hw0⟩ : ∃ w0, w0 = w.alloc (.cells (askV zeroA) 38) := ⟨_, rfl⟩
  have B0 : Below w.heap.size w w0 := by rw [hw0]; exact (Below.refl _ _).alloc (Nat.le_refl _) _
  obtain ⟨p, hp⟩ : ∃ p, p = w.heap.size := ⟨_, rfl⟩
  have Z0 : w0.heap[p]? = some (.cells (askV zeroA) 38 (0, 0)) := by rw [hw0, hp]; exact heap_new _ _ _ rfl
  have hgp : g ≠ p := by have := h.foot_in g (.inl rfl); omega
  have h0 := h.below B0
  obtain ⟨o, cap, hv, hc1, hc2⟩ := h.own.slice
  have hl64 := hm.len
  obtain ⟨q, hq⟩ : ∃ q, q = m.l.length := ⟨_, rfl⟩
  rw [← hq] at hv hc1 hl64
  have HQ : Hid (q = m.l.length) := hq
  -- what holds in each later world
  have HF : Hid (∀ W, Below w0.heap.size w0 W → W.cell? ⟨g, 4, none⟩ = some v ∧ W.frozen? ⟨g, 4, none⟩ = false ∧ GSl AskE askV W v m.l ∧ W.heap[p]? = some (.cells (askV zeroA) 38 (0, 0))) := fun W hb =>
    ⟨(h0.below hb).f.c4, (h0.below hb).f.fz _, (h0.below hb).own.sl, (hb.block p (Array.getElem?_eq_some_iff.1 Z0).1).trans Z0⟩
  have HN : Hid ((∀ (j : Nat) (x : AskM), m.l[j]? = some x → x.seq ≠ s) → answerW m s = (m, none)) := fun e => answer_none e
  have HS : Hid (∀ W, Below w0.heap.size w0 W → WaitV B W g m v ∧ Below w.heap.size w W) := fun W hb => ⟨h0.below hb, B0.trans (hb.mono B0.size)⟩
  have HY : Hid (∀ (i : Nat) (x : AskM), m.l[i]? = some x → x.seq = s → answerW m s = ({ m with l := m.l.eraseIdx i }, some x)) := fun i x e1 e2 => answer_yes hm.ok e1 e2
  have HD : Hid (∀ W (i : Nat), Below w0.heap.size w0 W → i < q → Calls Try.prog 24 #[v, .int .i64 (i : Int), .int .i64 ((i : Int) + 1)] W fun e w' => ∃ u, e = .returned u ∧ AsksAt B w' u (m.l.eraseIdx i) ∧ u.ownBlock = v.ownBlock ∧ Kept (rowX v) W w') := fun W i hb hi =>
    deleteK_any B W v _ (h0.below hb).own i (by rw [← hq]; exact hi) (by rw [← hq]; omega)
  have HX : Hid (∀ W W' u (i : Nat), Below w0.heap.size w0 W → AsksAt B W' u (m.l.eraseIdx i) → u.ownBlock = v.ownBlock → Kept (rowX v) W W' → W'.cell? ⟨g, 4, none⟩ = some v ∧ W'.frozen? ⟨g, 4, none⟩ = false ∧ (∀ k ob, W.heap[k]? = some (.cells (askV ob) 38 (0, 0)) → w.heap.size ≤ k → (W'.setCell ⟨g, 4, none⟩ u).heap[k]? = some (.cells (askV ob) 38 (0, 0))) ∧ ∀ W2, (Kept (isB p) (W'.setCell ⟨g, 4, none⟩ u) W2) → WaitTo B w W2 g { m with l := m.l.eraseIdx i } v) := fun W W' u i hb hu hq1 hk => by
    have hW := h0.below hb
    have hbW : Below w.heap.size w W := B0.trans (hb.mono B0.size)
    have hgx : ¬ rowX v g := own_tyK hW.own hW.blk (by decide)
    have hf := waitf_of (hk.heap hW.blk hgx)
    have hp1 := hW.put (m' := { m with l := m.l.eraseIdx i }) hk hu (.inl hq1) rfl
    refine ⟨hf.c4, hf.fz _, fun k ob e hk1 => ?_, fun W2 h2 => ⟨u, hp1.1.kept h2 fun k e e' => ?_, ?_⟩⟩
    · have e1 : ¬ rowX v k := fun e' => by have := (h.own.lt k e').2; omega
      have e2 : k ≠ g := fun e' => by have := (h.foot_in g (.inl rfl)).2; omega
      rw [heap_setCell_other W' ⟨g, 4, none⟩ k _ e2]
      exact hk.heap e e1
    · unfold isB at e'
      subst e'
      rcases e with e | e
      · exact hgp e.symm
      · rw [hq1] at e
        have := (h.own.lt _ e).2
        omega
    · have k1 := (Frm.of_below (F := footW g v) hbW).trans hp1.2
      exact ⟨k1.kept.trans h2 fun k e => .inr (by unfold isB at e; omega), k1.foot⟩
  have HPW : Hid (p = w.heap.size) := hp
  have HFT : Hid (¬ footW g v w.heap.size) := fun e => by have := (h.foot_in _ e).2; omega
  have HIL : Hid (∀ (i : Nat) (W' : World) u, AsksAt B W' u (m.l.eraseIdx i) → ∃ o q c, u = .slice o q c) := fun i W' u hu => by
    obtain ⟨o, cap, e, _⟩ := hu.slice
    exact ⟨o, _, cap, e⟩
  unfold maxLen at hc2
  rw [hp] at hgp
  clear h h0 hm hq B0 Z0
  subst hv
  subst hp
  go_enter Try.func12, Try.ntmps12
  go_wp2_with (first | (((with_reducible refine wl_gaK rfl ?_); refine wl_allocK rfl rfl ?_; try rw [sz_allocK]); refine of_stopT ?_))
  unfold StopT
  rw [← hw0]
  have HW0 : Hid (w0 = w.alloc (.cells (askV zeroA) 38)) := hw0
  clear hw0
  have HB0 : Hid (Below w0.heap.size w0 w0) := Below.refl _ _
  obtain ⟨c4, fz4, _, _⟩ := HF.out w0 HB0.out
  go_wp2_with fail
  go_loopw [16] (fun s16 wr => ∃ k : Nat, k ≤ q ∧ s16 = .int .i64 (k : Int) ∧ (∀ (j : Nat) (x : AskM), j < k → m.l[j]? = some x → x.seq ≠ s) ∧ Below w0.heap.size w0 wr) (fun s16 _ => q - (intOf s16).toNat)
  case atStart => exact ⟨0, Nat.zero_le _, rfl, fun j x hj => by omega, HB0.out⟩
  case round =>
    obtain ⟨k, hk, rfl, hno, hb⟩ := hrel
    have HNO : Hid (∀ (j : Nat) (x : AskM), j < k → m.l[j]? = some x → x.seq ≠ s) := hno
    have HB : Hid (Below w0.heap.size w0 wr) := hb
    obtain ⟨c4, fz4, hgs, Z⟩ := HF.out wr hb
    obtain ⟨o0, cap0, hv0, hcp0, hcm0⟩ := hgs.slice
    by_cases hlt : k < q
    · have hlt' : (k : Int) < (q : Int) := by omega
      obtain ⟨g', off, cur, ty, fr, x, rfl, hg, hcc, hxk⟩ := hgs.at k hlt
      have LD : (loadVar 38 ⟨g', off + k * 17, none⟩).run Try.prog wr = .ok (.agg (askV x)) wr := ldK_row hg hcc
      obtain ⟨w1, hw1⟩ : ∃ w1, w1 = wr.alloc (.cells (askV x) 38) := ⟨_, rfl⟩
      have B1 : Hid (Below w0.heap.size w0 w1) := by show Below _ _ _; rw [hw1]; exact HB.out.alloc HB.out.size _
      have A1 : w1.heap[wr.heap.size]? = some (.cells (askV x) 38 (0, 0)) := by rw [hw1]; exact heap_new _ _ _ rfl
      have f0 := (askf_own A1).c0
      have HA1 : Hid (w1.heap[wr.heap.size]? = some (.cells (askV x) 38 (0, 0))) := A1
      have HXK : Hid (m.l[k]? = some x) := hxk
      have SR : (wr.alloc (.cells (askV zeroA) 38)).setRow wr.heap.size (askV x) = w1 := by rw [hw1]; exact setRow_new _ _ _ _ _ rfl
      clear hno hb hgs hg hcc hxk hv0 A1 hw1
      go_wp2_with (first
        | ((with_reducible refine wl_gaK rfl ?_); refine wl_allocK rfl rfl ?_; try rw [sz_allocK])
        | ((with_reducible refine wl_glK _ rfl ?_); refine wl_loadK rfl _ rfl g' (off + k * 17) rfl x LD ?_)
        | (((with_reducible refine wl_gsK _ _ rfl ?_); refine wl_storeK rfl _ _ rfl wr.heap.size x zeroA rfl rfl (heap_new _ _ _ rfl) _ SR ?_); refine of_stopT ?_))
      unfold StopT
      clear LD SR
      obtain ⟨c4, fz4, _, _⟩ := HF.out w1 B1.out
      obtain ⟨sx, hsx⟩ : ∃ sx, sx = x.seq := ⟨_, rfl⟩
      have HSX : Hid (sx = x.seq) := hsx
      rw [← hsx] at f0
      clear hsx
      by_cases e1 : sx = s
      · subst e1
        have hcall := HD.out w1 k B1.out hlt
        have hwr : IntKind.i64.wrap ((k : Int) + 1) = (k : Int) + 1 := by rw [IntKind.wrap_i64]; omega
        go_wp2_with (go_at_call 24; refine hcall.mono ?_; rintro e w2 ⟨u, rfl, q1, q2, q3⟩; refine of_stopT ?_)
        unfold StopT
        obtain ⟨o2, n2, p2, rfl⟩ := HIL.out k w2 u q1
        obtain ⟨f1, f2, f3, f4⟩ := HX.out w1 w2 _ k B1.out q1 q2 q3
        have F4 : Hid _ := f4
        have LX := ldK_own (f3 wr.heap.size x HA1.out (Nat.le_trans (by rw [HW0.out]; simp) HB.out.size))
        have ZX := f3 w.heap.size zeroA ((HF.out w1 B1.out).2.2.2) (Nat.le_refl _)
        have HA : Hid (answerW m sx = ({ m with l := m.l.eraseIdx k }, some x)) := HY.out k x HXK.out HSX.out.symm
        have HZW : Hid (Kept (isB w.heap.size) (w2.setCell ⟨g, 4, none⟩ (.slice o2 n2 p2)) ((w2.setCell ⟨g, 4, none⟩ (.slice o2 n2 p2)).setRow w.heap.size (askV x)) ∧ ((w2.setCell ⟨g, 4, none⟩ (.slice o2 n2 p2)).setRow w.heap.size (askV x)).heap[w.heap.size]? = some (.cells (askV x) 38 (0, 0))) := ⟨⟨rfl, rfl, rfl, by simp, fun k _ hk => setRow_other _ _ k _ hk⟩, setRow_heap _ _ _ _ _ _ ZX⟩
        clear q1 q2 q3 f3 f4 hcall
        go_wp2_with (first
          | ((with_reducible refine wl_glK _ rfl ?_); refine wl_loadK rfl _ rfl wr.heap.size 0 rfl x LX ?_)
          | (((with_reducible refine wl_gsK _ _ rfl ?_); refine wl_storeK rfl _ _ rfl w.heap.size x zeroA rfl rfl ZX _ rfl ?_)))
        refine retAe (E := AskG) AskGOk rfl rfl w.heap.size rfl (askV x) rfl HZW.out.2 (.bool true) rfl ?_
        rw [HA.out]
        exact ⟨rfl, F4.out _ HZW.out.1⟩
      · have d1 : (sx == s) = false := by simpa using e1
        go_wp2_with fail
        go_roundw
        case rel =>
          refine ⟨k + 1, by omega, by go_num, fun j y hj hy => ?_, B1.out⟩
          by_cases hjk : j = k
          · subst hjk
            rw [HXK.out] at hy
            obtain rfl := Option.some.inj hy
            rw [← HSX.out]
            exact e1
          · exact HNO.out j y (by omega) hy
        case measure => simp [intOf]; omega
    · have hlt' : ¬ (k : Int) < (q : Int) := by omega
      have HA : Hid (answerW m s = (m, none)) := HN.out fun j x e => hno j x (by have := (List.getElem?_eq_some_iff.1 e).1; rw [← HQ.out] at this; omega) e
      have HZW : Hid (Kept (isB w.heap.size) wr (wr.setRow w.heap.size (askV zeroA)) ∧ (wr.setRow w.heap.size (askV zeroA)).heap[w.heap.size]? = some (.cells (askV zeroA) 38 (0, 0))) := ⟨⟨rfl, rfl, rfl, by simp, fun k _ hk => setRow_other _ _ k _ hk⟩, setRow_heap _ _ _ _ _ _ Z⟩
      clear hno hb hgs hv0
      go_wp2_with (first
        | ((with_reducible refine wl_gzK rfl ?_); refine wl_buildK rfl rfl ?_)
        | (((with_reducible refine wl_gsK _ _ rfl ?_); refine wl_storeK rfl _ _ rfl w.heap.size zeroA zeroA rfl rfl Z _ rfl ?_)))
      refine retAe (E := AskG) AskGOk rfl rfl w.heap.size rfl (askV zeroA) rfl HZW.out.2 (.bool false) rfl ?_
      rw [HA.out]
      obtain ⟨t1, t2⟩ := HS.out wr HB.out
      refine ⟨rfl, _, t1.kept HZW.out.1 fun k e e' => ?_, (Kept.of_below t2).trans HZW.out.1 fun k e => .inr (by unfold isB at e; omega), fun k e => .inl e⟩
      unfold isB at e'
      subst e'
      exact HFT.out e
end Go.Proofs.Ytagogbodkbbikaa
