import Derived.Test.YtbigifmfbibgoaaJ3
import Derived.Test.YtbigifmfbibgoaaJ1
import Derived.StillTail
import Derived.Laws.CopyRow
import Derived.BigRegion
import Derived.Deep.RegionLaw
import Derived.Shelf.RegionOpenPlain
namespace Go.Proofs.Ytbigifmfbibgoaa
open Go Go.RowKit
set_option maxRecDepth 20000

set_option maxHeartbeats 16000000 in
theorem rlead_any (B : Nat) (w : World) (r : Nat) (h : HoldM) (v : Value) (L : List HiM) (hV : RHoV B w r h v L) (hn : L.length ≤ 900000) (sent use fl : Int) :
    Calls Try.prog 12 #[.pointer (some ⟨r, 0, none⟩), .int .i64 sent, .int .i64 use, .int .i64 fl] w fun x w' => x = .returned (.bool (leadH h sent use fl).2) ∧ RHoTo B w w' r (leadH h sent use fl).1 v (L.length + 1) := by
  have ST : Hid (RHoTo B w w r h v (L.length + 1)) := hV.stay (Below.refl _ _) (Nat.le_succ _)
  unfold leadH
  by_cases h0 : sent < 0 ∨ use < 0 ∨ fl < 0
  · rw [if_pos h0]
    clear hV
    by_cases h1 : sent < 0
    · clear h0
      go_enter Try.func12, Try.ntmps12
      go_wp2_with fail
      go_ret
      exact ⟨rfl, ST.out⟩
    by_cases h2 : use < 0
    · clear h0
      go_enter Try.func12, Try.ntmps12
      go_wp2_with fail
      go_ret
      exact ⟨rfl, ST.out⟩
    have h4 : fl < 0 := by omega
    clear h0
    go_enter Try.func12, Try.ntmps12
    go_wp2_with fail
    go_ret
    exact ⟨rfl, ST.out⟩
  · rw [if_neg h0]
    have C1 := rlift_any B w r h v L hV hn fl
    obtain ⟨h1, hh1⟩ : ∃ h1, h1 = liftH h fl := ⟨_, rfl⟩
    rw [← hh1] at C1 ⊢
    dsimp only
    obtain ⟨N, hN⟩ : ∃ N, N = L.length := ⟨_, rfl⟩
    rw [← hN] at C1 hn ⊢
    obtain ⟨b, hb⟩ : ∃ b, b = fullH h1 use := ⟨_, rfl⟩
    have HFu : Hid (∀ W u L' d, RHoV B W r { h1 with said := d } u L' → L'.length ≤ 900000 → Calls Try.prog 27 #[.pointer (some ⟨r, 0, none⟩), .int .i64 use] W fun x w' => x = .returned (.bool b) ∧ w' = W) := by
      intro W u L' d hW hl
      rw [hb]
      exact rfullH_any B W r _ u L' hW (by omega) use
    have HBB : Hid (b = fullH h1 use) := hb
    obtain ⟨q, hq⟩ : ∃ q, q = sayH h1 sent use := ⟨_, rfl⟩
    rw [← hq]
    obtain ⟨y, hy⟩ : ∃ y, y = (decide (0 < use) && decide (q.use = use)) := ⟨_, rfl⟩
    rw [← hy]
    have HR : Hid (q = sayH h1 sent use ∧ y = (decide (0 < use) && decide (q.use = use))) := ⟨hq, hy⟩
    have d1 : ¬ sent < 0 := by omega
    have d2 : ¬ use < 0 := by omega
    have d3 : ¬ fl < 0 := by omega
    clear h0 hh1 hN hb hq hy hV ST
    go_enter Try.func12, Try.ntmps12
    go_wp2_with (go_at_call 25; refine C1.mono ?_; rintro e w1 ⟨rfl, t1⟩; refine of_stopT ?_)
    unfold StopT
    obtain ⟨v1, L1, q1, q2, q3⟩ := t1
    have Q1 : Hid (RHoV B w1 r h1 v1 L1) := q1
    have Q2 : Hid (Frm (footRH r v) (footRH r v1) w w1) := q2
    have Q3 : Hid (L1.length ≤ N) := q3
    have hl9 : L1.length ≤ 900000 := by omega
    have HL9 : Hid (L1.length ≤ 900000) := hl9
    have k3 := q1.f.c3
    have k4 := q1.f.c4
    have fz := q1.f.fz
    have F1 := HFu.out w1 v1 L1 h1.said q1 hl9
    obtain ⟨u, hu⟩ : ∃ u, u = h1.use := ⟨_, rfl⟩
    obtain ⟨d, hd⟩ : ∃ d, d = h1.said := ⟨_, rfl⟩
    have HU : Hid (u = h1.use ∧ d = h1.said) := ⟨hu, hd⟩
    rw [← hu] at k3
    rw [← hd] at k4
    clear q1 q2 q3 hu hd hl9 C1
    have HP : Hid ((decide (0 < use)) = decide (use > 0)) := rfl
    cases b
    · have RS : Hid (q = h1 ∧ y = (decide (0 < use) && decide (u = use))) := by
        obtain ⟨a1, a2⟩ := HR.out
        have e1 : q = h1 := by rw [a1]; unfold sayH; rw [← HBB.out]; rfl
        exact ⟨e1, by rw [a2, e1, HU.out.1]⟩
      have T3 : Hid (RHoTo B w w1 r q v (N + 1)) := by
        show RHoTo _ _ _ _ _ _ _
        rw [RS.out.1]
        exact ⟨_, _, Q1.out, Q2.out, Nat.le_succ_of_le Q3.out⟩
      by_cases p : use > 0
      · have RY : Hid (y = decide (u = use)) := by show _ = _; rw [RS.out.2, decide_eq_true (show 0 < use from p), Bool.true_and]
        go_wp2_with (go_at_call 27; refine F1.mono ?_; rintro e w3 ⟨rfl, h3⟩; have h3 := h3.symm; subst h3)
        go_ret
        exact ⟨ret_bool (by rw [RY.out]; by_cases hx : u = use <;> simp [hx]), T3.out⟩
      · have RY : Hid (y = false) := by show _ = _; rw [RS.out.2, decide_eq_false (show ¬ 0 < use from p), Bool.false_and]
        go_wp2_with (go_at_call 27; refine F1.mono ?_; rintro e w3 ⟨rfl, h3⟩; have h3 := h3.symm; subst h3)
        go_ret
        exact ⟨by rw [RY.out]; rfl, T3.out⟩
    · by_cases p2 : use = u
      · have p2' : (use == u) = true := by simpa using p2
        have p2n : ¬ use > u := by omega
        have RS : Hid (q = { h1 with said := max d sent } ∧ y = decide (0 < use)) := by
          obtain ⟨a1, a2⟩ := HR.out
          have e1 : q = { h1 with said := max d sent } := by
            rw [a1]
            unfold sayH
            rw [← HBB.out, if_pos rfl, if_pos (by rw [p2]; exact HU.out.1), HU.out.2]
          refine ⟨e1, ?_⟩
          rw [a2, e1]
          dsimp only
          rw [← HU.out.1, ← p2]
          simp
        subst p2
        by_cases p3 : sent > d
        · have W2 := Q1.out.setC 4 (.int .i64 sent) { h1 with said := sent } rfl rfl
          have T3 : Hid (RHoTo B w (w1.setCell ⟨r, 4, none⟩ (.int .i64 sent)) r q v (N + 1)) := by
            show RHoTo _ _ _ _ _ _ _
            rw [RS.out.1, show max d sent = sent by omega]
            exact ⟨_, _, W2.1, Q2.out.trans W2.2, Nat.le_succ_of_le Q3.out⟩
          have F2 := HFu.out _ v1 L1 sent W2.1 HL9.out
          have j3 := W2.1.f.c3
          rw [show ({ h1 with said := sent } : HoldM).use = use from HU.out.1.symm] at j3
          clear W2
          have HP : Hid (y = decide (use > 0)) := RS.out.2
          by_cases p : use > 0
          · have RY : Hid (y = true) := by show _ = _; rw [HP.out, decide_eq_true p]
            go_wp2_with (go_at_call 27; refine F1.mono ?_; rintro e w3 ⟨rfl, h3⟩; have h3 := h3.symm; subst h3; refine of_stopT ?_)
            unfold StopT
            go_wp2_with (go_at_call 27; refine F2.mono ?_; rintro e w4 ⟨rfl, h4⟩; refine of_stopT ?_)
            unfold StopT
            subst h4
            clear F1 F2
            go_wp2_with fail
            go_ret
            exact ⟨by rw [RY.out]; rfl, T3.out⟩
          · have RY : Hid (y = false) := by show _ = _; rw [HP.out, decide_eq_false p]
            go_wp2_with (go_at_call 27; refine F1.mono ?_; rintro e w3 ⟨rfl, h3⟩; have h3 := h3.symm; subst h3; refine of_stopT ?_)
            unfold StopT
            go_wp2_with (go_at_call 27; refine F2.mono ?_; rintro e w4 ⟨rfl, h4⟩; refine of_stopT ?_)
            unfold StopT
            subst h4
            clear F1 F2
            go_wp2_with fail
            go_ret
            exact ⟨by rw [RY.out]; rfl, T3.out⟩
        · have T3 : Hid (RHoTo B w w1 r q v (N + 1)) := by
            show RHoTo _ _ _ _ _ _ _
            rw [RS.out.1, show max d sent = d by omega, HU.out.2]
            exact ⟨_, _, Q1.out, Q2.out, Nat.le_succ_of_le Q3.out⟩
          have HP : Hid (y = decide (use > 0)) := RS.out.2
          by_cases p : use > 0
          · have RY : Hid (y = true) := by show _ = _; rw [HP.out, decide_eq_true p]
            go_wp2_with (go_at_call 27; refine F1.mono ?_; rintro e w3 ⟨rfl, h3⟩; have h3 := h3.symm; subst h3)
            go_ret
            exact ⟨by rw [RY.out]; rfl, T3.out⟩
          · have RY : Hid (y = false) := by show _ = _; rw [HP.out, decide_eq_false p]
            go_wp2_with (go_at_call 27; refine F1.mono ?_; rintro e w3 ⟨rfl, h3⟩; have h3 := h3.symm; subst h3)
            go_ret
            exact ⟨by rw [RY.out]; rfl, T3.out⟩
      · have p2' : (use == u) = false := by simpa using p2
        by_cases p3 : use > u
        · have RS : Hid (q = { h1 with use := use, said := sent } ∧ y = decide (use > 0)) := by
            obtain ⟨a1, a2⟩ := HR.out
            have e1 : q = { h1 with use := use, said := sent } := by
              rw [a1]
              unfold sayH
              have := HU.out.1
              rw [← HBB.out, if_pos rfl, if_neg (by omega), if_pos (by omega)]
            refine ⟨e1, ?_⟩
            rw [a2, e1]
            simp
          have W2 := Q1.out.setC 3 (.int .i64 use) { h1 with use := use } rfl rfl
          have W3 := W2.1.setC 4 (.int .i64 sent) { h1 with use := use, said := sent } rfl rfl
          have T3 : Hid (RHoTo B w ((w1.setCell ⟨r, 3, none⟩ (.int .i64 use)).setCell ⟨r, 4, none⟩ (.int .i64 sent)) r q v (N + 1)) := by
            show RHoTo _ _ _ _ _ _ _
            rw [RS.out.1]
            exact ⟨_, _, W3.1, (Q2.out.trans W2.2).trans W3.2, Nat.le_succ_of_le Q3.out⟩
          clear W2 W3 p2
          by_cases p : use > 0
          · have RY : Hid (y = true) := by show _ = _; rw [RS.out.2, decide_eq_true p]
            go_wp2_with (go_at_call 27; refine F1.mono ?_; rintro e w3 ⟨rfl, h3⟩; have h3 := h3.symm; subst h3)
            go_ret
            exact ⟨by rw [RY.out]; rfl, T3.out⟩
          · have RY : Hid (y = false) := by show _ = _; rw [RS.out.2, decide_eq_false p]
            go_wp2_with (go_at_call 27; refine F1.mono ?_; rintro e w3 ⟨rfl, h3⟩; have h3 := h3.symm; subst h3)
            go_ret
            exact ⟨by rw [RY.out]; rfl, T3.out⟩
        · have RS : Hid (q = h1 ∧ y = false) := by
            obtain ⟨a1, a2⟩ := HR.out
            have := HU.out.1
            have e1 : q = h1 := by
              rw [a1]
              unfold sayH
              rw [← HBB.out, if_pos rfl, if_neg (by omega), if_neg (by omega)]
            refine ⟨e1, ?_⟩
            rw [a2, e1, decide_eq_false (show ¬ h1.use = use by omega), Bool.and_false]
          have T3 : Hid (RHoTo B w w1 r q v (N + 1)) := by
            show RHoTo _ _ _ _ _ _ _
            rw [RS.out.1]
            exact ⟨_, _, Q1.out, Q2.out, Nat.le_succ_of_le Q3.out⟩
          have p4 : (u == use) = false := by simpa using (fun x => p2 x.symm : ¬ u = use)
          clear p2
          by_cases p : use > 0
          · go_wp2_with (go_at_call 27; refine F1.mono ?_; rintro e w3 ⟨rfl, h3⟩; have h3 := h3.symm; subst h3)
            go_ret
            exact ⟨by rw [RS.out.2]; rfl, T3.out⟩
          · go_wp2_with (go_at_call 27; refine F1.mono ?_; rintro e w3 ⟨rfl, h3⟩; have h3 := h3.symm; subst h3)
            go_ret
            exact ⟨by rw [RS.out.2]; rfl, T3.out⟩
end Go.Proofs.Ytbigifmfbibgoaa
namespace Go.Proofs.Ytbigifmfbibgoaa
open Go Go.RowKit
set_option maxRecDepth 20000

/-! A hold as the code keeps it: the floor's items, the top's items. -/
structure HoS where
  inc : Int
  floor : Int
  top : Int
  lm : Int
  lo : Int
  hm : Int
  ho : Int
  use : Int
  said : Int
def heldS (s : HoS) (e : Int) : Int × Int := if e = s.floor then (s.lm, s.lo) else if e = s.top then (s.hm, s.ho) else (0, 0)
def moveS (s : HoS) (f t : Int) : HoS := ⟨s.inc, f, t, (heldS s f).1, (heldS s f).2, (heldS s t).1, (heldS s t).2, if s.use = f ∨ s.use = t then s.use else 0, if s.use = f ∨ s.use = t then s.said else 0⟩
def floorS (s : HoS) (f : Int) : HoS := if s.floor < f then moveS s f (max f s.top) else s
def epochS (s : HoS) (e : Int) : HoS := if s.top < e then moveS s s.floor e else s
def putHo (s : HoS) (e m o : Int) : HoS := if e = s.floor then { s with lm := m, lo := o } else { s with hm := m, ho := o }
/-- What the code keeps is that hold. -/
structure HoR (s : HoS) (h : HoldM) : Prop where
  inc : s.inc = h.life
  floor : s.floor = h.floor
  top : s.top = h.top
  use : s.use = h.use
  said : s.said = h.said
  held : ∀ e, heldS s e = (((h.cnt e).1 : Int), (h.cnt e).2)
theorem new_hoR (inc : Int) : HoR ⟨inc, 0, 0, 0, 0, 0, 0, 0, 0⟩ (newH inc) := ⟨rfl, rfl, rfl, rfl, rfl, fun e => by
  unfold heldS newH
  dsimp only
  split
  · rfl
  · rfl⟩
theorem heldS_move (s : HoS) (f t e : Int) : heldS (moveS s f t) e = if e = f ∨ e = t then heldS s e else (0, 0) := by
  show (if e = f then ((heldS s f).1, (heldS s f).2) else if e = t then ((heldS s t).1, (heldS s t).2) else (0, 0)) = _
  by_cases h1 : e = f
  · subst h1
    rw [if_pos rfl, if_pos (Or.inl rfl)]
  · rw [if_neg h1]
    by_cases h2 : e = t
    · subst h2
      rw [if_pos rfl, if_pos (Or.inr rfl)]
    · rw [if_neg h2, if_neg (fun x => x.elim h1 h2)]
theorem move_hoR {s : HoS} {h : HoldM} (hr : HoR s h) (f t : Int) : HoR (moveS s f t) (forgetH { h with floor := f, top := t }) := by
  refine ⟨hr.inc, rfl, rfl, ?_, ?_, fun e => ?_⟩
  · unfold moveS forgetH
    dsimp only
    rw [hr.use]
  · unfold moveS forgetH
    dsimp only
    rw [hr.use, hr.said]
  · rw [heldS_move, hr.held]
    unfold forgetH
    dsimp only
    by_cases hc : e = f ∨ e = t
    · rw [if_pos hc, if_pos hc]
    · rw [if_neg hc, if_neg hc]
      rfl
theorem floor_hoR {s : HoS} {h : HoldM} (hr : HoR s h) (f : Int) : HoR (floorS s f) (liftH h f) := by
  unfold floorS liftH
  rw [hr.floor]
  by_cases hc : h.floor < f
  · rw [if_pos hc, if_pos hc, hr.top, Int.max_comm]
    exact move_hoR hr _ _
  · rw [if_neg hc, if_neg hc]; exact hr
theorem epoch_hoR {s : HoS} {h : HoldM} (hr : HoR s h) (e : Int) : HoR (epochS s e) (riseH h e) := by
  unfold epochS riseH
  rw [hr.top]
  by_cases hc : h.top < e
  · rw [if_pos hc, if_pos hc, hr.floor]
    exact move_hoR hr _ _
  · rw [if_neg hc, if_neg hc]; exact hr
theorem put_hoR {s : HoS} {h : HoldM} (hr : HoR s h) {e o : Int} (he : e = h.floor ∨ e = h.top) : HoR (putHo s e (((h.cnt e).1 : Int) + 1) o) (addH h e o) := by
  have key : ∀ x, heldS (putHo s e (((h.cnt e).1 : Int) + 1) o) x = if x = e then (((h.cnt e).1 : Int) + 1, o) else heldS s x := fun x => by
    unfold putHo heldS
    rw [← hr.floor, ← hr.top] at he
    by_cases h1 : e = s.floor
    · rw [if_pos h1]
      dsimp only
      by_cases h2 : x = s.floor
      · rw [if_pos h2, if_pos (h2.trans h1.symm)]
      · have h5 : ¬ x = e := fun q => h2 (q.trans h1)
        rw [if_neg h2, if_neg h5, if_neg h2]
    · rw [if_neg h1]
      dsimp only
      have h3 : e = s.top := he.resolve_left h1
      by_cases h2 : x = e
      · have h5 : ¬ x = s.floor := fun q => h1 (h2.symm.trans q)
        rw [if_neg h5, if_pos (h2.trans h3), if_pos h2]
      · have h4 : ¬ x = s.top := fun q => h2 (q.trans h3.symm)
        rw [if_neg h4, if_neg h2, if_neg h4]
  have same : (putHo s e (((h.cnt e).1 : Int) + 1) o).inc = s.inc ∧ (putHo s e (((h.cnt e).1 : Int) + 1) o).floor = s.floor ∧ (putHo s e (((h.cnt e).1 : Int) + 1) o).top = s.top ∧ (putHo s e (((h.cnt e).1 : Int) + 1) o).use = s.use ∧ (putHo s e (((h.cnt e).1 : Int) + 1) o).said = s.said := by
    unfold putHo
    split <;> exact ⟨rfl, rfl, rfl, rfl, rfl⟩
  refine ⟨same.1.trans hr.inc, same.2.1.trans hr.floor, same.2.2.1.trans hr.top, same.2.2.2.1.trans hr.use, same.2.2.2.2.trans hr.said, fun x => ?_⟩
  rw [key x]
  unfold addH
  dsimp only
  by_cases hx : x = e
  · rw [if_pos hx, if_pos hx]
    rfl
  · rw [if_neg hx, if_neg hx]
    exact hr.held x
end Go.Proofs.Ytbigifmfbibgoaa
namespace Go.Proofs.Ytbigifmfbibgoaa
open Go Go.RowKit
set_option maxRecDepth 20000

section
variable {P : Program} {ops : Array Oper} {md : Region.Mode} {C : World → Prop}
end

end Go.Proofs.Ytbigifmfbibgoaa
namespace Go.Proofs.Ytbigifmfbibgoaa
open Go Go.Lib Go.RowKit
set_option maxRecDepth 20000

/-! Structs that no slice is made of, in memory. -/
/-- A struct that no slice is made of. -/
structure Ag where
  elem : TypeId
  size : Nat
structure Ag.Ok (E : Ag) : Prop where
  hu : ∃ d, Try.prog.underlying E.elem = some d ∧ (match d with | .struct _ | .array _ _ => true | _ => false) = true
  hi : (Try.prog.info? E.elem).map (fun i => i.size) = some E.size
theorem Ag.Ok.load {E : Ag} (H : E.Ok) (w : World) (g off : Nat) (cur : Array Value) (t : TypeId) (fr : Nat × Nat) (cs : Array Value) (hcs : cs.size = E.size) (hg : w.heap[g]? = some (.cells cur t fr)) (hc : ∀ j, j < E.size → cur[off + j]? = cs[j]?) :
    (loadVar E.elem ⟨g, off, none⟩).run Try.prog w = .ok (.agg cs) w := by
  have hl : (loadCells ⟨g, off, none⟩ cs.toList.length).run Try.prog w = .ok cs.toList.toArray w :=
    run_loadCells_list (P := Try.prog) w ⟨g, off, none⟩ cs.toList (fun j v hv => by
      have hadd : (⟨g, off, none⟩ : Addr).add j = ⟨g, off + j, none⟩ := by unfold Addr.add; split <;> simp_all
      have hj : j < E.size := by
        have := (List.getElem?_eq_some_iff.1 hv).1
        rw [Array.length_toList] at this
        omega
      rw [hadd, cell_of_row w g (off + j) cur t fr hg, hc j hj]
      simpa using hv)
  obtain ⟨i, hq, hs⟩ : ∃ i, Try.prog.info? E.elem = some i ∧ i.size = E.size := by
    have h1 := H.hi
    cases h : Try.prog.info? E.elem with
    | none => rw [h] at h1; simp at h1
    | some i => rw [h] at h1; exact ⟨i, rfl, by simpa using h1⟩
  have hagg : (isAgg E.elem).run Try.prog w = .ok true w := by
    obtain ⟨d, hd, hm⟩ := H.hu
    unfold isAgg
    rw [Sem.run_bind, run_underlying hd w]
    revert hm
    cases d <;> simp [go_sem]
  rw [Array.length_toList, hcs, Array.toArray_toList] at hl
  simp [loadVar, Sem.run_bind, hagg, sizeOf, typeInfo, hq, hs, hl]
theorem retA14 {E : Ag} (H : E.Ok) {fn : Func} {R : Ending → World → Prop} {a : Act} {w : World} {p : Tmp} (hr : fn.results = #[.cell p E.elem]) (hd : a.defers = []) (g : Nat) (hp : a.tmps.getD p undef = .pointer (some ⟨g, 0, none⟩)) (cs : Array Value) (hcs : cs.size = E.size)
    (hg : w.heap[g]? = some (.cells cs E.elem (0, 0))) (h : R (.returned (.agg cs)) w) : bodyPost Try.prog fn R .ret a w := by
  refine bodyPost_ret (v := .agg cs) ?_ hd h
  rw [Array.getD_eq_getD_getElem?] at hp
  have hl := H.load w g 0 cs E.elem (0, 0) cs hcs hg (own_cells _ _)
  simp [results, hr, hp, asAddr, hl]
/-- A struct that is stored within a block, from a place on. -/
theorem Ag.Ok.store {E : Ag} (H : E.Ok) (w : World) (g off : Nat) (cur : Array Value) (t : TypeId) (cs : Array Value) (hf : cs.size = E.size ∧ cs.all (·.oneCell') = true) (hg : w.heap[g]? = some (.cells cur t (0, 0))) (hs : off + E.size ≤ cur.size) :
    (storeVar E.elem ⟨g, off, none⟩ (.agg cs)).run Try.prog w = .ok () (w.setRow g (cur.toList.take off ++ cs.toList ++ cur.toList.drop (off + E.size)).toArray) := by
  have hst := run_storeCells_at Try.prog g off t cs.toList 0 cur w hg (by rw [Array.length_toList, hf.1]; omega) (fun v hv => by
    have h1 := Array.all_eq_true_iff_forall_mem.1 hf.2 v (by simpa using hv)
    exact h1)
  obtain ⟨i, hq, hz⟩ : ∃ i, Try.prog.info? E.elem = some i ∧ i.size = E.size := by
    have h1 := H.hi
    cases h : Try.prog.info? E.elem with
    | none => rw [h] at h1; simp at h1
    | some i => rw [h] at h1; exact ⟨i, rfl, by simpa using h1⟩
  rw [Nat.add_zero, Array.length_toList, hf.1] at hst
  simp [storeVar, sizeOf, typeInfo, hq, Value.cells, hz, hf.1]
  simpa using hst
end Go.Proofs.Ytbigifmfbibgoaa
namespace Go.Proofs.Ytbigifmfbibgoaa
open Go Go.RowKit
set_option maxRecDepth 20000

/-! A hold in memory. -/
def hoA (s : HoS) : Array Value := #[.int .i64 s.inc, .int .i64 s.floor, .int .i64 s.top, .int .i64 s.lm, .int .i64 s.lo, .int .i64 s.hm, .int .i64 s.ho, .int .i64 s.use, .int .i64 s.said]
def HoV (w : World) (g : Nat) (s : HoS) : Prop := w.heap[g]? = some (.cells (hoA s) 49 (0, 0))
structure HoF (w : World) (g : Nat) (s : HoS) : Prop where
  c0 : w.cell? ⟨g, 0, none⟩ = some (.int .i64 s.inc)
  c1 : w.cell? ⟨g, 1, none⟩ = some (.int .i64 s.floor)
  c2 : w.cell? ⟨g, 2, none⟩ = some (.int .i64 s.top)
  c3 : w.cell? ⟨g, 3, none⟩ = some (.int .i64 s.lm)
  c4 : w.cell? ⟨g, 4, none⟩ = some (.int .i64 s.lo)
  c5 : w.cell? ⟨g, 5, none⟩ = some (.int .i64 s.hm)
  c6 : w.cell? ⟨g, 6, none⟩ = some (.int .i64 s.ho)
  c7 : w.cell? ⟨g, 7, none⟩ = some (.int .i64 s.use)
  c8 : w.cell? ⟨g, 8, none⟩ = some (.int .i64 s.said)
  fz : ∀ k, w.frozen? ⟨g, k, none⟩ = false
theorem HoV.f {w : World} {g : Nat} {s : HoS} (h : HoV w g s) : HoF w g s :=
  ⟨by rw [cell_of_row w g _ _ _ _ h]; rfl, by rw [cell_of_row w g _ _ _ _ h]; rfl, by rw [cell_of_row w g _ _ _ _ h]; rfl, by rw [cell_of_row w g _ _ _ _ h]; rfl, by rw [cell_of_row w g _ _ _ _ h]; rfl, by rw [cell_of_row w g _ _ _ _ h]; rfl, by rw [cell_of_row w g _ _ _ _ h]; rfl, by rw [cell_of_row w g _ _ _ _ h]; rfl, by rw [cell_of_row w g _ _ _ _ h]; rfl, fun k => by rw [World.frozen?, show w.heap[g]? = _ from h]; simp⟩
theorem HoV.below {w w' : World} {g : Nat} {s : HoS} (h : HoV w g s) (hb : Below w.heap.size w w') : HoV w' g s := (hb.block g (Array.getElem?_eq_some_iff.1 h).1).trans h
theorem HoV.lt {w : World} {g : Nat} {s : HoS} (h : HoV w g s) : g < w.heap.size := (Array.getElem?_eq_some_iff.1 h).1
def HoTo (w w' : World) (g : Nat) (s : HoS) : Prop := HoV w' g s ∧ Kept (isB g) w w'
theorem HoV.stay {w w' : World} {g : Nat} {s : HoS} (h : HoV w g s) (hb : Below w.heap.size w w') : HoTo w w' g s := ⟨h.below hb, Kept.of_below hb⟩
theorem HoTo.trans {w w1 w2 : World} {g : Nat} {s s' : HoS} (h : HoTo w w1 g s) (h' : HoTo w1 w2 g s') : HoTo w w2 g s' := ⟨h'.1, h.2.trans h'.2 fun _ e => .inl e⟩
theorem HoTo.add {w w1 w2 : World} {g : Nat} {s : HoS} (h : HoTo w w1 g s) (hb : Below w1.heap.size w1 w2) : HoTo w w2 g s := h.trans (h.1.stay hb)
theorem HoTo.pre {w w1 w2 : World} {g : Nat} {s : HoS} (hb : Below w.heap.size w w1) (h : HoTo w1 w2 g s) : HoTo w w2 g s := ⟨h.1, h.2.pre hb⟩

def ItmG : Ag := ⟨47, 2⟩
theorem ItmOk : ItmG.Ok := ⟨⟨_, Try.underlying47, rfl⟩, by kernel_rfl⟩
def itV (m o : Int) : Array Value := #[.int .i64 m, .int .i64 o]
set_option maxHeartbeats 4000000 in
theorem held_any (w : World) (g : Nat) (s : HoS) (h : HoV w g s) (e : Int) :
    Calls Try.prog 28 #[.pointer (some ⟨g, 0, none⟩), .int .i64 e] w fun x w' => x = .returned (.agg #[.int .i64 (heldS s e).1, .int .i64 (heldS s e).2]) ∧ Below w.heap.size w w' := by
  have F := h.f
  have c1 := F.c1
  have c2 := F.c2
  have c3 := F.c3
  have c4 := F.c4
  have c5 := F.c5
  have c6 := F.c6
  have hg := h.lt
  unfold heldS
  by_cases h1 : e = s.floor
  · rw [if_pos h1]
    clear F h
    go_enter Try.func28, Try.ntmps28
    go_wp2_with fail
    exact retA14 ItmOk (p := 4) rfl rfl w.heap.size rfl (itV s.lm s.lo) rfl (heap_new _ _ _ rfl) ⟨rfl, (Below.refl _ _).alloc (Nat.le_refl _) _⟩
  · rw [if_neg h1]
    by_cases h2 : e = s.top
    · rw [if_pos h2]
      clear F h
      go_enter Try.func28, Try.ntmps28
      go_wp2_with fail
      exact retA14 ItmOk (p := 4) rfl rfl w.heap.size rfl (itV s.hm s.ho) rfl (heap_new _ _ _ rfl) ⟨rfl, (Below.refl _ _).alloc (Nat.le_refl _) _⟩
    · rw [if_neg h2]
      clear F h
      go_enter Try.func28, Try.ntmps28
      go_wp2_with fail
      exact retA14 ItmOk (p := 4) rfl rfl w.heap.size rfl (itV 0 0) rfl (heap_new _ _ _ rfl) ⟨rfl, (Below.refl _ _).alloc (Nat.le_refl _) _⟩
theorem counts_any (w : World) (g : Nat) (f t : Int) (c1 : w.cell? ⟨g, 1, none⟩ = some (.int .i64 f)) (c2 : w.cell? ⟨g, 2, none⟩ = some (.int .i64 t)) (e : Int) :
    Calls Try.prog 31 #[.pointer (some ⟨g, 0, none⟩), .int .i64 e] w fun x w' => x = .returned (.bool (decide (e = f ∨ e = t))) ∧ w' = w := by
  by_cases h1 : e = f
  · rw [decide_eq_true (Or.inl h1)]
    have d1 : (e == f) = true := by simpa using h1
    clear h1
    go_enter Try.func31, Try.ntmps31
    go_wp2_with fail
    go_ret
    exact ⟨rfl, rfl⟩
  · have d1 : (e == f) = false := by simpa using h1
    by_cases h2 : e = t
    · rw [decide_eq_true (Or.inr h2)]
      have d2 : (e == t) = true := by simpa using h2
      clear h1 h2
      go_enter Try.func31, Try.ntmps31
      go_wp2_with fail
      go_ret
      exact ⟨rfl, rfl⟩
    · rw [decide_eq_false (fun x => x.elim h1 h2)]
      have d2 : (e == t) = false := by simpa using h2
      clear h1 h2
      go_enter Try.func31, Try.ntmps31
      go_wp2_with fail
      go_ret
      exact ⟨rfl, rfl⟩
end Go.Proofs.Ytbigifmfbibgoaa
namespace Go.Proofs.Ytbigifmfbibgoaa
open Go Go.RowKit
set_option maxRecDepth 20000

/-! Steps of drawn regions, for go_region_law_o. -/
end Go.Proofs.Ytbigifmfbibgoaa
namespace Go.Proofs.Ytbigifmfbibgoaa
open Go Go.RowKit
set_option maxRecDepth 20000

theorem HoTo.setC {w w' : World} {g : Nat} {s : HoS} (h : HoTo w w' g s) (k : Nat) (v : Value) (s' : HoS) (hs : (hoA s).setIfInBounds k v = hoA s') : HoTo w (w'.setCell ⟨g, k, none⟩ v) g s' := by
  refine ⟨?_, h.2.trans (Y := isB g) ⟨rfl, rfl, rfl, by simp [World.setCell], fun k' _ e => heap_setCell_other w' ⟨g, k, none⟩ k' _ e⟩ fun _ e => .inl e⟩
  unfold HoV
  rw [heap_setCell_same w' g k _ _ _ h.1, hs]
set_option maxHeartbeats 16000000 in
theorem move_any (w : World) (g : Nat) (s : HoS) (h : HoV w g s) (f t : Int) :
    Calls Try.prog 33 #[.pointer (some ⟨g, 0, none⟩), .int .i64 f, .int .i64 t] w fun x w' => x = .returned (.tuple #[]) ∧ HoTo w w' g (moveS s f t) := by
  obtain ⟨a1, ha1⟩ : ∃ a, a = (heldS s f).1 := ⟨_, rfl⟩
  obtain ⟨a2, ha2⟩ : ∃ a, a = (heldS s f).2 := ⟨_, rfl⟩
  obtain ⟨a3, ha3⟩ : ∃ a, a = (heldS s t).1 := ⟨_, rfl⟩
  obtain ⟨a4, ha4⟩ : ∃ a, a = (heldS s t).2 := ⟨_, rfl⟩
  have C1 : Hid (∀ W, Below w.heap.size w W → Calls Try.prog 28 #[.pointer (some ⟨g, 0, none⟩), .int .i64 f] W fun x w' => x = .returned (.agg #[.int .i64 a1, .int .i64 a2]) ∧ Below W.heap.size W w') := by
    intro W hb
    rw [ha1, ha2]
    exact held_any W g s (h.below hb) f
  have C2 : Hid (∀ W, Below w.heap.size w W → Calls Try.prog 28 #[.pointer (some ⟨g, 0, none⟩), .int .i64 t] W fun x w' => x = .returned (.agg #[.int .i64 a3, .int .i64 a4]) ∧ Below W.heap.size W w') := by
    intro W hb
    rw [ha3, ha4]
    exact held_any W g s (h.below hb) t
  have HF : Hid (∀ W, Below w.heap.size w W → HoV W g s) := fun W hb => h.below hb
  have B0 : Hid (Below w.heap.size w w.drew) := (Below.refl _ _).drew
  unfold moveS
  rw [← ha1, ← ha2, ← ha3, ← ha4]
  clear ha1 ha2 ha3 ha4 h
  obtain ⟨u, hu⟩ : ∃ u, u = (if s.use = f ∨ s.use = t then s.use else 0) := ⟨_, rfl⟩
  obtain ⟨v, hv⟩ : ∃ v, v = (if s.use = f ∨ s.use = t then s.said else 0) := ⟨_, rfl⟩
  rw [← hu, ← hv]
  have HU : Hid (u = (if s.use = f ∨ s.use = t then s.use else 0) ∧ v = (if s.use = f ∨ s.use = t then s.said else 0)) := ⟨hu, hv⟩
  clear hu hv
  go_enter Try.func33, Try.ntmps33
  go_wp2_with (go_at_call 28; refine of_stopT ?_)
  unfold StopT
  refine (C1.out w (Below.refl _ _)).mono ?_
  rintro e w1 ⟨rfl, hb1⟩
  go_wp2_with (go_at_call 28; refine of_stopT ?_)
  unfold StopT
  refine (C2.out w1 hb1).mono ?_
  rintro e w2 ⟨rfl, hb2⟩
  have B2 : Hid (Below w.heap.size w w2) := below_step hb1 hb1.size hb2
  have V2 : Hid (HoV w2 g s) := HF.out _ B2.out
  have c1 := V2.out.f.c1
  have c2 := V2.out.f.c2
  have c3 := V2.out.f.c3
  have c4 := V2.out.f.c4
  have c5 := V2.out.f.c5
  have c6 := V2.out.f.c6
  have c7 := V2.out.f.c7
  have c8 := V2.out.f.c8
  have fz := V2.out.f.fz
  clear hb1 hb2 C1 C2
  go_wp2_with (go_at_call 31; refine of_stopT ?_)
  unfold StopT
  have T6 := ((((((V2.out.stay (Below.refl _ _)).setC 3 (.int .i64 a1) ⟨s.inc, s.floor, s.top, a1, s.lo, s.hm, s.ho, s.use, s.said⟩ rfl).setC 4 (.int .i64 a2) ⟨s.inc, s.floor, s.top, a1, a2, s.hm, s.ho, s.use, s.said⟩ rfl).setC 5 (.int .i64 a3) ⟨s.inc, s.floor, s.top, a1, a2, a3, s.ho, s.use, s.said⟩ rfl).setC 6 (.int .i64 a4) ⟨s.inc, s.floor, s.top, a1, a2, a3, a4, s.use, s.said⟩ rfl).setC 1 (.int .i64 f) ⟨s.inc, f, s.top, a1, a2, a3, a4, s.use, s.said⟩ rfl).setC 2 (.int .i64 t) ⟨s.inc, f, t, a1, a2, a3, a4, s.use, s.said⟩ rfl
  obtain ⟨W, hW⟩ : ∃ W, (((((((w2.setCell ⟨g, 3, none⟩ (.int .i64 a1)).setCell ⟨g, 4, none⟩ (.int .i64 a2)).setCell ⟨g, 5, none⟩ (.int .i64 a3)).setCell ⟨g, 6, none⟩ (.int .i64 a4)).setCell ⟨g, 1, none⟩ (.int .i64 f)).setCell ⟨g, 2, none⟩ (.int .i64 t))) = W := ⟨_, rfl⟩
  rw [hW] at T6 ⊢
  have HT : Hid (HoTo w W g ⟨s.inc, f, t, a1, a2, a3, a4, s.use, s.said⟩) := HoTo.pre B2.out T6
  have F6 := T6.1.f
  have HC := counts_any W g f t F6.c1 F6.c2 s.use
  have k7 := F6.c7
  have k8 := F6.c8
  have fz' := F6.fz
  clear hW T6 F6 c1 c2 c3 c4 c5 c6 c7 c8 fz V2 B2 HF
  by_cases hc : s.use = f ∨ s.use = t
  · rw [decide_eq_true hc] at HC
    have HU2 : Hid (u = s.use ∧ v = s.said) := by
      have := HU.out
      rw [if_pos hc, if_pos hc] at this
      exact this
    clear hc
    refine HC.mono ?_
    rintro e w3 ⟨rfl, h3⟩
    have h3 := h3.symm
    subst h3
    go_wp2_with fail
    refine bodyPost_end (results_none rfl _ _ _) rfl ?_
    exact ⟨rfl, by rw [HU2.out.1, HU2.out.2]; exact HT.out⟩
  · rw [decide_eq_false hc] at HC
    have HU2 : Hid (u = 0 ∧ v = 0) := by
      have := HU.out
      rw [if_neg hc, if_neg hc] at this
      exact this
    clear hc
    refine HC.mono ?_
    rintro e w3 ⟨rfl, h3⟩
    have h3 := h3.symm
    subst h3
    go_wp2_with fail
    refine bodyPost_end (results_none rfl _ _ _) rfl ?_
    exact ⟨rfl, by rw [HU2.out.1, HU2.out.2]; exact (HT.out.setC 7 (.int .i64 0) ⟨s.inc, f, t, a1, a2, a3, a4, 0, s.said⟩ rfl).setC 8 (.int .i64 0) ⟨s.inc, f, t, a1, a2, a3, a4, 0, 0⟩ rfl⟩
end Go.Proofs.Ytbigifmfbibgoaa
namespace Go.Proofs.Ytbigifmfbibgoaa
open Go Go.RowKit
set_option maxRecDepth 20000

set_option maxHeartbeats 4000000 in
theorem newHo_any (w : World) (inc : Int) :
    Calls Try.prog 10 #[.int .i64 inc] w fun x w' => x = .returned (.pointer (some ⟨w.heap.size, 0, none⟩)) ∧ HoV w' w.heap.size ⟨inc, 0, 0, 0, 0, 0, 0, 0, 0⟩ ∧ Below w.heap.size w w' := by
  go_enter Try.func10, Try.ntmps10
  go_wp2_with fail
  go_ret
  exact ⟨rfl, heap_new _ _ _ rfl, (Below.refl _ _).alloc (Nat.le_refl _) _⟩
theorem inc_any (w : World) (g : Nat) (s : HoS) (h : HoV w g s) :
    Calls Try.prog 14 #[.pointer (some ⟨g, 0, none⟩)] w fun x w' => x = .returned (.int .i64 s.inc) ∧ w' = w := by
  have c := h.f.c0
  clear h
  go_enter Try.func14, Try.ntmps14
  go_wp2_with fail
  go_ret
  exact ⟨rfl, rfl⟩
theorem floor_any (w : World) (g : Nat) (s : HoS) (h : HoV w g s) :
    Calls Try.prog 15 #[.pointer (some ⟨g, 0, none⟩)] w fun x w' => x = .returned (.int .i64 s.floor) ∧ w' = w := by
  have c := h.f.c1
  clear h
  go_enter Try.func15, Try.ntmps15
  go_wp2_with fail
  go_ret
  exact ⟨rfl, rfl⟩
theorem top_any (w : World) (g : Nat) (s : HoS) (h : HoV w g s) :
    Calls Try.prog 16 #[.pointer (some ⟨g, 0, none⟩)] w fun x w' => x = .returned (.int .i64 s.top) ∧ w' = w := by
  have c := h.f.c2
  clear h
  go_enter Try.func16, Try.ntmps16
  go_wp2_with fail
  go_ret
  exact ⟨rfl, rfl⟩
theorem use_any (w : World) (g : Nat) (s : HoS) (h : HoV w g s) :
    Calls Try.prog 17 #[.pointer (some ⟨g, 0, none⟩)] w fun x w' => x = .returned (.int .i64 s.use) ∧ w' = w := by
  have c := h.f.c7
  clear h
  go_enter Try.func17, Try.ntmps17
  go_wp2_with fail
  go_ret
  exact ⟨rfl, rfl⟩
set_option maxHeartbeats 4000000 in
theorem countHo_any (w : World) (g : Nat) (s : HoS) (h : HoV w g s) (e : Int) :
    Calls Try.prog 20 #[.pointer (some ⟨g, 0, none⟩), .int .i64 e] w fun x w' => x = .returned (.tuple #[.int .i64 (heldS s e).1, .int .i64 (heldS s e).2]) ∧ Below w.heap.size w w' := by
  have HH := held_any w g s h e
  obtain ⟨a, ha⟩ : ∃ a, a = (heldS s e).1 := ⟨_, rfl⟩
  obtain ⟨b, hb⟩ : ∃ b, b = (heldS s e).2 := ⟨_, rfl⟩
  rw [← ha, ← hb] at HH ⊢
  clear h ha hb
  go_enter Try.func20, Try.ntmps20
  go_wp2_with (go_at_call 28; refine HH.mono ?_; rintro e w1 ⟨rfl, hb1⟩)
  have B1 : Hid (Below w.heap.size w (w1.alloc (.cells #[.int .i64 a, .int .i64 b] 47))) := hb1.alloc hb1.size _
  go_region
  go_wp2_with fail
  go_ret2
  exact ⟨rfl, B1.out.drew⟩
set_option maxHeartbeats 4000000 in
theorem fullHo_any (w : World) (g : Nat) (s : HoS) (h : HoV w g s) (e : Int) :
    Calls Try.prog 22 #[.pointer (some ⟨g, 0, none⟩), .int .i64 e] w fun x w' => x = .returned (.bool (decide (0 < (heldS s e).1) && decide ((heldS s e).1 = (heldS s e).2))) ∧ Below w.heap.size w w' := by
  have HH := countHo_any w g s h e
  obtain ⟨a, ha⟩ : ∃ a, a = (heldS s e).1 := ⟨_, rfl⟩
  obtain ⟨b, hb⟩ : ∃ b, b = (heldS s e).2 := ⟨_, rfl⟩
  rw [← ha, ← hb] at HH ⊢
  clear h ha hb
  by_cases h1 : 0 < a
  · rw [decide_eq_true h1, Bool.true_and]
    go_enter Try.func22, Try.ntmps22
    go_wp2_with (go_at_call 20; refine HH.mono ?_; rintro e w1 ⟨rfl, hb1⟩)
    go_ret
    exact ⟨ret_bool (by by_cases h : a = b <;> simp [h]), hb1⟩
  · rw [decide_eq_false h1, Bool.false_and]
    go_enter Try.func22, Try.ntmps22
    go_wp2_with (go_at_call 20; refine HH.mono ?_; rintro e w1 ⟨rfl, hb1⟩)
    go_ret
    exact ⟨rfl, hb1⟩
set_option maxHeartbeats 4000000 in
theorem putHo_any (w : World) (g : Nat) (s : HoS) (h : HoV w g s) (e m o : Int) :
    Calls Try.prog 32 #[.pointer (some ⟨g, 0, none⟩), .int .i64 e, .agg #[.int .i64 m, .int .i64 o]] w fun x w' => x = .returned (.tuple #[]) ∧ HoTo w w' g (putHo s e m o) := by
  obtain ⟨W, hW⟩ : ∃ W, W = w.alloc (.cells #[.int .i64 m, .int .i64 o] 47) := ⟨_, rfl⟩
  have B0 : Hid (Below w.heap.size w W) := by show Below _ _ _; rw [hW]; exact (Below.refl _ _).alloc (Nat.le_refl _) _
  have V0 : Hid (HoV W g s) := h.below B0.out
  have F := V0.out.f
  have c1 := F.c1
  have c3 := F.c3
  have c4 := F.c4
  have c5 := F.c5
  have c6 := F.c6
  have fz := F.fz
  have T0 := V0.out.stay (Below.refl _ _)
  rw [hW] at c1 c3 c4 c5 c6 fz
  unfold putHo
  by_cases h1 : e = s.floor
  · have d1 : (e == s.floor) = true := by simpa using h1
    rw [if_pos h1]
    have T2 : Hid (HoTo w ((W.setCell ⟨g, 3, none⟩ (.int .i64 m)).setCell ⟨g, 4, none⟩ (.int .i64 o)) g { s with lm := m, lo := o }) := HoTo.pre B0.out ((T0.setC 3 (.int .i64 m) { s with lm := m } rfl).setC 4 (.int .i64 o) { s with lm := m, lo := o } rfl)
    rw [hW] at T2
    clear h1 F T0 h V0 B0 hW
    go_enter Try.func32, Try.ntmps32
    go_wp2_with fail
    refine bodyPost_ret (results_none rfl _ _ _) rfl ?_
    exact ⟨rfl, T2.out⟩
  · have d1 : (e == s.floor) = false := by simpa using h1
    rw [if_neg h1]
    have T2 : Hid (HoTo w ((W.setCell ⟨g, 5, none⟩ (.int .i64 m)).setCell ⟨g, 6, none⟩ (.int .i64 o)) g { s with hm := m, ho := o }) := HoTo.pre B0.out ((T0.setC 5 (.int .i64 m) { s with hm := m } rfl).setC 6 (.int .i64 o) { s with hm := m, ho := o } rfl)
    rw [hW] at T2
    clear h1 F T0 h V0 B0 hW
    go_enter Try.func32, Try.ntmps32
    go_wp2_with fail
    refine bodyPost_end (results_none rfl _ _ _) rfl ?_
    exact ⟨rfl, T2.out⟩
set_option maxHeartbeats 4000000 in
theorem toFloor_any (w : World) (g : Nat) (s : HoS) (h : HoV w g s) (f : Int) :
    Calls Try.prog 29 #[.pointer (some ⟨g, 0, none⟩), .int .i64 f] w fun x w' => x = .returned (.tuple #[]) ∧ HoTo w w' g (floorS s f) := by
  have c1 := h.f.c1
  have c2 := h.f.c2
  unfold floorS
  by_cases h1 : s.floor < f
  · rw [if_pos h1]
    obtain ⟨M, hM⟩ : ∃ M, M = max f s.top := ⟨_, rfl⟩
    have HMX : Hid (M = max f s.top) := hM
    have HM := move_any w g s h f (max f s.top)
    rw [← hM] at HM ⊢
    have d1 : f > s.floor := h1
    clear hM
    clear h1 h
    go_enter Try.func29, Try.ntmps29
    go_wp2_with (first
      | (refine wl_maxI rfl (.tmp 12) (.tmp 16) rfl f s.top M rfl rfl HMX.out ?_)
      | (go_at_call 33; refine HM.mono ?_; rintro e w1 ⟨rfl, hb1⟩))
    refine bodyPost_end (results_none rfl _ _ _) rfl ?_
    exact ⟨rfl, hb1⟩
  · rw [if_neg h1]
    have d1 : ¬ f > s.floor := h1
    have HS : Hid (HoTo w w g s) := h.stay (Below.refl _ _)
    clear h1 h
    go_enter Try.func29, Try.ntmps29
    go_wp2_with fail
    refine bodyPost_end (results_none rfl _ _ _) rfl ?_
    exact ⟨rfl, HS.out⟩
set_option maxHeartbeats 4000000 in
theorem toEpoch_any (w : World) (g : Nat) (s : HoS) (h : HoV w g s) (e : Int) :
    Calls Try.prog 30 #[.pointer (some ⟨g, 0, none⟩), .int .i64 e] w fun x w' => x = .returned (.tuple #[]) ∧ HoTo w w' g (epochS s e) := by
  have c1 := h.f.c1
  have c2 := h.f.c2
  unfold epochS
  by_cases h1 : s.top < e
  · rw [if_pos h1]
    have HM := move_any w g s h s.floor e
    have d1 : e > s.top := h1
    clear h1 h
    go_enter Try.func30, Try.ntmps30
    go_wp2_with (go_at_call 33; refine HM.mono ?_; rintro e w1 ⟨rfl, hb1⟩)
    refine bodyPost_end (results_none rfl _ _ _) rfl ?_
    exact ⟨rfl, hb1⟩
  · rw [if_neg h1]
    have d1 : ¬ e > s.top := h1
    have HS : Hid (HoTo w w g s) := h.stay (Below.refl _ _)
    clear h1 h
    go_enter Try.func30, Try.ntmps30
    go_wp2_with fail
    refine bodyPost_end (results_none rfl _ _ _) rfl ?_
    exact ⟨rfl, HS.out⟩
end Go.Proofs.Ytbigifmfbibgoaa
