import Derived.Test.YtagogbodkbbikaaJ8
import Derived.Test.YtagogbodkbbikaaJ6
import Derived.Test.YtagogbodkbbikaaJ3
namespace Go.Proofs.Ytagogbodkbbikaa
open Go Go.RowKit
set_option maxRecDepth 20000

theorem rans_yes {m : WaitM} {P : List AskP} (hI : RwI m P) {k : Nat} {x : AskM} (hx : P[k]? = some (x, false)) : answerW m ((k : Int) + 1) = ({ m with l := restP (P.set k (x, true)) }, some x) ∧ RwI { m with l := restP (P.set k (x, true)) } (P.set k (x, true)) := by
  have hs : x.seq = (k : Int) + 1 := by have := hI.seqs k _ hx; dsimp only at this; rw [this, Nat.zero_add]
  obtain ⟨h1, h2⟩ := ansP hI.seqs hx
  refine ⟨?_, rfl, seqP_set hI.seqs hx rfl, by rw [List.length_set]; exact hI.last, fun p hp => ?_⟩
  · unfold answerW dropW
    rw [← hI.rest, ← hs, h1, ← h2]
  · rcases List.mem_or_eq_of_mem_set hp with e | e
    · exact hI.sent p e
    · rw [e]
      have := hI.sent (x, false) (List.mem_of_getElem? hx)
      exact this
theorem rans_no {m : WaitM} {P : List AskP} (hI : RwI m P) {s : Int} (h : ∀ (i : Nat) (x : AskM), (i : Int) + 1 = s → P[i]? ≠ some (x, false)) : answerW m s = (m, none) := by
  unfold answerW
  rw [← hI.rest, ansP_no hI.seqs h]
set_option maxHeartbeats 16000000 in
theorem ranswerK_any (B : Nat) (w : World) (r : Nat) (m : WaitM) (va vd : Value) (P : List AskP) (h : RwO B w r m va vd P) (hI : RwI m P) (s : Int) (hlast : m.last ≤ 99999) :
    Calls Try.prog 13 #[.pointer (some ⟨r, 0, none⟩), .int .i64 s] w fun e w' => e = .returned (.tuple #[.agg (askV ((answerW m s).2.getD zeroA)), .bool (answerW m s).2.isSome]) ∧ RwTo B w w' r (answerW m s).1 va vd := by
  obtain ⟨w0, hw0⟩ : ∃ w0, w0 = w.alloc (.cells (askV zeroA) 38) := ⟨_, rfl⟩
  have B0 : Below w.heap.size w w0 := by rw [hw0]; exact (Below.refl _ _).alloc (Nat.le_refl _) _
  have Z0 : w0.heap[w.heap.size]? = some (.cells (askV zeroA) 38 (0, 0)) := by rw [hw0]; exact heap_new _ _ _ rfl
  have h0 := h.below B0
  have hla : m.last = P.length := hI.last
  obtain ⟨oa, ca, hva, hca1, hca2⟩ := h.all.slice
  rw [List.length_map] at hva hca1
  obtain ⟨od, cd, hvd, hcd1, hcd2⟩ := h.dn.sl.slice
  rw [show (boolsP P).length = P.length from List.length_map _] at hvd hcd1
  obtain ⟨q, hq⟩ : ∃ q, q = P.length := ⟨_, rfl⟩
  rw [← hq] at hva hvd hca1 hcd1 hla
  have c0 := h0.f.c0
  have c1 := h0.f.c1
  have HNP : Hid (¬ footR r va vd w.heap.size) := fun e => by have := (h.foot_in _ e).2; omega
  -- the ending with nobody
  have HNO : Hid (answerW m s = (m, none) → RwTo B w (w0.setRow w.heap.size (askV zeroA)) r (answerW m s).1 va vd ∧ (w0.setRow w.heap.size (askV zeroA)).heap[w.heap.size]? = some (.cells (askV zeroA) 38 (0, 0))) := fun e => by
    rw [e]
    have hk : Kept (isB w.heap.size) w0 (w0.setRow w.heap.size (askV zeroA)) := ⟨rfl, rfl, rfl, by simp, fun k _ hk => setRow_other _ _ k _ hk⟩
    exact ⟨⟨va, vd, P, h0.kept hk fun k e e' => by unfold isB at e'; subst e'; exact HNP.out e, hI, (Kept.of_below B0).trans hk fun k e => .inr (by unfold isB at e; omega), fun k e => .inl e⟩, setRow_heap _ _ _ _ _ _ Z0⟩
  unfold maxLen at hca2 hcd2
  by_cases h1 : s < 1
  · have HA : Hid (answerW m s = (m, none)) := rans_no hI fun i x e => by omega
    have HE := HNO.out HA.out
    have HEH : Hid _ := HE
    rw [hw0] at c0 c1 Z0 HEH
    clear h h0 hI hq hla hlast hw0 B0 HE HNO
    subst hva
    subst hvd
    go_enter Try.func13, Try.ntmps13
    go_wp2_with (first
      | ((with_reducible refine wl_gaK rfl ?_); refine wl_allocK rfl rfl ?_; try rw [sz_allocK])
      | ((with_reducible refine wl_gzK rfl ?_); refine wl_buildK rfl rfl ?_)
      | (((with_reducible refine wl_gsK _ _ rfl ?_); refine wl_storeK rfl _ _ rfl w.heap.size zeroA zeroA rfl rfl Z0 _ rfl ?_)))
    refine retAe (E := AskG) AskGOk rfl rfl w.heap.size rfl (askV zeroA) rfl HEH.out.2 (.bool false) rfl ?_
    refine ⟨?_, HEH.out.1⟩
    rw [HA.out]
    rfl
  by_cases h2 : s > (q : Int)
  · have HA : Hid (answerW m s = (m, none)) := rans_no hI fun i x e e' => by
      have := (List.getElem?_eq_some_iff.1 e').1
      omega
    have HE := HNO.out HA.out
    have HEH : Hid _ := HE
    rw [hw0] at c0 c1 Z0 HEH
    clear h h0 hI hq hla hlast hw0 B0 HE HNO
    subst hva
    subst hvd
    go_enter Try.func13, Try.ntmps13
    go_wp2_with (first
      | ((with_reducible refine wl_gaK rfl ?_); refine wl_allocK rfl rfl ?_; try rw [sz_allocK])
      | ((with_reducible refine wl_gzK rfl ?_); refine wl_buildK rfl rfl ?_)
      | (((with_reducible refine wl_gsK _ _ rfl ?_); refine wl_storeK rfl _ _ rfl w.heap.size zeroA zeroA rfl rfl Z0 _ rfl ?_)))
    refine retAe (E := AskG) AskGOk rfl rfl w.heap.size rfl (askV zeroA) rfl HEH.out.2 (.bool false) rfl ?_
    refine ⟨?_, HEH.out.1⟩
    rw [HA.out]
    rfl
  obtain ⟨k, rfl⟩ : ∃ k : Nat, s = (k : Int) + 1 := ⟨(s - 1).toNat, by omega⟩
  have hk : k < q := by omega
  have hk' : (k : Int) < (q : Int) := by omega
  obtain ⟨⟨x, b⟩, hpk⟩ : ∃ p, P[k]? = some p := ⟨_, List.getElem?_eq_getElem (by rw [← hq]; exact hk)⟩
  have h0a := h0.all.sl
  have h0d := h0.dn.sl
  have h00 := h0
  rw [hva] at h0a h00
  rw [hvd] at h0d h00
  obtain ⟨ga, offa, cura, tya, fra, x', hoa, hg, hcc, hxk⟩ := h0a.at k hk
  rw [List.getElem?_map, hpk] at hxk
  obtain rfl : x = x' := by simpa using hxk
  have had : ∃ gd, od = some ⟨gd, 0, none⟩ := by
    obtain ⟨_, ⟨e, _⟩ | ⟨g', cap', cur, e, _⟩⟩ := h00.dn
    · simp only [Value.slice.injEq] at e; omega
    · simp only [Value.slice.injEq] at e; exact ⟨g', e.1⟩
  obtain ⟨gd, rfl⟩ := had
  have haa : ∃ g, oa = some ⟨g, 0, none⟩ := by
    obtain ⟨_, ⟨e, _⟩ | ⟨g', cap', cur, e, _⟩⟩ := h00.all
    · simp only [Value.slice.injEq] at e; omega
    · simp only [Value.slice.injEq] at e; exact ⟨g', e.1⟩
  obtain ⟨ga', hoa'⟩ := haa
  rw [hoa'] at hoa
  obtain ⟨rfl, rfl⟩ : ga' = ga ∧ 0 = offa := by simpa using hoa
  obtain ⟨cv, kd, hck, fzd⟩ := h00.dn.cell k hk
  unfold boolsP at hck
  rw [List.getElem?_map, hpk] at hck
  obtain rfl : Value.bool b = cv := by simpa using hck
  have hwr : IntKind.i64.wrap ((k : Int) + 1 - 1) = (k : Int) := by rw [IntKind.wrap_i64]; omega
  have d1 : ¬ (k : Int) + 1 < 1 := by omega
  have d2 : ¬ (k : Int) + 1 > (q : Int) := by omega
  cases b with
  | true =>
    have HA : Hid (answerW m ((k : Int) + 1) = (m, none)) := rans_no hI fun i y e e' => by
      have : i = k := by omega
      rw [this, hpk] at e'
      simp at e'
    have HE := HNO.out HA.out
    have HEH : Hid _ := HE
    rw [hw0] at c0 c1 Z0 HEH kd
    clear h h0 hI hq hla hlast hw0 B0 HE HNO h0a h0d h00 hg hcc hxk hck hpk h1 h2 fzd hoa
    subst hoa'
    subst hva
    subst hvd
    go_enter Try.func13, Try.ntmps13
    go_wp2_with (first
      | ((with_reducible refine wl_gaK rfl ?_); refine wl_allocK rfl rfl ?_; try rw [sz_allocK])
      | ((with_reducible refine wl_gzK rfl ?_); refine wl_buildK rfl rfl ?_)
      | (((with_reducible refine wl_gsK _ _ rfl ?_); refine wl_storeK rfl _ _ rfl w.heap.size zeroA zeroA rfl rfl Z0 _ rfl ?_)))
    refine retAe (E := AskG) AskGOk rfl rfl w.heap.size rfl (askV zeroA) rfl HEH.out.2 (.bool false) rfl ?_
    refine ⟨?_, HEH.out.1⟩
    rw [HA.out]
    rfl
  | false =>
    obtain ⟨e1, e2⟩ := rans_yes hI hpk
    have HA : Hid (answerW m ((k : Int) + 1) = ({ m with l := restP (P.set k (x, true)) }, some x)) := e1
    obtain ⟨p1, p2⟩ := h00.done hpk true
    obtain ⟨w1, hw1⟩ : ∃ w1, w1 = w0.setCell ⟨gd, k, none⟩ (.bool true) := ⟨_, rfl⟩
    rw [← hw1] at p1 p2
    have c0' := p1.f.c0
    have hneg : w.heap.size ≠ gd := fun e => by have := (h00.dn.lt gd rfl).2; exact HNP.out (.inr (.inr (by rw [hvd, e]; rfl)))
    have Z1 : w1.heap[w.heap.size]? = some (.cells (askV zeroA) 38 (0, 0)) := by rw [hw1, heap_setCell_other w0 ⟨gd, k, none⟩ w.heap.size _ hneg]; exact Z0
    obtain ⟨ga2, offa2, cura2, tya2, fra2, x2, hoa2, hg2, hcc2, hxk2⟩ := p1.all.sl.at k hk
    rw [List.getElem?_map, List.getElem?_set_self (by rw [← hq]; exact hk)] at hxk2
    obtain rfl : x = x2 := by simpa using hxk2
    rw [hoa'] at hoa2
    obtain ⟨rfl, rfl⟩ : ga' = ga2 ∧ 0 = offa2 := by simpa using hoa2
    have LD : (loadVar 38 ⟨ga', 0 + k * 17, none⟩).run Try.prog w1 = .ok (.agg (askV x)) w1 := ldK_row hg2 hcc2
    rw [Nat.zero_add] at LD
    have hkp : Kept (isB w.heap.size) w1 (w1.setRow w.heap.size (askV x)) := ⟨rfl, rfl, rfl, by simp, fun k _ hk => setRow_other _ _ k _ hk⟩
    have HE : Hid (RwTo B w (w1.setRow w.heap.size (askV x)) r { m with l := restP (P.set k (x, true)) } va vd ∧ (w1.setRow w.heap.size (askV x)).heap[w.heap.size]? = some (.cells (askV x) 38 (0, 0))) := by
      have k1 := (Frm.of_below (F := footR r (.slice oa q ca) (.slice (some ⟨gd, 0, none⟩) q cd)) B0).trans p2
      rw [hva, hvd] at HNP ⊢
      exact ⟨⟨_, _, P.set k (x, true), (RwO.mk p1.blk p1.all p1.dn p1.hB : RwO B w1 r { m with l := restP (P.set k (x, true)) } _ _ _).kept hkp fun k e e' => by unfold isB at e'; subst e'; exact HNP.out e, e2, k1.kept.trans hkp fun k e => .inr (by unfold isB at e; omega), k1.foot⟩, setRow_heap _ _ _ _ _ _ Z1⟩
    have HW1 : Hid (w1 = (w.alloc (.cells (askV zeroA) 38)).setCell ⟨gd, k, none⟩ (.bool true)) := by show _ = _; rw [hw1, hw0]
    rw [hw0] at c0 c1 Z0 kd fzd
    rw [HW1.out] at c0' LD Z1 HE
    clear h h0 hI hq hla hlast hw0 B0 HNO h0a h0d h00 hg hcc hxk hck hpk h1 h2 hoa p1 p2 hw1 hneg hg2 hcc2 hxk2 hoa2 hkp e1 e2
    subst hoa'
    subst hva
    subst hvd
    go_enter Try.func13, Try.ntmps13
    go_wp2_with (first
      | ((with_reducible refine wl_gaK rfl ?_); refine wl_allocK rfl rfl ?_; try rw [sz_allocK])
      | ((with_reducible refine wl_glK _ rfl ?_); refine wl_loadK rfl _ rfl ga' (k * 17) rfl x LD ?_)
      | (((with_reducible refine wl_gsK _ _ rfl ?_); refine wl_storeK rfl _ _ rfl w.heap.size x zeroA rfl rfl Z1 _ rfl ?_)))
    refine retAe (E := AskG) AskGOk rfl rfl w.heap.size rfl (askV x) rfl HE.out.2 (.bool true) rfl ?_
    rw [HA.out]
    exact ⟨rfl, HE.out.1⟩
end Go.Proofs.Ytagogbodkbbikaa
namespace Go.Proofs.Ytagogbodkbbikaa
open Go Go.RowKit
set_option maxRecDepth 20000

theorem slice_some {e : TypeId} {s : Nat} {B : Nat} {w : World} {o : Option Addr} {n c m : Nat} {xs : List Value} (h : w.ownsRow B e s (.slice o n c) m xs) (hn : 0 < n) : ∃ g, o = some ⟨g, 0, none⟩ := by
  obtain ⟨_, ⟨q, _⟩ | ⟨g', cap', cur, q, _⟩⟩ := h
  · simp only [Value.slice.injEq] at q; omega
  · simp only [Value.slice.injEq] at q; exact ⟨g', q.1⟩
theorem rclr_in {m : WaitM} {P : List AskP} (hI : RwI m P) : RwI (clearW m) (P.map doneP) := ⟨restP_done P, seqP_map hI.seqs doneP fun _ => rfl, by rw [List.length_map]; exact hI.last, fun p hp => by obtain ⟨q, hq, rfl⟩ := List.mem_map.1 hp; exact hI.sent q hq⟩
set_option maxHeartbeats 16000000 in
theorem rclearW_any (B : Nat) (w : World) (r : Nat) (m : WaitM) (va vd : Value) (P : List AskP) (h : RwO B w r m va vd P) (hI : RwI m P) (hlast : m.last ≤ 99999) :
    Calls Try.prog 18 #[.pointer (some ⟨r, 0, none⟩)] w fun e w' => (∃ u, e = .returned u ∧ AsksAt w.heap.size w' u m.l) ∧ RwTo B w w' r (clearW m) va vd := by
  have hlen : P.length ≤ 99999 := by have := hI.last; omega
  have HLs := rlistW_any B w r m va vd P h (by omega)
  rw [hI.rest] at HLs
  obtain ⟨od, cd, hvd, hcd1, hcd2⟩ := h.dn.sl.slice
  rw [show (boolsP P).length = P.length from List.length_map _] at hvd hcd1
  obtain ⟨q, hq⟩ : ∃ q, q = P.length := ⟨_, rfl⟩
  rw [← hq] at hvd hcd1 hlen
  have HQ : Hid (q = P.length) := hq
  have HV : Hid (∀ W, Below w.heap.size w W → RwO B W r m va vd (partP doneP 0 P) ∧ Frm (footR r va vd) (footR r va vd) w W) := fun W hb => by rw [partP_zero]; exact ⟨h.below hb, Frm.of_below hb⟩
  have HE : Hid (∀ W, RwO B W r m va vd (P.map doneP) → Frm (footR r va vd) (footR r va vd) w W → RwTo B w W r (clearW m) va vd) := fun W h1 h2 => ⟨va, vd, _, ⟨h1.blk, h1.all, h1.dn, h1.hB⟩, rclr_in hI, h2⟩
  have HFT : Hid (∀ k, footR r va vd k → k < w.heap.size) := fun k e => (h.foot_in k e).2
  unfold maxLen at hcd2
  clear h hI hq hlast
  subst hvd
  go_enter Try.func18, Try.ntmps18
  go_wp2_with (go_at_call 20; refine HLs.mono ?_; rintro e w1 ⟨⟨ul, rfl, hu⟩, hb1⟩; refine of_stopT ?_)
  unfold StopT
  obtain ⟨oL, cL, eL, _⟩ := hu.slice
  have HU : Hid (AsksAt w.heap.size w1 ul m.l) := hu
  have H0 : Hid _ := HV.out w1 hb1
  generalize m.l.length = qL at eL
  clear HLs HV hu hb1
  go_wp2_with fail
  go_loopw [4] (fun s4 wr => ∃ k : Nat, k ≤ q ∧ s4 = .int .i64 (k : Int) ∧ Hid (RwO B wr r m va (.slice od q cd) (partP doneP k P)) ∧ Hid (AsksAt w.heap.size wr ul m.l) ∧ Hid (Frm (footR r va (.slice od q cd)) (footR r va (.slice od q cd)) w wr)) (fun s4 _ => q - (intOf s4).toNat)
  case atStart => exact ⟨0, Nat.zero_le _, rfl, H0.out.1, HU.out, H0.out.2⟩
  case round =>
    obtain ⟨k, hk, rfl, HO, HA, HFr⟩ := hrel
    have c1 := HO.out.f.c1
    by_cases hlt : k < q
    · have hlt' : (k : Int) < (q : Int) := by omega
      obtain ⟨gd, rfl⟩ := slice_some HO.out.dn (by omega)
      obtain ⟨⟨x, b⟩, hpk⟩ : ∃ p, P[k]? = some p := ⟨_, List.getElem?_eq_getElem (by rw [← HQ.out]; exact hlt)⟩
      obtain ⟨p1, p2⟩ := HO.out.done (partP_at doneP hpk) true
      rw [show (partP doneP k P).set k (x, true) = partP doneP (k + 1) P from (partP_succ doneP hpk).symm] at p1
      obtain ⟨cv, kd, hck, fzd⟩ := HO.out.dn.cell k hlt
      unfold boolsP at hck
      rw [List.getElem?_map, partP_at doneP hpk] at hck
      obtain rfl : Value.bool b = cv := by simpa using hck
      have P1 : Hid _ := p1
      have P2 : Hid (Frm (footR r va (.slice (some ⟨gd, 0, none⟩) q cd)) (footR r va (.slice (some ⟨gd, 0, none⟩) q cd)) w _) := HFr.out.trans p2
      have PA : Hid (AsksAt w.heap.size (wr.setCell ⟨gd, k, none⟩ (.bool true)) ul m.l) := AsksAt.kept HA.out p2.kept fun k e e' => by have := HFT.out k e'; have := (AsksAt.lt HA.out k e).1; omega
      clear hpk p1 p2 hck
      go_wp2_with fail
      go_roundw
      case rel => exact ⟨k + 1, by omega, by go_num, P1, PA, P2⟩
      case measure => simp [intOf]; omega
    · have hlt' : ¬ (k : Int) < (q : Int) := by omega
      have HO' : Hid _ := HE.out wr (by have := HO.out; rw [partP_all doneP (by rw [← HQ.out]; omega)] at this; exact this) HFr.out
      clear HE HO
      subst eL
      go_wp2_with fail
      go_ret
      exact ⟨⟨_, rfl, HA.out⟩, HO'.out⟩
end Go.Proofs.Ytagogbodkbbikaa
namespace Go.Proofs.Ytagogbodkbbikaa
open Go Go.RowKit
set_option maxRecDepth 20000

theorem below_drewW {B : Nat} {w wr : World} (h : Below B w wr) (n : Nat) : Below B w (wr.drewN n) := ⟨h.os, h.tape, h.output, h.size, h.block⟩
theorem rtick_in {m : WaitM} {P : List AskP} (hI : RwI m P) (hm : WaitIn m) (now : Int) : RwI (tickW m now) (P.map (tickP m now)) := by
  refine ⟨by rw [(tickP_all m now P).1, hI.rest]; rfl, seqP_map hI.seqs _ tickP_seq, by rw [List.length_map]; exact hI.last, fun p hp => ?_⟩
  obtain ⟨q, hq, rfl⟩ := List.mem_map.1 hp
  have h1 := hI.sent q hq
  have h8 := hm.t8
  unfold tickP
  split
  · exact h1
  · split
    · rename_i h2
      unfold moreW at h2
      rw [decide_eq_true_eq] at h2
      show 0 ≤ q.1.sent + 1 ∧ q.1.sent + 1 ≤ 9
      omega
    · exact h1
/-- Two rows, and the object, at each round. -/
structure RtS (B : Nat) (w wr : World) (r : Nat) (m : WaitM) (va vd s6 s7 : Value) (A G : List AskM) (P : List AskP) : Prop where
  rows : Rows3 w.heap.size wr s6 s7 (.slice none 0 0) A G []
  obj : RwO B wr r m va vd P
  frm : Frm (footR r va vd) (footR r va vd) w wr
  ft : ∀ k, footR r va vd k → k < w.heap.size
theorem RtS.below {B : Nat} {w wr w' : World} {r : Nat} {m : WaitM} {va vd s6 s7 : Value} {A G : List AskM} {P : List AskP} (h : RtS B w wr r m va vd s6 s7 A G P) (hb : Below wr.heap.size wr w') : RtS B w w' r m va vd s6 s7 A G P := ⟨h.rows.below hb, h.obj.below hb, h.frm.add hb, h.ft⟩
theorem Rows3.keptR {X : Nat → Prop} {B : Nat} {w w' : World} {s t u : Value} {S T U : List AskM} (h : Rows3 B w s t u S T U) (hk : Kept X w w') (hX : ∀ k, B ≤ k → ¬ X k) : Rows3 B w' s t u S T U :=
  ⟨h.a.kept hk fun k e => hX k (h.a.lt k e).1, h.b.kept hk fun k e => hX k (h.b.lt k e).1, h.c.kept hk fun k e => hX k (h.c.lt k e).1, h.ab, h.ac, h.bc⟩
theorem RtS.obj' {B : Nat} {w wr w' : World} {r : Nat} {m : WaitM} {va vd s6 s7 : Value} {A G : List AskM} {P P' : List AskP} (h : RtS B w wr r m va vd s6 s7 A G P) (ho : RwO B w' r m va vd P') (hf : Frm (footR r va vd) (footR r va vd) wr w') : RtS B w w' r m va vd s6 s7 A G P' :=
  ⟨h.rows.keptR hf.kept fun k hk e => by have := h.ft k e; omega, ho, h.frm.trans hf, h.ft⟩
theorem RtS.grow {B : Nat} {w wr w' : World} {r : Nat} {m : WaitM} {va vd s6 s7 s6' s7' y : Value} {A G A' G' Y : List AskM} {P : List AskP} (h : RtS B w wr r m va vd s6 s7 A G P) (hr : Rows3 w.heap.size w' s6' s7' (.slice none 0 0) A' G' []) (hg : wr.grownBy w' y.ownBlock) (hy : AsksAt w.heap.size wr y Y) : RtS B w w' r m va vd s6' s7' A' G' P := by
  have hk : Kept (rowX y) wr w' := Kept.of_grown hg fun _ e => e
  have hx : ∀ k, footR r va vd k → ¬ rowX y k := fun k e e' => by have := h.ft k e; have := (hy.lt k e').1; omega
  exact ⟨hr, h.obj.kept hk hx, ⟨h.frm.kept.trans hk fun k e => .inr (hy.lt k e).1, fun k e => .inl e⟩, h.ft⟩
set_option maxHeartbeats 16000000 in
theorem rtickK_any (B : Nat) (w : World) (r : Nat) (m : WaitM) (va vd : Value) (P : List AskP) (h : RwO B w r m va vd P) (hI : RwI m P) (hm : WaitIn m) (now : Int) (hlast : m.last ≤ 99999) :
    Calls Try.prog 15 #[.pointer (some ⟨r, 0, none⟩), .int .i64 now] w fun e w' => ∃ a b, e = .returned (.tuple #[a, b]) ∧ AsksAt w.heap.size w' a (againW m now) ∧ AsksAt w.heap.size w' b (goneW m now) ∧ RwO B w' r (tickW m now) va vd (P.map (tickP m now)) ∧ RwI (tickW m now) (P.map (tickP m now)) ∧ Frm (footR r va vd) (footR r va vd) w w' := by
  have hlen : P.length ≤ 99999 := by have := hI.last; omega
  have HC : Hid (∀ W, Calls Try.prog 23 #[.int .i64 now] W fun e w' => e = .returned (.int .i64 (clockW now)) ∧ w' = W) := fun W => rclock_any now W
  obtain ⟨cl, hcl⟩ : ∃ cl, cl = clockW now := ⟨_, rfl⟩
  obtain ⟨tr, htr⟩ : ∃ tr, tr = m.tries := ⟨_, rfl⟩
  obtain ⟨ti, hti⟩ : ∃ ti, ti = m.time := ⟨_, rfl⟩
  obtain ⟨oa, ca, hva, hca1, hca2⟩ := h.all.slice
  rw [List.length_map] at hva hca1
  obtain ⟨od, cd, hvd, hcd1, hcd2⟩ := h.dn.sl.slice
  rw [show (boolsP P).length = P.length from List.length_map _] at hvd hcd1
  obtain ⟨q, hq⟩ : ∃ q, q = P.length := ⟨_, rfl⟩
  rw [← hq] at hva hvd hca1 hcd1 hlen
  have HQ : Hid (q = P.length) := hq
  have HCB : Hid (0 ≤ cl ∧ cl ≤ 1099511627776 ∧ 1 ≤ ti ∧ ti ≤ 1000) := by
    have h1 := clock_in now
    have h2 := hm.ok.time1
    have h3 := hm.ti
    rw [← hcl] at h1
    rw [← hti] at h2 h3
    exact ⟨h1.1, h1.2, h2, h3⟩
  have HDU : Hid (∀ x, dueW now x = decide (x.due ≤ cl)) := fun x => by unfold dueW; rw [← hcl]
  have HMO : Hid (∀ x, moreW m x = decide (x.sent ≤ tr)) := fun x => by unfold moreW; rw [← htr]
  have HAS : Hid (∀ x, askW m now x = { x with sent := x.sent + 1, due := cl + ti }) := fun x => by unfold askW; rw [← hcl, ← hti]
  have HSN : Hid (∀ p ∈ P, 0 ≤ p.1.sent ∧ p.1.sent ≤ 9) := hI.sent
  have HF : Hid (∀ W P', RwO B W r m va vd P' → W.cell? ⟨r, 0, none⟩ = some va ∧ W.cell? ⟨r, 1, none⟩ = some vd ∧ W.cell? ⟨r, 3, none⟩ = some (.int .i64 tr) ∧ W.cell? ⟨r, 4, none⟩ = some (.int .i64 ti)) := fun W P' ho => by
    rw [htr, hti]
    exact ⟨ho.f.c0, ho.f.c1, ho.f.c3, ho.f.c4⟩
  have HST : Hid (∀ W, Below w.heap.size w W → ∀ s6 s7, Rows3 w.heap.size W s6 s7 (.slice none 0 0) [] [] [] → RtS B w W r m va vd s6 s7 [] [] (partP (tickP m now) 0 P)) := fun W hb s6 s7 hr => ⟨hr, by rw [partP_zero]; exact h.below hb, Frm.of_below hb, fun k e => (h.foot_in k e).2⟩
  have HE : Hid (∀ W s6 s7, RtS B w W r m va vd s6 s7 (againP m now P) (goneP m now P) (P.map (tickP m now)) → AsksAt w.heap.size W s6 (againW m now) ∧ AsksAt w.heap.size W s7 (goneW m now) ∧ RwO B W r (tickW m now) va vd (P.map (tickP m now)) ∧ RwI (tickW m now) (P.map (tickP m now)) ∧ Frm (footR r va vd) (footR r va vd) w W) := fun W s6 s7 hs => by
    have e := tickP_all m now P
    have ra := hs.rows.a
    have rb := hs.rows.b
    rw [e.2.1, hI.rest] at ra
    rw [e.2.2, hI.rest] at rb
    exact ⟨ra, rb, ⟨hs.obj.blk, hs.obj.all, hs.obj.dn, hs.obj.hB⟩, rtick_in hI hm now, hs.frm⟩
  rw [← hcl] at HC
  unfold maxLen at hca2 hcd2
  clear h hm hI hq hcl htr hti hlast
  subst hva
  subst hvd
  go_enter Try.func15, Try.ntmps15
  go_wp2_with (first | ((with_reducible refine wl_geK rfl ?_); refine wl_build0K rfl rfl ?_; try rw [sz_allocK]))
  go_loopw [6, 7, 8] (fun s6 s7 s8 wr => ∃ (k : Nat) (A G : List AskM), k ≤ q ∧ s8 = .int .i64 (k : Int) ∧ Hid (A = againP m now (P.take k) ∧ G = goneP m now (P.take k)) ∧ Hid (A.length ≤ k ∧ G.length ≤ k) ∧ Hid (RtS B w wr r m (.slice oa q ca) (.slice od q cd) s6 s7 A G (partP (tickP m now) k P))) (fun _ _ s8 _ => q - (intOf s8).toNat)
  case atStart =>
    have b1 : Below w.heap.size w (w.alloc (.cells #[] 38)) := (Below.refl _ _).alloc (Nat.le_refl _) _
    have b2 : Below (w.heap.size + 1) (w.alloc (.cells #[] 38)) ((w.alloc (.cells #[] 38)).alloc (.cells #[] 38)) := (Below.refl _ _).alloc (by simp) _
    have r1 : AsksAt w.heap.size ((w.alloc (.cells #[] 38)).alloc (.cells #[] 38)) (.slice (some ⟨w.heap.size, 0, none⟩) 0 0) [] := (asks0 w).below (by simpa using b2)
    have r2 : AsksAt w.heap.size ((w.alloc (.cells #[] 38)).alloc (.cells #[] 38)) (.slice (some ⟨w.heap.size + 1, 0, none⟩) 0 0) [] := by
      have := asks0 (w.alloc (.cells #[] 38))
      simp only [sz_allocK] at this
      exact this.base (by omega)
    exact ⟨0, [], [], Nat.zero_le _, rfl, by show _ ∧ _; simp [againP, goneP], by show _ ∧ _; simp, HST.out _ (b1.trans (b2.mono (by omega))) _ _ ⟨r1, r2, AsksAt.nil _ _, .inr (.inr (by simp [Value.ownBlock])), .inr (.inl rfl), .inr (.inl rfl)⟩⟩
  case round =>
    obtain ⟨k, A, G, hk, rfl, HS, HN, HR⟩ := hrel
    obtain ⟨c0, c1, c3, c4⟩ := HF.out wr _ HR.out.obj
    by_cases hlt : k < q
    · have hlt' : (k : Int) < (q : Int) := by omega
      obtain ⟨ga, rfl⟩ := slice_some HR.out.obj.all (by omega)
      obtain ⟨gd, rfl⟩ := slice_some HR.out.obj.dn (by omega)
      obtain ⟨⟨x, b⟩, hpk⟩ : ∃ p, P[k]? = some p := ⟨_, List.getElem?_eq_getElem (by rw [← HQ.out]; exact hlt)⟩
      have HPK : Hid (P[k]? = some (x, b)) := hpk
      have HPA : Hid ((partP (tickP m now) k P)[k]? = some (x, b)) := partP_at _ hpk
      have HSUC : Hid (partP (tickP m now) (k + 1) P = (partP (tickP m now) k P).set k (tickP m now (x, b))) := partP_succ _ hpk
      obtain ⟨cv, kd, hck, fzd⟩ := HR.out.obj.dn.cell k hlt
      unfold boolsP at hck
      rw [List.getElem?_map, HPA.out] at hck
      obtain rfl : Value.bool b = cv := by simpa using hck
      have HCELL : Hid (∀ W P' y (c : Bool), RwO B W r m (.slice (some ⟨ga, 0, none⟩) q ca) (.slice (some ⟨gd, 0, none⟩) q cd) P' → P'[k]? = some (y, c) → ∃ cur ty, W.heap[ga]? = some (.cells cur ty (0, 0)) ∧ ∀ j, j < 17 → cur[k * 17 + j]? = (askV y)[j]?) := fun W P' y c ho hy => by
        obtain ⟨g1, off1, cur1, ty1, fr1, x1, e1, hg1, hcc1, hx1⟩ := ho.all.sl.at k hlt
        obtain ⟨rfl, rfl⟩ : ga = g1 ∧ 0 = off1 := by simpa using e1
        rw [List.getElem?_map, hy] at hx1
        obtain rfl : y = x1 := by simpa using hx1
        have hfr : fr1 = (0, 0) := by
          obtain ⟨_, ⟨q1, _⟩ | ⟨g', cap', cur', q1, _, hg', _⟩⟩ := ho.all
          · simp at q1
          · have q2 : ga = g' := by simp only [Value.slice.injEq, Option.some.injEq, Addr.mk.injEq] at q1; exact q1.1.1
            subst q2
            rw [hg1] at hg'
            simp only [Option.some.injEq, Obj.cells.injEq] at hg'
            exact hg'.2.2
        subst hfr
        refine ⟨cur1, ty1, hg1, fun j hj => ?_⟩
        have := hcc1 j hj
        rw [Nat.zero_add] at this
        exact this
      obtain ⟨d0, d9⟩ := HSN.out _ (List.mem_of_getElem? hpk)
      have z2 : decide ((k : Int) < (q : Int)) = true := decide_eq_true hlt'
      cases b with
      | true =>
        clear hpk hck
        go_wp2_with fail
        go_quiet (fail)
        have RQ : Hid _ := HR.out.below (below_drewW (Below.refl _ _) nq)
        go_wp2_with fail
        go_roundw
        case rel =>
          obtain ⟨e1, e2⟩ := HS.out
          obtain ⟨n1, n2⟩ := HN.out
          refine ⟨k + 1, A, G, by omega, by go_num, ⟨by rw [againP_take HPK.out, e1]; simp, by rw [goneP_take HPK.out, e2]; simp⟩, ⟨by omega, by omega⟩, ?_⟩
          show RtS _ _ _ _ _ _ _ _ _ _ _ _
          rw [HSUC.out, show tickP m now (x, true) = (x, true) by unfold tickP; rw [if_pos (.inl rfl)], set_same HPA.out]
          exact RQ.out
        case measure => simp [intOf]; omega
      | false =>
        obtain ⟨cur, ty, hcur, hcc⟩ := HCELL.out wr _ x false HR.out.obj HPA.out
        have f3 := (askf_of hcur hcc).c3
        have f4 := (askf_of hcur hcc).c4
        obtain ⟨xs, hxs⟩ : ∃ xs, xs = x.sent := ⟨_, rfl⟩
        obtain ⟨xd, hxd⟩ : ∃ xd, xd = x.due := ⟨_, rfl⟩
        have HXS : Hid (xs = x.sent ∧ xd = x.due) := ⟨hxs, hxd⟩
        rw [← hxs] at f3
        rw [← hxd] at f4
        dsimp only at d9 d0
        rw [← hxs] at d9 d0
        have hw1' : IntKind.i64.wrap (xs + 1) = xs + 1 := by rw [IntKind.wrap_i64]; omega
        have hw2' : IntKind.i64.wrap (cl + ti) = cl + ti := by obtain ⟨b1, b2, b3, b4⟩ := HCB.out; rw [IntKind.wrap_i64]; omega
        clear hpk hck hcur hcc hxs hxd d9 d0
        by_cases hdue : xd > cl
        · have p1' : decide (xd > cl) = true := decide_eq_true hdue
          have HD : Hid (dueW now x = false) := by
            show _ = _
            rw [HDU.out, ← HXS.out.2]
            simpa using hdue
          go_wp2_with fail
          go_quiet (first | (go_at_call 23; exact Calls.quiet_of_same (HC.out _)))
          have RQ : Hid _ := HR.out.below (below_drewW (Below.refl _ _) nq)
          go_wp2_with fail
          go_roundw
          case rel =>
            obtain ⟨e1, e2⟩ := HS.out
            obtain ⟨n1, n2⟩ := HN.out
            refine ⟨k + 1, A, G, by omega, by go_num, ⟨by rw [againP_take HPK.out, e1]; simp [HD.out], by rw [goneP_take HPK.out, e2]; simp [HD.out]⟩, ⟨by omega, by omega⟩, ?_⟩
            show RtS _ _ _ _ _ _ _ _ _ _ _ _
            rw [HSUC.out, show tickP m now (x, false) = (x, false) by unfold tickP; rw [if_pos (.inr HD.out)], set_same HPA.out]
            exact RQ.out
          case measure => simp [intOf]; omega
        · have p1' : decide (xd > cl) = false := decide_eq_false hdue
          have HD : Hid (dueW now x = true) := by
            show _ = _
            rw [HDU.out, ← HXS.out.2]
            simpa using hdue
          go_wp2_with fail
          go_quiet (first | (go_at_call 23; exact Calls.quiet_of_same (HC.out _)))
          obtain ⟨w1, hw1⟩ : ∃ w1, w1 = wr.drewN nq := ⟨_, rfl⟩
          have RQ : Hid (RtS B w w1 r m (.slice (some ⟨ga, 0, none⟩) q ca) (.slice (some ⟨gd, 0, none⟩) q cd) u6 u7 A G (partP (tickP m now) k P)) := by rw [hw1]; exact HR.out.below (below_drewW (Below.refl _ _) nq)
          rw [← hw1]
          clear hw1 c0 c1 c3 c4 kd fzd f3 f4 HR
          obtain ⟨c0, c1, c3, c4⟩ := HF.out w1 _ RQ.out.obj
          obtain ⟨cur, ty, hcur, hcc⟩ := HCELL.out w1 _ x false RQ.out.obj HPA.out
          have f3 := (askf_of hcur hcc).c3
          rw [← HXS.out.1] at f3
          obtain ⟨cv, kd, hck, fzd⟩ := RQ.out.obj.dn.cell k hlt
          unfold boolsP at hck
          rw [List.getElem?_map, HPA.out] at hck
          obtain rfl : Value.bool false = cv := by simpa using hck
          clear hcur hcc hck
          by_cases hmo : xs > tr
          · have HM : Hid (moreW m x = false) := by
              show _ = _
              rw [HMO.out, ← HXS.out.1]
              simpa using hmo
            go_wp2_with fail
            go_region
            obtain ⟨w2, hw2⟩ : ∃ w2, w2 = w1.drew := ⟨_, rfl⟩
            have R2 : Hid (RtS B w w2 r m (.slice (some ⟨ga, 0, none⟩) q ca) (.slice (some ⟨gd, 0, none⟩) q cd) u6 u7 A G (partP (tickP m now) k P)) := by rw [hw2]; exact RQ.out.below (Below.refl _ _).drew
            rw [← hw2]
            clear hw2 c0 c1 c3 c4 kd fzd f3 RQ
            obtain ⟨c0, c1, c3, c4⟩ := HF.out w2 _ R2.out.obj
            obtain ⟨cv, kd, hck, fzd⟩ := R2.out.obj.dn.cell k hlt
            unfold boolsP at hck
            rw [List.getElem?_map, HPA.out] at hck
            obtain rfl : Value.bool false = cv := by simpa using hck
            obtain ⟨o1, o2⟩ := R2.out.obj.done HPA.out true
            have R3 : Hid _ := R2.out.obj' o1 o2
            obtain ⟨w3, hw3⟩ : ∃ w3, w3 = w2.setCell ⟨gd, k, none⟩ (.bool true) := ⟨_, rfl⟩
            rw [← hw3] at R3
            have HW3 : Hid (w3 = w2.setCell ⟨gd, k, none⟩ (.bool true)) := hw3
            obtain ⟨cur, ty, hcur, hcc⟩ := HCELL.out w3 _ x true R3.out.obj (by rw [List.getElem?_set_self (by rw [partP_len, ← HQ.out]; exact hlt)])
            have LD : (loadVar 38 ⟨ga, k * 17, none⟩).run Try.prog w3 = .ok (.agg (askV x)) w3 := ldK_row hcur hcc
            have d0 := (HF.out w3 _ R3.out.obj).1
            clear hck o1 o2 hw3 hcur hcc
            have HSZ : w3.heap.size = w2.heap.size := by rw [HW3.out]; simp [World.setCell]
            rw [HW3.out] at d0 LD
            obtain ⟨w4, hw4⟩ : ∃ w4, w4 = w3.alloc (.cells (askV x) 38) := ⟨_, rfl⟩
            have bw4 : Below w3.heap.size w3 w4 := by rw [hw4]; exact (Below.refl _ _).alloc (Nat.le_refl _) _
            have Rw4 : Hid _ := R3.out.below bw4
            have Nw4 : w4.heap[w3.heap.size]? = some (.cells (askV x) 38 (0, 0)) := by rw [hw4]; exact heap_new _ _ _ rfl
            have HWw4 : Hid (w4 = w3.alloc (.cells (askV x) 38)) := hw4
            rw [HSZ] at Nw4
            clear hw4 bw4 HSZ
            go_wp2_with (first
              | ((with_reducible refine wl_glK _ rfl ?_); refine wl_loadK rfl _ rfl ga (k * 17) rfl x LD ?_)
              | ((with_reducible refine wl_gbK _ rfl ?_); refine wl_build1K rfl _ rfl x rfl ?_; try rw [sz_allocK])
              | (at_builtin; refine of_stopT ?_))
            unfold StopT
            rw [← HW3.out, ← HWw4.out]
            refine wl_appK rfl _ _ rfl w.heap.size u7 G x rfl Rw4.out.rows.b w2.heap.size 1 rfl Nw4 (by have := HN.out; omega) Rw4.out.frm.kept.size ?_
            intro v' w5 hown hgr hq3
            have Rw5 : Hid (RtS B w w5 r m (.slice (some ⟨ga, 0, none⟩) q ca) (.slice (some ⟨gd, 0, none⟩) q cd) u6 v' A (G ++ [x]) ((partP (tickP m now) k P).set k (x, true))) := Rw4.out.grow (Rw4.out.rows.app2 hown hgr hq3) hgr Rw4.out.rows.b
            clear hown hgr hq3 Nw4
            simp only [Act.put, List.setIfInBounds_toArray, List.set_cons_succ, List.set_cons_zero]
            go_wp2_with fail
            go_roundw
            case rel =>
              obtain ⟨e1, e2⟩ := HS.out
              obtain ⟨n1, n2⟩ := HN.out
              refine ⟨k + 1, A, G ++ [x], by omega, by go_num, ⟨by rw [againP_take HPK.out, e1]; simp [HD.out, HM.out], by rw [goneP_take HPK.out, e2]; simp [HD.out, HM.out]⟩, ⟨by omega, by rw [List.length_append]; simp; omega⟩, ?_⟩
              show RtS _ _ _ _ _ _ _ _ _ _ _ _
              rw [HSUC.out, show tickP m now (x, false) = (x, true) by unfold tickP; rw [if_neg (by simp [HD.out]), if_neg (by simp [HM.out])]]
              exact Rw5.out
            case measure => simp [intOf]; omega
          · have HM : Hid (moreW m x = true) := by
              show _ = _
              rw [HMO.out, ← HXS.out.1]
              simpa using hmo
            go_wp2_with fail
            go_region
            obtain ⟨w2, hw2⟩ : ∃ w2, w2 = w1.drew := ⟨_, rfl⟩
            have R2 : Hid (RtS B w w2 r m (.slice (some ⟨ga, 0, none⟩) q ca) (.slice (some ⟨gd, 0, none⟩) q cd) u6 u7 A G (partP (tickP m now) k P)) := by rw [hw2]; exact RQ.out.below (Below.refl _ _).drew
            rw [← hw2]
            clear hw2 c0 c1 c3 c4 kd fzd f3 RQ
            obtain ⟨c0, c1, c3, c4⟩ := HF.out w2 _ R2.out.obj
            obtain ⟨cur, ty, hcur, hcc⟩ := HCELL.out w2 _ x false R2.out.obj HPA.out
            have f3 := (askf_of hcur hcc).c3
            rw [← HXS.out.1] at f3
            have z3 : w2.frozen? ⟨ga, k * 17 + 15, none⟩ = false := tc_frozen hcur rfl
            clear hcur hcc
            go_wp2_with fail
            go_region
            obtain ⟨x1, hx1⟩ : ∃ x1 : AskM, x1 = { x with sent := xs + 1 } := ⟨_, rfl⟩
            obtain ⟨y, hy⟩ : ∃ y, y = askW m now x := ⟨_, rfl⟩
            have HY : Hid (y = askW m now x) := hy
            have e15 : (askV x).setIfInBounds 15 (.int .i64 (xs + 1)) = askV x1 := by rw [hx1]; rfl
            have e16 : (askV x1).setIfInBounds 16 (.int .i64 (cl + ti)) = askV y := by rw [hy, HAS.out, hx1, HXS.out.1]; rfl
            obtain ⟨o1, o2⟩ := R2.out.obj.setA HPA.out (j := 15) (by decide) e15
            have R3a : Hid _ := R2.out.obj' o1 o2
            obtain ⟨w3, hw3⟩ : ∃ w3, w3 = (w2.setCell ⟨ga, k * 17 + 15, none⟩ (.int .i64 (xs + 1))).drew := ⟨_, rfl⟩
            have R3 : Hid (RtS B w w3 r m (.slice (some ⟨ga, 0, none⟩) q ca) (.slice (some ⟨gd, 0, none⟩) q cd) u6 u7 A G ((partP (tickP m now) k P).set k (x1, false))) := by rw [hw3]; exact R3a.out.below (Below.refl _ _).drew
            have hlp : k < (partP (tickP m now) k P).length := by rw [partP_len, ← HQ.out]; exact hlt
            rw [← hw3]
            clear hw3 o1 o2 R3a c0 c1 c3 c4 f3 z3 R2 hx1 hy e15
            have R4 : Hid (RtS B w w3.drew r m (.slice (some ⟨ga, 0, none⟩) q ca) (.slice (some ⟨gd, 0, none⟩) q cd) u6 u7 A G ((partP (tickP m now) k P).set k (x1, false))) := R3.out.below (Below.refl _ _).drew
            obtain ⟨c0, c1, c3, c4⟩ := HF.out w3.drew _ R4.out.obj
            obtain ⟨cur, ty, hcur, hcc⟩ := HCELL.out w3.drew _ x1 false R4.out.obj (by rw [List.getElem?_set_self hlp])
            have f4 := (askf_of hcur hcc).c4
            have z4 : w3.drew.frozen? ⟨ga, k * 17 + 16, none⟩ = false := tc_frozen hcur rfl
            obtain ⟨o1, o2⟩ := R4.out.obj.setA (i := k) (x := x1) (b := false) (by rw [List.getElem?_set_self hlp]) (j := 16) (by decide) e16
            have R5a : Hid _ := R4.out.obj' o1 o2
            rw [List.set_set] at R5a
            obtain ⟨w5, hw5⟩ : ∃ w5, w5 = (w3.setCell ⟨ga, k * 17 + 16, none⟩ (.int .i64 (cl + ti))).drew := ⟨_, rfl⟩
            have R5 : Hid (RtS B w w5 r m (.slice (some ⟨ga, 0, none⟩) q ca) (.slice (some ⟨gd, 0, none⟩) q cd) u6 u7 A G ((partP (tickP m now) k P).set k (y, false))) := by rw [hw5]; exact R5a.out
            have HW5 : Hid (w5 = (w3.setCell ⟨ga, k * 17 + 16, none⟩ (.int .i64 (cl + ti))).drew) := hw5
            obtain ⟨cur, ty, hcur5, hcc5⟩ := HCELL.out w5 _ y false R5.out.obj (by rw [List.getElem?_set_self hlp])
            have LD : (loadVar 38 ⟨ga, k * 17, none⟩).run Try.prog w5 = .ok (.agg (askV y)) w5 := ldK_row hcur5 hcc5
            have d0 := (HF.out w5 _ R5.out.obj).1
            have HCW := HC.out w3.drew
            clear o1 o2 R5a hw5 hcur hcc hcur5 hcc5 R3 R4 e16 hlp
            go_wp2_with fail
            have mixed : Try.prog.follows Departure.mixedOrders = true := by kernel_rfl
            go_region_law_o (refine step_call rfl 23 #[.tmp 90] (by intro b w; have hf := Try.func23; simp [go_sem]) #[.int .i64 now] (by simp [Act.eval, Act.put]) _ HCW (by rintro e w' ⟨h, _⟩; exact ⟨_, h⟩) ?_; rintro u0 w9 ⟨hu0, hb9⟩; obtain rfl : u0 = Value.int .i64 cl := (by simpa using hu0); subst hb9; clear hu0)
            all_goals
              rw [← HW5.out]
              obtain ⟨w6, hw6⟩ : ∃ w6, w6 = w5.alloc (.cells (askV y) 38) := ⟨_, rfl⟩
              have bw6 : Below w5.heap.size w5 w6 := by rw [hw6]; exact (Below.refl _ _).alloc (Nat.le_refl _) _
              have Rw6 : Hid _ := R5.out.below bw6
              have Nw6 : w6.heap[w5.heap.size]? = some (.cells (askV y) 38 (0, 0)) := by rw [hw6]; exact heap_new _ _ _ rfl
              have HWw6 : Hid (w6 = w5.alloc (.cells (askV y) 38)) := hw6
              clear hw6 bw6
              go_wp2_with (first
                | ((with_reducible refine wl_glK _ rfl ?_); refine wl_loadK rfl _ rfl ga (k * 17) rfl y LD ?_)
                | ((with_reducible refine wl_gbK _ rfl ?_); refine wl_build1K rfl _ rfl y rfl ?_; try rw [sz_allocK])
                | (at_builtin; refine of_stopT ?_))
              unfold StopT
              rw [← HWw6.out]
              refine wl_appK rfl _ _ rfl w.heap.size u6 A y rfl Rw6.out.rows.a w5.heap.size 1 rfl Nw6 (by have := HN.out; omega) Rw6.out.frm.kept.size ?_
              intro v' w7 hown hgr hq3
              have Rw7 : Hid (RtS B w w7 r m (.slice (some ⟨ga, 0, none⟩) q ca) (.slice (some ⟨gd, 0, none⟩) q cd) v' u7 (A ++ [y]) G ((partP (tickP m now) k P).set k (y, false))) := Rw6.out.grow (Rw6.out.rows.app1 hown hgr hq3) hgr Rw6.out.rows.a
              clear hown hgr hq3 Nw6
              simp only [Act.put, List.setIfInBounds_toArray, List.set_cons_succ, List.set_cons_zero]
              go_wp2_with fail
              go_roundw
              case rel =>
                obtain ⟨e1, e2⟩ := HS.out
                obtain ⟨n1, n2⟩ := HN.out
                refine ⟨k + 1, A ++ [y], G, by omega, by go_num, ⟨by rw [againP_take HPK.out, e1]; simp [HD.out, HM.out, HY.out], by rw [goneP_take HPK.out, e2]; simp [HD.out, HM.out]⟩, ⟨by rw [List.length_append]; simp; omega, by omega⟩, ?_⟩
                show RtS _ _ _ _ _ _ _ _ _ _ _ _
                rw [HSUC.out, show tickP m now (x, false) = (y, false) by unfold tickP; rw [if_neg (by simp [HD.out]), if_pos HM.out, HY.out]]
                exact Rw7.out
              case measure => simp [intOf]; omega
    · have hlt' : ¬ (k : Int) < (q : Int) := by omega
      have HZ : Hid _ := HE.out wr u6 u7 (by
        have h1 := HR.out
        obtain ⟨e1, e2⟩ := HS.out
        rw [partP_all _ (by rw [← HQ.out]; omega), e1, e2, List.take_of_length_le (by rw [← HQ.out]; omega)] at h1
        exact h1)
      obtain ⟨o6, n6, e6, _⟩ := HR.out.rows.a.slice
      obtain ⟨o7, n7, e7, _⟩ := HR.out.rows.b.slice
      generalize A.length = q6 at e6
      generalize G.length = q7 at e7
      clear HR HE
      subst e6
      subst e7
      go_wp2_with fail
      go_ret2
      exact ⟨_, _, rfl, HZ.out⟩
end Go.Proofs.Ytagogbodkbbikaa
