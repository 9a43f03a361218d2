import Derived.Test.YtbigifmfbibgoaaJ1
import Derived.BigRegion
import Derived.BigQuiet
namespace Go.Proofs.Ytbigifmfbibgoaa
open Go Go.RowKit
set_option maxRecDepth 20000

/-- An empty slice of structs. -/
theorem wl_build0G {ops : Array Oper} {rest : List Oper} {o : Oper} {a : Act} {w : World} {Q : Exit → Act → World → Prop} {E : El} (H : E.Ok) (hg : o.guard = none) (ho : o.op = .buildSlice E.slice 0 #[])
    (h : wpList Try.prog ops Q rest (a.put o.dst (.slice (some ⟨w.heap.size, 0, none⟩) 0 0)) (w.alloc (.cells #[] E.elem))) : wpList Try.prog ops Q (o :: rest) a w := by
  obtain ⟨ie, hie, hz, hs, _⟩ := H.info
  refine wpList_plain hg fun _ hK => ?_
  unfold Oper.wp execOp
  have hrun : (Instr.buildSlice E.slice 0 #[]).run Try.prog w = .ok (.slice (some ⟨w.heap.size, 0, none⟩) 0 0) (w.alloc (.cells #[] E.elem)) := by
    have h0 : Array.range 0 = #[] := Array.eq_empty_of_size_eq_zero (by simp)
    simp [Instr.buildSlice, run_underlying H.hs, sizeOf, typeInfo, hie, Instr.fill, newRow, h0]
  simp only [ho, Sem.run_bind, List.map_toArray, List.map_nil, hrun, Result.andThen_ok]
  exact hK _ _ h
theorem own0G (w : World) (e : TypeId) (s : Nat) : (w.alloc (.cells #[] e)).ownsRow w.heap.size e s (.slice (some ⟨w.heap.size, 0, none⟩) 0 0) 0 [] := ⟨by simp, .inr ⟨_, 0, #[], rfl, Nat.le_refl _, heap_new _ _ _ rfl, Nat.le_refl _, Nat.zero_le _, by simp, by simp⟩⟩
theorem own_tyG {e : TypeId} {s : Nat} {B : Nat} {w : World} {v : Value} {m : Nat} {xs : List Value} (h : w.ownsRow B e s v m xs) {g : Nat} {cs : Array Value} {t : TypeId} {fr : Nat × Nat} (hg : w.heap[g]? = some (.cells cs t fr)) (ht : t ≠ e) : v.ownBlock ≠ some g := by
  intro q
  obtain ⟨_, ⟨rfl, _⟩ | ⟨g', cap, cur, rfl, _, h1, _⟩⟩ := h
  · cases q
  · simp only [Value.ownBlock, Option.some.injEq] at q
    subst q
    rw [hg] at h1
    simp only [Option.some.injEq, Obj.cells.injEq] at h1
    exact ht h1.2.1
theorem filtG_yes {α : Type} {l : List α} {k : Nat} {x : α} {q : α → Bool} (h : l[k]? = some x) (hq : q x = true) : (l.take (k + 1)).filter q = (l.take k).filter q ++ [x] := by
  rw [List.take_add_one, h, List.filter_append]
  simp [hq]
theorem filtG_no {α : Type} {l : List α} {k : Nat} {x : α} {q : α → Bool} (h : l[k]? = some x) (hq : q x = false) : (l.take (k + 1)).filter q = (l.take k).filter q := by
  rw [List.take_add_one, h, List.filter_append]
  simp [hq]
theorem filtG_len {α : Type} {l : List α} (k : Nat) (q : α → Bool) : ((l.take k).filter q).length ≤ k := Nat.le_trans (List.length_filter_le _ _) (by rw [List.length_take]; omega)

/-! The reference's hold: its items one by one. -/
structure HiM where
  ep : Int
  of_ : Int
def onE (e : Int) (x : HiM) : Bool := x.ep == e
def cnt2 (F : List HiM) : Nat × Int := (F.length, (F.getLast?.map (·.of_)).getD 0)
theorem cnt2_more (F : List HiM) (x : HiM) : cnt2 (F ++ [x]) = ((cnt2 F).1 + 1, x.of_) := by
  unfold cnt2
  simp
def hiV (x : HiM) : Array Value := #[.int .i64 x.ep, .int .i64 x.of_]
def HiE : El := ⟨52, 27, 2, 16, #[.int .i64 0, .int .i64 0]⟩
theorem HiOk : HiE.Ok := ⟨Try.underlying27, ⟨_, Try.underlying52, rfl⟩, by kernel_rfl, rfl, by decide, by decide, by decide⟩
theorem hi_fits (x : HiM) : Fits HiE (hiV x) := ⟨rfl, by simp [hiV, Value.oneCell']⟩
def ItsAt (B : Nat) (w : World) (v : Value) (C : List HiM) : Prop := w.ownsRow B 52 2 v C.length (gcells hiV C)
theorem ItsAt.sl {B : Nat} {w : World} {v : Value} {C : List HiM} (h : ItsAt B w v C) : GSl HiE hiV w v C := gsl_of (E := HiE) h fun _ _ => rfl
theorem ItsAt.lt {B : Nat} {w : World} {v : Value} {C : List HiM} (h : ItsAt B w v C) : ∀ k, v.ownBlock = some k → B ≤ k ∧ k < w.heap.size := World.ownsRow.lt h
theorem ItsAt.kept {X : Nat → Prop} {B : Nat} {w w' : World} {v : Value} {C : List HiM} (h : ItsAt B w v C) (hk : Kept X w w') (hX : ∀ k, v.ownBlock = some k → ¬ X k) : ItsAt B w' v C := hk.own h hX
theorem ItsAt.below {B : Nat} {w w' : World} {v : Value} {C : List HiM} (h : ItsAt B w v C) (hb : Below w.heap.size w w') : ItsAt B w' v C := gown_below h hb
theorem ItsAt.slice {B : Nat} {w : World} {v : Value} {C : List HiM} (h : ItsAt B w v C) : ∃ o cap, v = .slice o C.length cap ∧ C.length ≤ cap ∧ cap ≤ maxLen := h.sl.slice
def rhV (h : HoldM) (v : Value) : Array Value := #[.int .i64 h.life, .int .i64 h.floor, .int .i64 h.top, .int .i64 h.use, .int .i64 h.said, v]
structure RHoV (B : Nat) (w : World) (r : Nat) (h : HoldM) (v : Value) (L : List HiM) : Prop where
  blk : w.heap[r]? = some (.cells (rhV h v) 29 (0, 0))
  own : ItsAt B w v L
  cnt : ∀ e, h.cnt e = cnt2 (L.filter (onE e))
  hB : B ≤ r
def footRH (r : Nat) (v : Value) (k : Nat) : Prop := k = r ∨ v.ownBlock = some k
theorem RHoV.foot_in {B : Nat} {w : World} {r : Nat} {h : HoldM} {v : Value} {L : List HiM} (hV : RHoV B w r h v L) : ∀ k, footRH r v k → B ≤ k ∧ k < w.heap.size := by
  rintro k (rfl | e)
  · exact ⟨hV.hB, (Array.getElem?_eq_some_iff.1 hV.blk).1⟩
  · exact hV.own.lt k e
theorem RHoV.kept {X : Nat → Prop} {B : Nat} {w w' : World} {r : Nat} {h : HoldM} {v : Value} {L : List HiM} (hV : RHoV B w r h v L) (hk : Kept X w w') (hX : ∀ k, footRH r v k → ¬ X k) : RHoV B w' r h v L :=
  ⟨hk.heap hV.blk (hX _ (.inl rfl)), hV.own.kept hk fun k e => hX k (.inr e), hV.cnt, hV.hB⟩
theorem RHoV.below {B : Nat} {w w' : World} {r : Nat} {h : HoldM} {v : Value} {L : List HiM} (hV : RHoV B w r h v L) (hb : Below w.heap.size w w') : RHoV B w' r h v L := hV.kept (X := fun _ => False) (Kept.of_below hb) fun _ _ e => e
theorem RHoV.hw {B : Nat} {w : World} {r : Nat} {h : HoldM} {v : Value} {L : List HiM} (hV : RHoV B w r h v L) : B ≤ w.heap.size := by have := hV.foot_in r (.inl rfl); omega
structure RHoF (w : World) (r : Nat) (h : HoldM) (v : Value) : Prop where
  c0 : w.cell? ⟨r, 0, none⟩ = some (.int .i64 h.life)
  c1 : w.cell? ⟨r, 1, none⟩ = some (.int .i64 h.floor)
  c2 : w.cell? ⟨r, 2, none⟩ = some (.int .i64 h.top)
  c3 : w.cell? ⟨r, 3, none⟩ = some (.int .i64 h.use)
  c4 : w.cell? ⟨r, 4, none⟩ = some (.int .i64 h.said)
  c5 : w.cell? ⟨r, 5, none⟩ = some v
  fz : ∀ k, w.frozen? ⟨r, k, none⟩ = false
theorem rhof_of {w : World} {r : Nat} {h : HoldM} {v : Value} {t : TypeId} (hg : w.heap[r]? = some (.cells (rhV h v) t (0, 0))) : RHoF w r h v :=
  ⟨by rw [cell_of_row w r _ _ _ _ hg]; rfl, by rw [cell_of_row w r _ _ _ _ hg]; rfl, by rw [cell_of_row w r _ _ _ _ hg]; rfl, by rw [cell_of_row w r _ _ _ _ hg]; rfl, by rw [cell_of_row w r _ _ _ _ hg]; rfl, by rw [cell_of_row w r _ _ _ _ hg]; rfl, fun k => by simp [World.frozen?, hg]⟩
theorem RHoV.f {B : Nat} {w : World} {r : Nat} {h : HoldM} {v : Value} {L : List HiM} (hV : RHoV B w r h v L) : RHoF w r h v := rhof_of hV.blk
def RHoTo (B : Nat) (w w' : World) (r : Nat) (h' : HoldM) (v : Value) (N : Nat) : Prop := ∃ u L, RHoV B w' r h' u L ∧ Frm (footRH r v) (footRH r u) w w' ∧ L.length ≤ N
theorem RHoV.stay {B : Nat} {w w' : World} {r : Nat} {h : HoldM} {v : Value} {L : List HiM} (hV : RHoV B w r h v L) (hb : Below w.heap.size w w') {N : Nat} (hN : L.length ≤ N) : RHoTo B w w' r h v N := ⟨v, L, hV.below hb, Frm.of_below hb, hN⟩
theorem RHoTo.pre {B : Nat} {w w1 w2 : World} {r : Nat} {h' : HoldM} {v : Value} {N : Nat} (hb : Below w.heap.size w w1) (h : RHoTo B w1 w2 r h' v N) : RHoTo B w w2 r h' v N := by
  obtain ⟨u, L, h1, h2, h3⟩ := h
  exact ⟨u, L, h1, h2.pre hb, h3⟩
theorem RHoTo.trans {B : Nat} {w w1 w2 : World} {r : Nat} {h' h'' : HoldM} {v : Value} {N N' : Nat} (h : RHoTo B w w1 r h' v N) (hn : ∀ u L, RHoV B w1 r h' u L → L.length ≤ N → RHoTo B w1 w2 r h'' u N') : RHoTo B w w2 r h'' v N' := by
  obtain ⟨u, L, h1, h2, h3⟩ := h
  obtain ⟨x, L', h4, h5, h6⟩ := hn u L h1 h3
  exact ⟨x, L', h4, h2.trans h5, h6⟩
theorem RHoTo.add {B : Nat} {w w1 w2 : World} {r : Nat} {h' : HoldM} {v : Value} {N : Nat} (h : RHoTo B w w1 r h' v N) (hb : Below w1.heap.size w1 w2) : RHoTo B w w2 r h' v N := h.trans fun _ _ e hl => e.stay hb hl
/-- A field is set. -/
theorem RHoV.setC {B : Nat} {w : World} {r : Nat} {h : HoldM} {v : Value} {L : List HiM} (hV : RHoV B w r h v L) (k : Nat) (x : Value) (h' : HoldM) (hs : (rhV h v).setIfInBounds k x = rhV h' v) (hc : h'.cnt = h.cnt) : RHoV B (w.setCell ⟨r, k, none⟩ x) r h' v L ∧ Frm (footRH r v) (footRH r v) w (w.setCell ⟨r, k, none⟩ x) := by
  have hK2 : Kept (isB r) w (w.setCell ⟨r, k, none⟩ x) := ⟨rfl, rfl, rfl, by simp [World.setCell], fun k' _ e => heap_setCell_other w ⟨r, k, none⟩ k' _ e⟩
  refine ⟨⟨?_, hV.own.kept hK2 fun q e e' => by unfold isB at e'; subst e'; exact own_tyG hV.own hV.blk (by decide) e, fun e => by rw [hc]; exact hV.cnt e, hV.hB⟩, ⟨hK2.mono fun q _ e => .inl e, fun q e => .inl e⟩⟩
  rw [heap_setCell_same w r k _ _ _ hV.blk, hs]
/-- The row is put back. -/
theorem RHoV.put {B : Nat} {w w' : World} {r : Nat} {h h' : HoldM} {v u : Value} {L L' : List HiM} (hV : RHoV B w r h v L) (hk : Kept (rowX v) w w') (hu : ItsAt B w' u L') (ho : u.ownBlock = v.ownBlock ∨ ∀ k, u.ownBlock = some k → w.heap.size ≤ k) (hs : rhV h' u = rhV h u) (hc : ∀ e, h'.cnt e = cnt2 (L'.filter (onE e))) :
    RHoV B (w'.setCell ⟨r, 5, none⟩ u) r h' u L' ∧ Frm (footRH r v) (footRH r u) w (w'.setCell ⟨r, 5, none⟩ u) := by
  have hgx : ¬ rowX v r := own_tyG hV.own hV.blk (by decide)
  have hbk := hk.heap hV.blk hgx
  have hset : (w'.setCell ⟨r, 5, none⟩ u).heap[r]? = some (.cells (rhV h' u) 29 (0, 0)) := by
    rw [heap_setCell_same w' r 5 _ _ u hbk, hs]
    rfl
  have hK2 : Kept (isB r) w' (w'.setCell ⟨r, 5, none⟩ u) := ⟨rfl, rfl, rfl, by simp [World.setCell], fun k _ e => heap_setCell_other w' ⟨r, 5, none⟩ k _ e⟩
  refine ⟨⟨hset, hu.kept hK2 fun k e e' => by unfold isB at e'; subst e'; exact own_tyG hu hbk (by decide) e, hc, hV.hB⟩, ⟨(hk.mono (Y := footRH r v) fun k _ e => .inr e).trans hK2 fun k e => .inl (.inl e), fun k e => ?_⟩⟩
  rcases e with e | e
  · exact .inl (.inl e)
  · rcases ho with e' | e'
    · rw [e'] at e; exact .inl (.inr e)
    · exact .inr (e' k e)
/-- An item's fields. -/
structure HiF (w : World) (g off : Nat) (x : HiM) : Prop where
  c0 : w.cell? ⟨g, off, none⟩ = some (.int .i64 x.ep)
  c1 : w.cell? ⟨g, off + 1, none⟩ = some (.int .i64 x.of_)
theorem hif_of {w : World} {g off : Nat} {cur : Array Value} {ty : TypeId} {fr : Nat × Nat} {x : HiM} (hg : w.heap[g]? = some (.cells cur ty fr)) (hc : ∀ j, j < 2 → cur[off + j]? = (hiV x)[j]?) : HiF w g off x :=
  ⟨by rw [cell_of_row w g off cur ty fr hg]; exact hc 0 (by decide), by rw [cell_of_row w g (off + 1) cur ty fr hg]; exact hc 1 (by decide)⟩

set_option maxHeartbeats 4000000 in
theorem rcountH_any (B : Nat) (w : World) (r : Nat) (h : HoldM) (v : Value) (L : List HiM) (hV : RHoV B w r h v L) (hn : L.length ≤ 1000000) (e : Int) :
    Calls Try.prog 21 #[.pointer (some ⟨r, 0, none⟩), .int .i64 e] w fun x w' => x = .returned (.tuple #[.int .i64 ((h.cnt e).1 : Int), .int .i64 (h.cnt e).2]) ∧ w' = w := by
  have c5 := hV.f.c5
  obtain ⟨o, cap, hv, hc1, hc2⟩ := hV.own.slice
  have hgs := hV.own.sl
  rw [hv] at c5 hgs
  rw [hV.cnt e]
  obtain ⟨q, hq⟩ : ∃ q, q = L.length := ⟨_, rfl⟩
  rw [← hq] at c5 hgs hc1 hn
  have HL : Hid (GSl HiE hiV w (.slice o q cap) L) := hgs
  have HQ : Hid (q = L.length) := hq
  unfold maxLen at hc2
  clear hv hV hgs hq
  go_enter Try.func21, Try.ntmps21
  go_wp2_with fail
  go_loopw [6, 7, 8] (fun s6 s7 s8 wr => ∃ k : Nat, k ≤ q ∧ s8 = .int .i64 (k : Int) ∧ s6 = .int .i64 ((cnt2 ((L.take k).filter (onE e))).1 : Int) ∧ s7 = .int .i64 (cnt2 ((L.take k).filter (onE e))).2 ∧ wr = w) (fun _ _ s8 _ => q - (intOf s8).toNat)
  case atStart => exact ⟨0, Nat.zero_le _, rfl, by simp [cnt2], by simp [cnt2], rfl⟩
  case round =>
    obtain ⟨k, hk, rfl, rfl, rfl, rfl⟩ := hrel
    by_cases hlt : k < q
    · have hlt' : (k : Int) < (q : Int) := by omega
      obtain ⟨g', off, cur, ty, fr, x, rfl, hg, hcc, hxk⟩ := HL.out.at k hlt
      have RF := hif_of (off := off + k * 2) hg hcc
      have f0 := RF.c0
      have f1 := RF.c1
      have ML : (cnt2 ((L.take k).filter (onE e))).1 ≤ k := filtG_len (l := L) k (onE e)
      have HY : Hid (onE e x = true → cnt2 ((L.take (k + 1)).filter (onE e)) = ((cnt2 ((L.take k).filter (onE e))).1 + 1, x.of_)) := fun e => by rw [filtG_yes hxk e, cnt2_more]
      have HNo : Hid (onE e x = false → cnt2 ((L.take (k + 1)).filter (onE e)) = cnt2 ((L.take k).filter (onE e))) := fun e => by rw [filtG_no hxk e]
      have HO : Hid (onE e x = (x.ep == e)) := rfl
      obtain ⟨m, hm⟩ : ∃ m, m = (cnt2 ((L.take k).filter (onE e))).1 := ⟨_, rfl⟩
      obtain ⟨m2, hm2⟩ : ∃ m, m = (cnt2 ((L.take k).filter (onE e))).2 := ⟨_, rfl⟩
      obtain ⟨c', hc'⟩ : ∃ c', c' = cnt2 ((L.take (k + 1)).filter (onE e)) := ⟨_, rfl⟩
      have HM : Hid (c' = cnt2 ((L.take (k + 1)).filter (onE e))) := hc'
      have HNo2 : Hid (onE e x = false → c' = (m, m2)) := fun e => by rw [hc', hm, hm2, HNo.out e]
      rw [← hm, ← hc'] at HY
      rw [← hm] at ML ⊢
      rw [← hm2]
      obtain ⟨xs, hxs⟩ : ∃ xs, xs = x.ep := ⟨_, rfl⟩
      obtain ⟨xd, hxd⟩ : ∃ xd, xd = x.of_ := ⟨_, rfl⟩
      rw [← hxs] at f0 HO
      rw [← hxd] at f1 HY
      clear hm hm2 hc' hxs hxd RF hg hcc hxk HNo
      by_cases e1 : xs = e
      · have em : Hid (c' = (m + 1, xd)) := HY.out (by rw [HO.out]; simp [e1])
        subst e1
        go_wp2_with fail
        go_roundw
        case rel => exact ⟨k + 1, by omega, by go_num, by rw [← HM.out, em.out]; go_num, by rw [← HM.out, em.out], by trivial⟩
        case measure => simp [intOf]; omega
      · have em : Hid (c' = (m, m2)) := HNo2.out (by rw [HO.out]; simp [e1])
        have d1 : (xs == e) = false := by simpa using e1
        go_wp2_with fail
        go_roundw
        case rel => exact ⟨k + 1, by omega, by go_num, by rw [← HM.out, em.out], by rw [← HM.out, em.out], by trivial⟩
        case measure => simp [intOf]; omega
    · have hkn : k = q := by omega
      have hlt' : ¬ (k : Int) < (q : Int) := by omega
      have HZ : Hid (L.take k = L) := by show _ = _; rw [hkn, HQ.out, List.take_length]
      rw [HZ.out]
      clear hkn
      go_wp2_with fail
      go_ret2
      exact ⟨by simp, by trivial⟩
theorem rfullH_any (B : Nat) (w : World) (r : Nat) (h : HoldM) (v : Value) (L : List HiM) (hV : RHoV B w r h v L) (hn : L.length ≤ 1000000) (e : Int) :
    Calls Try.prog 27 #[.pointer (some ⟨r, 0, none⟩), .int .i64 e] w fun x w' => x = .returned (.bool (fullH h e)) ∧ w' = w := by
  have HC := rcountH_any B w r h v L hV hn e
  unfold fullH
  obtain ⟨m, hm⟩ : ∃ m, m = (h.cnt e).1 := ⟨_, rfl⟩
  obtain ⟨o, ho⟩ : ∃ o, o = (h.cnt e).2 := ⟨_, rfl⟩
  rw [← hm, ← ho] at HC ⊢
  clear hm ho hV hn
  by_cases h1 : 0 < m
  · have h1' : (m : Int) > 0 := by omega
    rw [decide_eq_true h1, Bool.true_and]
    go_enter Try.func27, Try.ntmps27
    go_wp2_with (go_at_call 21; refine HC.mono ?_; rintro e w1 ⟨rfl, h1⟩; subst h1)
    go_ret
    exact ⟨ret_bool (by by_cases h : (m : Int) = o <;> simp [h]), rfl⟩
  · have h1' : ¬ (m : Int) > 0 := by omega
    rw [decide_eq_false h1, Bool.false_and]
    go_enter Try.func27, Try.ntmps27
    go_wp2_with (go_at_call 21; refine HC.mono ?_; rintro e w1 ⟨rfl, h1⟩; subst h1)
    go_ret
    exact ⟨rfl, rfl⟩
theorem rlive_any (B : Nat) (w : World) (r : Nat) (h : HoldM) (v : Value) (L : List HiM) (hV : RHoV B w r h v L) (hb : 0 ≤ h.said ∧ h.said ≤ 9223372036854775807) (now lease : Int) :
    Calls Try.prog 19 #[.pointer (some ⟨r, 0, none⟩), .int .i64 now, .int .i64 lease] w fun x w' => x = .returned (.bool (liveH h now lease)) ∧ w' = w := by
  have c3 := hV.f.c3
  have c4 := hV.f.c4
  obtain ⟨b1, b2⟩ := hb
  unfold liveH
  obtain ⟨u, hu⟩ : ∃ u, u = h.use := ⟨_, rfl⟩
  obtain ⟨d, hd⟩ : ∃ d, d = h.said := ⟨_, rfl⟩
  rw [← hu] at c3 ⊢
  rw [← hd] at c4 b1 b2 ⊢
  clear hu hd hV
  obtain ⟨m, hm⟩ : ∃ m, m = max now 0 := ⟨_, rfl⟩
  obtain ⟨q, hq⟩ : ∃ q, q = min m 1099511627776 := ⟨_, rfl⟩
  rw [← hm, ← hq]
  have o1 : -9223372036854775808 ≤ q - d := by omega
  have o2 : q - d ≤ 9223372036854775807 := by omega
  have HM : Hid (m = max now 0) := hm
  have HQ : Hid (q = min m 1099511627776) := hq
  clear hm hq b1 b2
  by_cases h1 : 0 < u
  · have h1' : u > 0 := h1
    rw [decide_eq_true h1, Bool.true_and]
    clear h1
    go_enter Try.func19, Try.ntmps19
    go_wp2_with (first
      | (refine wl_maxI rfl (.tmp 7) _ rfl now 0 m rfl rfl HM.out ?_)
      | (refine wl_minI rfl (.tmp 8) _ rfl m 1099511627776 q rfl rfl HQ.out ?_))
    go_ret
    exact ⟨rfl, rfl⟩
  · have h1' : ¬ u > 0 := h1
    rw [decide_eq_false h1, Bool.false_and]
    clear h1
    go_enter Try.func19, Try.ntmps19
    go_wp2_with (first
      | (refine wl_maxI rfl (.tmp 7) _ rfl now 0 m rfl rfl HM.out ?_)
      | (refine wl_minI rfl (.tmp 8) _ rfl m 1099511627776 q rfl rfl HQ.out ?_))
    go_ret
    exact ⟨rfl, rfl⟩
end Go.Proofs.Ytbigifmfbibgoaa
namespace Go.Proofs.Ytbigifmfbibgoaa
open Go Go.RowKit
set_option maxRecDepth 20000

def keepE (f t : Int) (x : HiM) : Bool := x.ep == f || x.ep == t
theorem keep_filter (f t e : Int) (L : List HiM) : cnt2 ((L.filter (keepE f t)).filter (onE e)) = if e = f ∨ e = t then cnt2 (L.filter (onE e)) else (0, 0) := by
  rw [List.filter_filter]
  by_cases hc : e = f ∨ e = t
  · rw [if_pos hc]
    congr 1
    apply List.filter_congr
    intro x _
    unfold onE keepE
    by_cases hx : x.ep = e
    · rcases hc with h | h <;> simp [hx, h]
    · simp [hx]
  · rw [if_neg hc]
    have : L.filter (fun x => onE e x && keepE f t x) = [] := by
      rw [List.filter_eq_nil_iff]
      intro x _ hx
      unfold onE keepE at hx
      simp only [Bool.and_eq_true, Bool.or_eq_true, beq_iff_eq] at hx
      obtain ⟨rfl, h⟩ := hx
      exact hc h
    rw [this]
    rfl
set_option maxHeartbeats 16000000 in
theorem rforget_any (B : Nat) (w : World) (r : Nat) (h : HoldM) (v : Value) (L : List HiM) (hV : RHoV B w r h v L) (hn : L.length ≤ 900000) :
    Calls Try.prog 26 #[.pointer (some ⟨r, 0, none⟩)] w fun x w' => x = .returned (.tuple #[]) ∧ RHoTo B w w' r (forgetH h) v L.length := by
  obtain ⟨o, cap, hv, hc1, hc2⟩ := hV.own.slice
  obtain ⟨fl, hfl⟩ : ∃ fl, fl = h.floor := ⟨_, rfl⟩
  obtain ⟨tp, htp⟩ : ∃ tp, tp = h.top := ⟨_, rfl⟩
  obtain ⟨us, hus⟩ : ∃ us, us = h.use := ⟨_, rfl⟩
  have HF : Hid (∀ W, Below w.heap.size w W → W.cell? ⟨r, 1, none⟩ = some (.int .i64 fl) ∧ W.cell? ⟨r, 2, none⟩ = some (.int .i64 tp) ∧ W.cell? ⟨r, 5, none⟩ = some v ∧ W.frozen? ⟨r, 5, none⟩ = false ∧ GSl HiE hiV W v L) := by
    intro W hb
    rw [hfl, htp]
    exact ⟨(hV.below hb).f.c1, (hV.below hb).f.c2, (hV.below hb).f.c5, (hV.below hb).f.fz _, (hV.below hb).own.sl⟩
  have HX : Hid (∀ W u, Below w.heap.size w W → ItsAt w.heap.size W u (L.filter (keepE fl tp)) → RHoV B (W.setCell ⟨r, 5, none⟩ u) r { h with cnt := fun e => if e = h.floor ∨ e = h.top then h.cnt e else (0, 0) } u (L.filter (keepE fl tp)) ∧ Frm (footRH r v) (footRH r u) w (W.setCell ⟨r, 5, none⟩ u)) := by
    intro W u hb hu
    refine hV.put (h' := { h with cnt := fun e => if e = h.floor ∨ e = h.top then h.cnt e else (0, 0) }) (Kept.of_below hb) (gown_base hu hV.hw) (.inr fun k e => (hu.lt k e).1) rfl fun e => ?_
    rw [keep_filter, hfl, htp]
    dsimp only
    by_cases hc : e = h.floor ∨ e = h.top
    · rw [if_pos hc, if_pos hc]; exact hV.cnt e
    · rw [if_neg hc, if_neg hc]
  have HZ : Hid (∀ W u C, RHoV B W r { h with cnt := fun e => if e = h.floor ∨ e = h.top then h.cnt e else (0, 0) } u C → W.cell? ⟨r, 1, none⟩ = some (.int .i64 fl) ∧ W.cell? ⟨r, 2, none⟩ = some (.int .i64 tp) ∧ W.cell? ⟨r, 3, none⟩ = some (.int .i64 us) ∧ (∃ d, W.cell? ⟨r, 4, none⟩ = some (.int .i64 d)) ∧ ∀ k, W.frozen? ⟨r, k, none⟩ = false) := by
    intro W u C hW
    rw [hfl, htp, hus]
    exact ⟨hW.f.c1, hW.f.c2, hW.f.c3, ⟨_, hW.f.c4⟩, hW.f.fz⟩
  have HG1 : Hid ((us = fl ∨ us = tp) → forgetH h = { h with cnt := fun e => if e = h.floor ∨ e = h.top then h.cnt e else (0, 0) }) := by
    intro hc
    rw [hfl, htp, hus] at hc
    unfold forgetH
    rw [if_pos hc, if_pos hc]
  have HG2 : Hid (¬ (us = fl ∨ us = tp) → ∀ W u C, RHoV B W r { h with cnt := fun e => if e = h.floor ∨ e = h.top then h.cnt e else (0, 0) } u C → RHoV B ((W.setCell ⟨r, 3, none⟩ (.int .i64 0)).setCell ⟨r, 4, none⟩ (.int .i64 0)) r (forgetH h) u C ∧ Frm (footRH r u) (footRH r u) W ((W.setCell ⟨r, 3, none⟩ (.int .i64 0)).setCell ⟨r, 4, none⟩ (.int .i64 0))) := by
    intro hc W u C hW
    rw [hfl, htp, hus] at hc
    unfold forgetH
    rw [if_neg hc, if_neg hc]
    obtain ⟨h1, h2⟩ := hW.setC 3 (.int .i64 0) { h with cnt := fun e => if e = h.floor ∨ e = h.top then h.cnt e else (0, 0), use := 0 } rfl rfl
    obtain ⟨h3, h4⟩ := h1.setC 4 (.int .i64 0) { h with cnt := fun e => if e = h.floor ∨ e = h.top then h.cnt e else (0, 0), use := 0, said := 0 } rfl rfl
    exact ⟨h3, h2.trans h4⟩
  obtain ⟨h1, hh1⟩ : ∃ h1 : HoldM, h1 = { h with cnt := fun e => if e = h.floor ∨ e = h.top then h.cnt e else (0, 0) } := ⟨_, rfl⟩
  rw [← hh1] at HX HZ HG1 HG2
  obtain ⟨hf, hhf⟩ : ∃ hf, hf = forgetH h := ⟨_, rfl⟩
  rw [← hhf] at HG1 HG2 ⊢
  obtain ⟨q, hq⟩ : ∃ q, q = L.length := ⟨_, rfl⟩
  have HQ : Hid (q = L.length) := hq
  rw [← hq] at hv hn hc1 ⊢
  unfold maxLen at hc2
  clear hV hfl htp hus hh1 hhf hq
  subst hv
  go_enter Try.func26, Try.ntmps26
  go_wp2_with (refine wl_build0G (E := HiE) HiOk rfl rfl ?_)
  go_loopw [2, 3] (fun s2 s3 wr => ∃ (k : Nat) (T : List HiM), k ≤ q ∧ s3 = .int .i64 (k : Int) ∧ Hid (T = (L.take k).filter (keepE fl tp)) ∧ T.length ≤ k ∧ ItsAt w.heap.size wr s2 T ∧ Below w.heap.size w wr) (fun _ s3 _ => q - (intOf s3).toNat)
  case atStart => exact ⟨0, [], Nat.zero_le _, rfl, by show _ = _; simp, Nat.le_refl _, own0G _ _ _, (Below.refl _ _).alloc (Nat.le_refl _) _⟩
  case round =>
    obtain ⟨k, T, hk, rfl, HT, hTk, hown, hb⟩ := hrel
    have HO : Hid (ItsAt w.heap.size wr u2 T) := hown
    have HB : Hid (Below w.heap.size w wr) := hb
    obtain ⟨c1, c2, c5, fz5, hgs⟩ := HF.out wr hb
    obtain ⟨o3, cap3, e3, _, _⟩ := hown.slice
    obtain ⟨q3, hq3⟩ : ∃ q3, q3 = T.length := ⟨_, rfl⟩
    rw [← hq3] at e3
    clear hown hb hq3
    by_cases hlt : k < q
    · have hlt' : (k : Int) < (q : Int) := by omega
      obtain ⟨g', off, cur, ty, fr, y, rfl, hg, hcc, hyk⟩ := hgs.at k hlt
      have KG : Hid (wr.heap[g']? = some (.cells cur ty fr)) := hg
      have H1 : Hid (∀ a, a < 2 → cur[off + k * 2 + a]? = (hiV y)[a]?) := hcc
      have HY : Hid (L[k]? = some y) := hyk
      have n0 : ∀ m, (wr.drewN m).cell? ⟨g', off + k * 2, none⟩ = some (.int .i64 y.ep) := fun m => (hif_of (w := wr.drewN m) (off := off + k * 2) hg hcc).c0
      have n1 : ∀ m, (wr.drewN m).cell? ⟨r, 1, none⟩ = some (.int .i64 fl) := fun m => (HF.out (wr.drewN m) (below_drewN HB.out _)).1
      have n2 : ∀ m, (wr.drewN m).cell? ⟨r, 2, none⟩ = some (.int .i64 tp) := fun m => (HF.out (wr.drewN m) (below_drewN HB.out _)).2.1
      have n5 : ∀ m, (wr.drewN m).cell? ⟨r, 5, none⟩ = some (.slice (some ⟨g', off, none⟩) q cap) := fun m => (HF.out (wr.drewN m) (below_drewN HB.out _)).2.2.1
      have HKP : Hid (keepE fl tp y = (y.ep == fl || y.ep == tp)) := rfl
      obtain ⟨ye, hye⟩ : ∃ ye, ye = y.ep := ⟨_, rfl⟩
      rw [← hye] at n0 HKP
      have z1 : ¬ (k : Int) < 0 := by omega
      have z2 : decide ((k : Int) < (q : Int)) = true := decide_eq_true hlt'
      clear hg hcc hyk hgs hye
      by_cases hkp : ye = fl ∨ ye = tp
      · have HE : Hid (T ++ [y] = (L.take (k + 1)).filter (keepE fl tp)) := by
          show _ = _
          rw [HT.out, filtG_yes HY.out (by rw [HKP.out]; rcases hkp with h | h <;> simp [h])]
        subst e3
        by_cases p1 : ye = fl
        · have p1' : (ye == fl) = true := by simpa using p1
          clear hkp p1
          go_wp2_with fail
          go_quiet (fail)
          have HB2 : Hid (Below w.heap.size w (wr.drewN nq)) := below_drewN HB.out _
          have m5 := n5 nq
          obtain ⟨W, hW⟩ : ∃ W, W = wr.drewN nq := ⟨_, rfl⟩
          have KG2 : Hid (W.heap[g']? = some (.cells cur ty fr)) := by show _ = _; rw [hW]; exact KG.out
          have HO2 : Hid (ItsAt w.heap.size (W.alloc (.cells (hiV y) 52)) (.slice o3 q3 cap3) T) := by
            show ItsAt _ _ _ _
            rw [hW]
            exact (HO.out.below (below_drewN (Below.refl _ _) nq)).below ((Below.refl _ _).alloc (Nat.le_refl _) _)
          rw [← hW] at HB2 m5 ⊢
          clear hW n0 n1 n2 n5 c1 c2 c5 KG HO HB
          go_wp2_with (first
            | (refine wl_loadE (E := HiE) HiOk rfl _ rfl g' (off + k * 2) rfl cur ty fr (hiV y) rfl KG2.out H1.out ?_)
            | (refine wl_buildE (E := HiE) HiOk rfl _ rfl (hiV y) rfl rfl ?_)
            | (at_builtin; refine of_stopT ?_))
          unfold StopT
          refine wl_appendE (E := HiE) HiOk hiV rfl _ _ rfl w.heap.size (.slice o3 q3 cap3) T y (hi_fits y) rfl HO2.out W.heap.size 1 rfl (heap_new _ _ _ rfl) (by omega) (by have := HB2.out.size; simp; omega) ?_
          intro v' w3 hown3 hgr3 _
          have B3 : Hid (Below w.heap.size w w3) := (HB2.out.alloc HB2.out.size _).trans ((Below.refl _ _).grown hgr3 (HB2.out.alloc HB2.out.size _).size fun k hk => (HO2.out.lt k hk).1)
          have O3 : Hid (ItsAt w.heap.size w3 v' (T ++ [y])) := hown3
          clear hown3 hgr3
          simp only [Act.put, List.setIfInBounds_toArray, List.set_cons_succ, List.set_cons_zero]
          go_wp2_with fail
          go_roundw
          case rel => exact ⟨k + 1, T ++ [y], by omega, by go_num, HE, by simp; omega, O3.out, B3.out⟩
          case measure => simp [intOf]; omega
        · have p1' : (ye == fl) = false := by simpa using p1
          have p2' : (ye == tp) = true := by simpa using hkp.resolve_left p1
          clear hkp p1
          go_wp2_with fail
          go_quiet (fail)
          have HB2 : Hid (Below w.heap.size w (wr.drewN nq)) := below_drewN HB.out _
          have m5 := n5 nq
          obtain ⟨W, hW⟩ : ∃ W, W = wr.drewN nq := ⟨_, rfl⟩
          have KG2 : Hid (W.heap[g']? = some (.cells cur ty fr)) := by show _ = _; rw [hW]; exact KG.out
          have HO2 : Hid (ItsAt w.heap.size (W.alloc (.cells (hiV y) 52)) (.slice o3 q3 cap3) T) := by
            show ItsAt _ _ _ _
            rw [hW]
            exact (HO.out.below (below_drewN (Below.refl _ _) nq)).below ((Below.refl _ _).alloc (Nat.le_refl _) _)
          rw [← hW] at HB2 m5 ⊢
          clear hW n0 n1 n2 n5 c1 c2 c5 KG HO HB
          go_wp2_with (first
            | (refine wl_loadE (E := HiE) HiOk rfl _ rfl g' (off + k * 2) rfl cur ty fr (hiV y) rfl KG2.out H1.out ?_)
            | (refine wl_buildE (E := HiE) HiOk rfl _ rfl (hiV y) rfl rfl ?_)
            | (at_builtin; refine of_stopT ?_))
          unfold StopT
          refine wl_appendE (E := HiE) HiOk hiV rfl _ _ rfl w.heap.size (.slice o3 q3 cap3) T y (hi_fits y) rfl HO2.out W.heap.size 1 rfl (heap_new _ _ _ rfl) (by omega) (by have := HB2.out.size; simp; omega) ?_
          intro v' w3 hown3 hgr3 _
          have B3 : Hid (Below w.heap.size w w3) := (HB2.out.alloc HB2.out.size _).trans ((Below.refl _ _).grown hgr3 (HB2.out.alloc HB2.out.size _).size fun k hk => (HO2.out.lt k hk).1)
          have O3 : Hid (ItsAt w.heap.size w3 v' (T ++ [y])) := hown3
          clear hown3 hgr3
          simp only [Act.put, List.setIfInBounds_toArray, List.set_cons_succ, List.set_cons_zero]
          go_wp2_with fail
          go_roundw
          case rel => exact ⟨k + 1, T ++ [y], by omega, by go_num, HE, by simp; omega, O3.out, B3.out⟩
          case measure => simp [intOf]; omega
      · have HE : Hid (T = (L.take (k + 1)).filter (keepE fl tp)) := by
          show _ = _
          rw [HT.out, filtG_no HY.out (by rw [HKP.out]; simp only [Bool.or_eq_false_iff, beq_eq_false_iff_ne]; exact ⟨fun h => hkp (.inl h), fun h => hkp (.inr h)⟩)]
        have p1' : (ye == fl) = false := by simpa using (fun h => hkp (.inl h) : ¬ ye = fl)
        have p2' : (ye == tp) = false := by simpa using (fun h => hkp (.inr h) : ¬ ye = tp)
        clear hkp
        subst e3
        go_wp2_with fail
        go_quiet (fail)
        have HB2 : Hid (Below w.heap.size w (wr.drewN nq)) := below_drewN HB.out _
        have HO2 : Hid (ItsAt w.heap.size (wr.drewN nq) (.slice o3 q3 cap3) T) := HO.out.below (below_drewN (Below.refl _ _) nq)
        go_wp2_with fail
        go_roundw
        case rel => exact ⟨k + 1, T, by omega, by go_num, HE, by omega, HO2.out, HB2.out⟩
        case measure => simp [intOf]; omega
    · have hlt' : ¬ (k : Int) < (q : Int) := by omega
      have HE : Hid (T = L.filter (keepE fl tp)) := by
        have e := HQ.out
        show _ = _
        rw [HT.out, List.take_of_length_le (by omega)]
      obtain ⟨z1, z2⟩ := HX.out wr u2 HB.out (by rw [← HE.out]; exact HO.out)
      subst e3
      have Z1 : Hid (RHoV B (wr.setCell ⟨r, 5, none⟩ (.slice o3 q3 cap3)) r h1 (.slice o3 q3 cap3) T) := by rw [HE.out]; exact z1
      have Z2 : Hid _ := z2
      have ZL : Hid (T.length ≤ q) := by show _ ≤ _; omega
      clear z1 z2 hgs
      go_wp2_with fail
      obtain ⟨W, hW⟩ : ∃ W, W = wr.setCell ⟨r, 5, none⟩ (.slice o3 q3 cap3) := ⟨_, rfl⟩
      rw [← hW] at Z1 Z2 ⊢
      clear hW
      by_cases p1 : us = fl
      · have p1' : (us != fl) = false := by simpa using p1
        have HUS : Hid (us = fl ∨ us = tp) := Or.inl p1
        clear p1
        have d1 : ∀ m, (W.drewN m).cell? ⟨r, 1, none⟩ = some (.int .i64 fl) := fun m => (HZ.out (W.drewN m) _ _ (Z1.out.below (below_drewN (Below.refl _ _) _))).1
        have d2 : ∀ m, (W.drewN m).cell? ⟨r, 2, none⟩ = some (.int .i64 tp) := fun m => (HZ.out (W.drewN m) _ _ (Z1.out.below (below_drewN (Below.refl _ _) _))).2.1
        have d3 : ∀ m, (W.drewN m).cell? ⟨r, 3, none⟩ = some (.int .i64 us) := fun m => (HZ.out (W.drewN m) _ _ (Z1.out.below (below_drewN (Below.refl _ _) _))).2.2.1
        go_quiet (fail)
        go_wp2_with fail
        refine bodyPost_end (results_none rfl _ _ _) rfl ?_
        refine ⟨rfl, ?_⟩
        rw [HG1.out HUS.out]
        exact ⟨_, _, Z1.out.below (below_drewN (Below.refl _ _) nq), Z2.out.add (below_drewN (Below.refl _ _) nq), ZL.out⟩
      · have p1' : (us != fl) = true := by simpa using p1
        by_cases p2 : us = tp
        · have p2' : (us != tp) = false := by simpa using p2
          have HUS : Hid (us = fl ∨ us = tp) := Or.inr p2
          clear p1 p2
          have d1 : ∀ m, (W.drewN m).cell? ⟨r, 1, none⟩ = some (.int .i64 fl) := fun m => (HZ.out (W.drewN m) _ _ (Z1.out.below (below_drewN (Below.refl _ _) _))).1
          have d2 : ∀ m, (W.drewN m).cell? ⟨r, 2, none⟩ = some (.int .i64 tp) := fun m => (HZ.out (W.drewN m) _ _ (Z1.out.below (below_drewN (Below.refl _ _) _))).2.1
          have d3 : ∀ m, (W.drewN m).cell? ⟨r, 3, none⟩ = some (.int .i64 us) := fun m => (HZ.out (W.drewN m) _ _ (Z1.out.below (below_drewN (Below.refl _ _) _))).2.2.1
          go_quiet (fail)
          go_wp2_with fail
          refine bodyPost_end (results_none rfl _ _ _) rfl ?_
          refine ⟨rfl, ?_⟩
          rw [HG1.out HUS.out]
          exact ⟨_, _, Z1.out.below (below_drewN (Below.refl _ _) nq), Z2.out.add (below_drewN (Below.refl _ _) nq), ZL.out⟩
        · have p2' : (us != tp) = true := by simpa using p2
          have HUS : Hid (¬ (us = fl ∨ us = tp)) := fun x => x.elim p1 p2
          clear p1 p2
          have d1 : ∀ m, (W.drewN m).cell? ⟨r, 1, none⟩ = some (.int .i64 fl) := fun m => (HZ.out (W.drewN m) _ _ (Z1.out.below (below_drewN (Below.refl _ _) _))).1
          have d2 : ∀ m, (W.drewN m).cell? ⟨r, 2, none⟩ = some (.int .i64 tp) := fun m => (HZ.out (W.drewN m) _ _ (Z1.out.below (below_drewN (Below.refl _ _) _))).2.1
          have d3 : ∀ m, (W.drewN m).cell? ⟨r, 3, none⟩ = some (.int .i64 us) := fun m => (HZ.out (W.drewN m) _ _ (Z1.out.below (below_drewN (Below.refl _ _) _))).2.2.1
          go_quiet (fail)
          obtain ⟨Y1, Y2⟩ := HG2.out HUS.out (W.drewN nq) _ _ (Z1.out.below (below_drewN (Below.refl _ _) nq))
          obtain ⟨_, _, e3, ⟨d, e4⟩, e5⟩ := HZ.out (W.drewN nq) _ _ (Z1.out.below (below_drewN (Below.refl _ _) _))
          have HY1 : Hid _ := Y1
          have HY2 : Hid (Frm (footRH r (.slice o q cap)) (footRH r (.slice o3 q3 cap3)) w _) := (Z2.out.add (below_drewN (Below.refl _ _) nq)).trans Y2
          clear Y1 Y2 d1 d2 d3
          go_wp2_with fail
          refine bodyPost_end (results_none rfl _ _ _) rfl ?_
          exact ⟨rfl, _, _, HY1.out, HY2.out, ZL.out⟩
end Go.Proofs.Ytbigifmfbibgoaa
