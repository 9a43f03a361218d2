import Derived.Test.YtagogbodkbbikaaJ2
import Derived.Test.YtagogbodkbbikaaJ1
import Derived.OrdersHeld
namespace Go.Proofs.Ytagogbodkbbikaa
open Go Go.RowKit
set_option maxRecDepth 20000

/-! A tick, one by one. -/
theorem tk_not {m : WaitM} {now : Int} {l : List AskM} {k : Nat} {x : AskM} (h : l[k]? = some x) (hd : dueW now x = false) :
    (l.take (k + 1)).filterMap (stepWt m now) = (l.take k).filterMap (stepWt m now) ++ [x] ∧ ((l.take (k + 1)).filter fun x => dueW now x && moreW m x).map (askW m now) = ((l.take k).filter fun x => dueW now x && moreW m x).map (askW m now) ∧ ((l.take (k + 1)).filter fun x => dueW now x && !(moreW m x)) = (l.take k).filter fun x => dueW now x && !(moreW m x) := by
  have e : stepWt m now x = some x := by unfold stepWt; rw [hd]; rfl
  rw [List.take_add_one, h, Option.toList_some, List.filterMap_append, List.filter_append, List.filter_append]
  refine ⟨?_, ?_, ?_⟩
  · rw [List.filterMap_cons, e]; rfl
  · simp [hd]
  · simp [hd]
theorem tk_more {m : WaitM} {now : Int} {l : List AskM} {k : Nat} {x : AskM} (h : l[k]? = some x) (hd : dueW now x = true) (hm : moreW m x = true) :
    (l.take (k + 1)).filterMap (stepWt m now) = (l.take k).filterMap (stepWt m now) ++ [askW m now x] ∧ ((l.take (k + 1)).filter fun x => dueW now x && moreW m x).map (askW m now) = ((l.take k).filter fun x => dueW now x && moreW m x).map (askW m now) ++ [askW m now x] ∧ ((l.take (k + 1)).filter fun x => dueW now x && !(moreW m x)) = (l.take k).filter fun x => dueW now x && !(moreW m x) := by
  have e : stepWt m now x = some (askW m now x) := by unfold stepWt; rw [hd, hm]; rfl
  rw [List.take_add_one, h, Option.toList_some, List.filterMap_append, List.filter_append, List.filter_append]
  refine ⟨?_, ?_, ?_⟩
  · rw [List.filterMap_cons, e]; rfl
  · simp [hd, hm]
  · simp [hd, hm]
theorem tk_gone {m : WaitM} {now : Int} {l : List AskM} {k : Nat} {x : AskM} (h : l[k]? = some x) (hd : dueW now x = true) (hm : moreW m x = false) :
    (l.take (k + 1)).filterMap (stepWt m now) = (l.take k).filterMap (stepWt m now) ∧ ((l.take (k + 1)).filter fun x => dueW now x && moreW m x).map (askW m now) = ((l.take k).filter fun x => dueW now x && moreW m x).map (askW m now) ∧ ((l.take (k + 1)).filter fun x => dueW now x && !(moreW m x)) = ((l.take k).filter fun x => dueW now x && !(moreW m x)) ++ [x] := by
  have e : stepWt m now x = none := by unfold stepWt; rw [hd, hm]; rfl
  rw [List.take_add_one, h, Option.toList_some, List.filterMap_append, List.filter_append, List.filter_append]
  refine ⟨?_, ?_, ?_⟩
  · rw [List.filterMap_cons, e]; simp
  · simp [hd, hm]
  · simp [hd, hm]
/-- Three rows that lie apart. -/
structure Rows3 (B : Nat) (w : World) (s t u : Value) (S T U : List AskM) : Prop where
  a : AsksAt B w s S
  b : AsksAt B w t T
  c : AsksAt B w u U
  ab : ApartR s.ownBlock t.ownBlock
  ac : ApartR s.ownBlock u.ownBlock
  bc : ApartR t.ownBlock u.ownBlock
theorem Rows3.below {B : Nat} {w w' : World} {s t u : Value} {S T U : List AskM} (h : Rows3 B w s t u S T U) (hb : Below w.heap.size w w') : Rows3 B w' s t u S T U := ⟨h.a.below hb, h.b.below hb, h.c.below hb, h.ab, h.ac, h.bc⟩
theorem apart_new {B : Nat} {w : World} {s s' t : Value} {T : List AskM} (h : ApartR s.ownBlock t.ownBlock) (hT : AsksAt B w t T) (hs : s'.ownBlock = s.ownBlock ∨ s'.ownBlock = some w.heap.size) : ApartR s'.ownBlock t.ownBlock := by
  rcases hs with e | e
  · rw [e]; exact h
  · cases ht : t.ownBlock with
    | none => exact .inr (.inl rfl)
    | some k =>
      refine .inr (.inr fun e' => ?_)
      have := (hT.lt k ht).2
      rw [e] at e'
      have := Option.some.inj e'
      omega
theorem asks_grown {B : Nat} {w w' : World} {s t : Value} {T : List AskM} (hT : AsksAt B w t T) (hg : w.grownBy w' s.ownBlock) (h : ApartR s.ownBlock t.ownBlock) : AsksAt B w' t T := hT.kept (Kept.of_grown (X := rowX s) hg fun _ e => e) fun k e e' => h.ne k e' e
theorem Rows3.app1 {B : Nat} {w w' : World} {s s' t u : Value} {S S' T U : List AskM} (h : Rows3 B w s t u S T U) (ha : AsksAt B w' s' S') (hg : w.grownBy w' s.ownBlock) (hs : s'.ownBlock = s.ownBlock ∨ s'.ownBlock = some w.heap.size) : Rows3 B w' s' t u S' T U :=
  ⟨ha, asks_grown h.b hg h.ab, asks_grown h.c hg h.ac, apart_new h.ab h.b hs, apart_new h.ac h.c hs, h.bc⟩
theorem Rows3.app2 {B : Nat} {w w' : World} {s t t' u : Value} {S T T' U : List AskM} (h : Rows3 B w s t u S T U) (ha : AsksAt B w' t' T') (hg : w.grownBy w' t.ownBlock) (hs : t'.ownBlock = t.ownBlock ∨ t'.ownBlock = some w.heap.size) : Rows3 B w' s t' u S T' U :=
  ⟨asks_grown h.a hg h.ab.symm, ha, asks_grown h.c hg h.bc, (apart_new h.ab.symm h.a hs).symm, h.ac, apart_new h.bc h.c hs⟩
theorem Rows3.app3 {B : Nat} {w w' : World} {s t u u' : Value} {S T U U' : List AskM} (h : Rows3 B w s t u S T U) (ha : AsksAt B w' u' U') (hg : w.grownBy w' u.ownBlock) (hs : u'.ownBlock = u.ownBlock ∨ u'.ownBlock = some w.heap.size) : Rows3 B w' s t u' S T U' :=
  ⟨asks_grown h.a hg h.ac.symm, asks_grown h.b hg h.bc.symm, ha, h.ab, (apart_new h.ac.symm h.a hs).symm, (apart_new h.bc.symm h.b hs).symm⟩
theorem Rows3.nil (B : Nat) (w : World) : Rows3 B w (.slice none 0 0) (.slice none 0 0) (.slice none 0 0) [] [] [] := ⟨AsksAt.nil _ _, AsksAt.nil _ _, AsksAt.nil _ _, .inl rfl, .inl rfl, .inl rfl⟩
theorem grown_below {B : Nat} {w w1 w' : World} {s : Value} {S : List AskM} (hb : Below B w w1) (hB : B ≤ w1.heap.size) (hg : w1.grownBy w' s.ownBlock) (hs : AsksAt B w1 s S) : Below B w w' := hb.trans ((Below.refl _ _).grown hg hB fun _ hk => (hs.lt _ hk).1)
set_option maxHeartbeats 16000000 in
theorem tickK_any (B : Nat) (w : World) (g : Nat) (m : WaitM) (v : Value) (h : WaitV B w g m v) (hm : WaitIn m) (now : Int) :
    Calls Try.prog 14 #[.pointer (some ⟨g, 0, none⟩), .int .i64 now] w fun e w' => ∃ a b u, e = .returned (.tuple #[a, b]) ∧ Rows3 w.heap.size w' u a b (tickW m now).l (againW m now) (goneW m now) ∧ WaitV B w' g (tickW m now) u ∧ Frm (footW g v) (footW g u) w w' := by
  have HC : Hid (∀ W, Calls Try.prog 22 #[.int .i64 now] W fun e w' => e = .returned (.int .i64 (clockW now)) ∧ w' = W) := fun W => bounded_any now W
  obtain ⟨cl, hcl⟩ : ∃ cl, cl = clockW now := ⟨_, rfl⟩
  obtain ⟨tr, htr⟩ : ∃ tr, tr = m.tries := ⟨_, rfl⟩
  obtain ⟨ti, hti⟩ : ∃ ti, ti = m.time := ⟨_, rfl⟩
  obtain ⟨o, cap, hv, hc1, hc2⟩ := h.own.slice
  have hl64 := hm.len
  obtain ⟨q, hq⟩ : ∃ q, q = m.l.length := ⟨_, rfl⟩
  rw [← hq] at hv hc1 hl64
  have HQ : Hid (q = m.l.length) := hq
  have HF : Hid (∀ W, Below w.heap.size w W → W.cell? ⟨g, 4, none⟩ = some v ∧ W.cell? ⟨g, 1, none⟩ = some (.int .i64 tr) ∧ W.cell? ⟨g, 2, none⟩ = some (.int .i64 ti) ∧ W.frozen? ⟨g, 4, none⟩ = false ∧ GSl AskE askV W v m.l) := fun W hb => by
    rw [htr, hti]
    exact ⟨(h.below hb).f.c4, (h.below hb).f.c1, (h.below hb).f.c2, (h.below hb).f.fz _, (h.below hb).own.sl⟩
  have HX : Hid (∀ W s t u, Below w.heap.size w W → Rows3 w.heap.size W s t u (tickW m now).l (againW m now) (goneW m now) → Rows3 w.heap.size (W.setCell ⟨g, 4, none⟩ s) s t u (tickW m now).l (againW m now) (goneW m now) ∧ WaitV B (W.setCell ⟨g, 4, none⟩ s) g (tickW m now) s ∧ Frm (footW g v) (footW g s) w (W.setCell ⟨g, 4, none⟩ s)) := fun W s t u hb hr => by
    have hp := h.put (m' := tickW m now) (u := s) (Kept.of_below hb) (hr.a.base h.hw) (.inr fun k e => (hr.a.lt k e).1) rfl
    have hK2 : Kept (isB g) W (W.setCell ⟨g, 4, none⟩ s) := ⟨rfl, rfl, rfl, by simp [World.setCell], fun k _ e => heap_setCell_other W ⟨g, 4, none⟩ k _ e⟩
    have ng : ∀ {y : Value} {Y : List AskM}, AsksAt w.heap.size W y Y → ∀ (k : Nat), y.ownBlock = some k → ¬ isB g k := fun hy k e e' => by
      unfold isB at e'
      have := (hy.lt k e).1
      have := (h.foot_in g (.inl rfl)).2
      omega
    exact ⟨⟨hr.a.kept hK2 (ng hr.a), hr.b.kept hK2 (ng hr.b), hr.c.kept hK2 (ng hr.c), hr.ab, hr.ac, hr.bc⟩, hp⟩
  have HL : Hid (∀ x ∈ m.l, 1 ≤ x.sent ∧ x.sent ≤ 9) := fun x hx => by have := hm.ok.sent x hx; have := hm.t8; omega
  have HCB : Hid (0 ≤ cl ∧ cl ≤ 1099511627776 ∧ 1 ≤ ti ∧ ti ≤ 1000) := by
    have h1 := clock_in now
    have h2 := hm.ok.time1
    have h3 := hm.ti
    rw [← hcl] at h1
    rw [← hti] at h2 h3
    exact ⟨h1.1, h1.2, h2, h3⟩
  have HDU : Hid (∀ x, dueW now x = decide (x.due ≤ cl)) := fun x => by unfold dueW; rw [← hcl]
  have HMO : Hid (∀ x, moreW m x = decide (x.sent ≤ tr)) := fun x => by unfold moreW; rw [← htr]
  have HAS : Hid (∀ x, askW m now x = { x with sent := x.sent + 1, due := cl + ti }) := fun x => by unfold askW; rw [← hcl, ← hti]
  have HGS : Hid (g < w.heap.size) := (h.foot_in g (.inl rfl)).2
  have HT : Hid ((tickW m now).l = m.l.filterMap (stepWt m now)) := rfl
  have HA : Hid (againW m now = (m.l.filter fun x => dueW now x && moreW m x).map (askW m now)) := rfl
  have HG : Hid (goneW m now = m.l.filter fun x => dueW now x && !(moreW m x)) := rfl
  rw [← hcl] at HC
  unfold maxLen at hc2
  clear h hm hq hcl htr hti
  subst hv
  have HB0 : Hid (Below w.heap.size w w) := Below.refl _ _
  obtain ⟨c4, _, _, _, _⟩ := HF.out w HB0.out
  go_enter Try.func14, Try.ntmps14
  go_wp2_with (go_at_call 22; refine (HC.out _).mono ?_; rintro e w1 ⟨rfl, h1⟩; have h1 := h1.symm; subst h1)
  go_loopw [6, 7, 8, 20] (fun s6 s7 s8 s20 wr => ∃ (k : Nat) (S A G : List AskM), k ≤ q ∧ s20 = .int .i64 (k : Int) ∧ Hid (S = (m.l.take k).filterMap (stepWt m now) ∧ A = ((m.l.take k).filter fun x => dueW now x && moreW m x).map (askW m now) ∧ G = (m.l.take k).filter fun x => dueW now x && !(moreW m x)) ∧ Hid (S.length ≤ k ∧ A.length ≤ k ∧ G.length ≤ k) ∧ Rows3 w.heap.size wr s6 s7 s8 S A G ∧ Below w.heap.size w wr) (fun _ _ _ s20 _ => q - (intOf s20).toNat)
  case atStart => exact ⟨0, [], [], [], Nat.zero_le _, rfl, by show _ ∧ _ ∧ _; simp, by show _ ∧ _ ∧ _; simp, Rows3.nil _ _, HB0.out⟩
  case round =>
    obtain ⟨k, S, A, G, hk, rfl, HS, HN, hr, hb⟩ := hrel
    have HR : Hid (Rows3 w.heap.size wr u6 u7 u8 S A G) := hr
    have HB : Hid (Below w.heap.size w wr) := hb
    obtain ⟨c4, c1, c2, fz4, hgs⟩ := HF.out wr hb
    by_cases hlt : k < q
    · have hlt' : (k : Int) < (q : Int) := by omega
      obtain ⟨g', off, cur, ty, fr, x, rfl, hg, hcc, hxk⟩ := hgs.at k hlt
      have LD : (loadVar 38 ⟨g', off + k * 17, none⟩).run Try.prog wr = .ok (.agg (askV x)) wr := ldK_row hg hcc
      obtain ⟨w1, hw1⟩ : ∃ w1, w1 = wr.alloc (.cells (askV x) 38) := ⟨_, rfl⟩
      have B1w : Below wr.heap.size wr w1 := by rw [hw1]; exact (Below.refl _ _).alloc (Nat.le_refl _) _
      have B1 : Hid (Below w.heap.size w w1) := HB.out.trans (B1w.mono HB.out.size)
      have R1 : Hid (Rows3 w.heap.size w1 u6 u7 u8 S A G) := HR.out.below B1w
      have A1 : w1.heap[wr.heap.size]? = some (.cells (askV x) 38 (0, 0)) := by rw [hw1]; exact heap_new _ _ _ rfl
      have f3 := (askf_own A1).c3
      have f4 := (askf_own A1).c4
      have z3 : w1.frozen? ⟨wr.heap.size, 15, none⟩ = false := tc_frozen A1 rfl
      have z4 : w1.frozen? ⟨wr.heap.size, 16, none⟩ = false := tc_frozen A1 rfl
      have HA1 : Hid (w1.heap[wr.heap.size]? = some (.cells (askV x) 38 (0, 0))) := A1
      have HXK : Hid (m.l[k]? = some x) := hxk
      have SR : (wr.alloc (.cells (askV zeroA) 38)).setRow wr.heap.size (askV x) = w1 := by rw [hw1]; exact setRow_new _ _ _ _ _ rfl
      obtain ⟨d1, d2⟩ := HL.out x (List.mem_of_getElem? hxk)
      obtain ⟨b1, b2, b3, b4⟩ := HCB.out
      obtain ⟨xs, hxs⟩ : ∃ xs, xs = x.sent := ⟨_, rfl⟩
      obtain ⟨xd, hxd⟩ : ∃ xd, xd = x.due := ⟨_, rfl⟩
      have HXS : Hid (xs = x.sent ∧ xd = x.due) := ⟨hxs, hxd⟩
      rw [← hxs] at d1 d2 f3
      rw [← hxd] at f4
      have hw1' : IntKind.i64.wrap (xs + 1) = xs + 1 := by rw [IntKind.wrap_i64]; omega
      have hw2' : IntKind.i64.wrap (cl + ti) = cl + ti := by rw [IntKind.wrap_i64]; omega
      obtain ⟨k4, k1, k2, _, _⟩ := HF.out w1 B1.out
      have HW1 : Hid (w1 = wr.alloc (.cells (askV x) 38)) := hw1
      clear hr hb hgs hg hcc hxk A1 hw1 d1 d2 b1 b2 b3 b4 hxs hxd B1w
      go_wp2_with (first
        | ((with_reducible refine wl_gaK rfl ?_); refine wl_allocK rfl rfl ?_; try rw [sz_allocK])
        | ((with_reducible refine wl_glK _ rfl ?_); refine wl_loadK rfl _ rfl g' (off + k * 17) rfl x LD ?_)
        | (((with_reducible refine wl_gsK _ _ rfl ?_); refine wl_storeK rfl _ _ rfl wr.heap.size x zeroA rfl rfl (heap_new _ _ _ rfl) _ SR ?_); refine of_stopT ?_))
      unfold StopT
      clear LD SR c4 c1 c2 fz4
      have LX := ldK_own HA1.out
      by_cases hdue : xd > cl
      · have HDN : Hid (dueW now x = false) := by
          show _ = _
          rw [HDU.out, ← HXS.out.2]
          simpa using hdue
        obtain ⟨w2, hw2⟩ : ∃ w2, w2 = w1.alloc (.cells (askV x) 38) := ⟨_, rfl⟩
        have b2 : Below w1.heap.size w1 w2 := by rw [hw2]; exact (Below.refl _ _).alloc (Nat.le_refl _) _
        have B2 : Hid (Below w.heap.size w w2) := B1.out.trans (b2.mono B1.out.size)
        have R2 : Hid (Rows3 w.heap.size w2 u6 u7 u8 S A G) := R1.out.below b2
        have N2 : w2.heap[w1.heap.size]? = some (.cells (askV x) 38 (0, 0)) := by rw [hw2]; exact heap_new _ _ _ rfl
        have HW2 : Hid (w2 = w1.alloc (.cells (askV x) 38)) := hw2
        clear hw2 b2
        go_wp2_with (first
          | ((with_reducible refine wl_glK _ rfl ?_); refine wl_loadK rfl _ rfl wr.heap.size 0 rfl x LX ?_)
          | ((with_reducible refine wl_gbK _ rfl ?_); refine wl_build1K rfl _ rfl x rfl ?_; try rw [sz_allocK])
          | (at_builtin; refine of_stopT ?_))
        unfold StopT
        rw [← HW2.out]
        refine wl_appK rfl _ _ rfl w.heap.size u6 S x rfl R2.out.a w1.heap.size 1 rfl N2 (by have := HN.out; omega) B2.out.size ?_
        intro v' w3 hown hgr hq3
        have Rw3 : Hid (Rows3 w.heap.size w3 v' u7 u8 (S ++ [x]) A G) := R2.out.app1 hown hgr hq3
        have Bw3 : Hid (Below w.heap.size w w3) := grown_below B2.out B2.out.size hgr R2.out.a
        have HGw3 : Hid ({p : Nat} → {ob : Obj} → {y : Value} → w2.heap[p]? = some ob → y.ownBlock = u6.ownBlock → y.ownBlock ≠ some p → w3.heap[p]? = some ob) := fun {p ob y} e1 e2 e3 => (hgr.block p (Array.getElem?_eq_some_iff.1 e1).1 fun e => e3 (by rw [e2, e])).trans e1
        clear hown hgr hq3 N2
        simp only [Act.put, List.setIfInBounds_toArray, List.set_cons_succ, List.set_cons_zero]
        go_wp2_with fail
        go_roundw
        case rel =>
          obtain ⟨e1, e2, e3⟩ := HS.out
          obtain ⟨t1, t2, t3⟩ := tk_not (m := m) HXK.out HDN.out
          obtain ⟨n1, n2, n3⟩ := HN.out
          exact ⟨k + 1, S ++ [x], A, G, by omega, by go_num, ⟨by rw [t1, e1], by rw [t2, e2], by rw [t3, e3]⟩, ⟨by rw [List.length_append]; simp; omega, by omega, by omega⟩, Rw3.out, Bw3.out⟩
        case measure => simp [intOf]; omega
      · by_cases hmo : xs > tr
        · have HDN : Hid (dueW now x = true ∧ moreW m x = false) := by
            show _ ∧ _
            rw [HDU.out, HMO.out, ← HXS.out.2, ← HXS.out.1]
            exact ⟨by simpa using hdue, by simpa using hmo⟩
          go_wp2_with fail
          go_region
          obtain ⟨w2, hw2⟩ : ∃ w2, w2 = w1.drew := ⟨_, rfl⟩
          have b2 : Below w1.heap.size w1 w2 := by rw [hw2]; exact (Below.refl _ _).drew
          rw [← hw2]
          have B2 : Hid (Below w.heap.size w w2) := B1.out.trans (b2.mono B1.out.size)
          have R2 : Hid (Rows3 w.heap.size w2 u6 u7 u8 S A G) := R1.out.below b2
          have A2 : w2.heap[wr.heap.size]? = some (.cells (askV x) 38 (0, 0)) := (b2.block _ (Array.getElem?_eq_some_iff.1 HA1.out).1).trans HA1.out
          clear b2 hw2 LX f3 f4 z3 z4 k4 k1 k2
          have LX := ldK_own A2
          obtain ⟨w3, hw3⟩ : ∃ w3, w3 = w2.alloc (.cells (askV x) 38) := ⟨_, rfl⟩
          have b3 : Below w2.heap.size w2 w3 := by rw [hw3]; exact (Below.refl _ _).alloc (Nat.le_refl _) _
          have B3 : Hid (Below w.heap.size w w3) := B2.out.trans (b3.mono B2.out.size)
          have R3 : Hid (Rows3 w.heap.size w3 u6 u7 u8 S A G) := R2.out.below b3
          have N3 : w3.heap[w2.heap.size]? = some (.cells (askV x) 38 (0, 0)) := by rw [hw3]; exact heap_new _ _ _ rfl
          have HW3 : Hid (w3 = w2.alloc (.cells (askV x) 38)) := hw3
          have HK3 : Hid (∀ p ob, w2.heap[p]? = some ob → w3.heap[p]? = some ob) := fun p ob e => (b3.block p (Array.getElem?_eq_some_iff.1 e).1).trans e
          clear hw3 b3
          go_wp2_with (first
            | ((with_reducible refine wl_glK _ rfl ?_); refine wl_loadK rfl _ rfl wr.heap.size 0 rfl x LX ?_)
            | ((with_reducible refine wl_gbK _ rfl ?_); refine wl_build1K rfl _ rfl x rfl ?_; try rw [sz_allocK])
            | (at_builtin; refine of_stopT ?_))
          unfold StopT
          rw [← HW3.out]
          refine wl_appK rfl _ _ rfl w.heap.size u8 G x rfl R3.out.c w2.heap.size 1 rfl N3 (by have := HN.out; omega) B3.out.size ?_
          intro v' w4 hown hgr hq3
          have Rw4 : Hid (Rows3 w.heap.size w4 u6 u7 v' S A (G ++ [x])) := R3.out.app3 hown hgr hq3
          have Bw4 : Hid (Below w.heap.size w w4) := grown_below B3.out B3.out.size hgr R3.out.c
          have HGw4 : Hid (∀ p ob, w3.heap[p]? = some ob → u8.ownBlock ≠ some p → w4.heap[p]? = some ob) := fun p ob e1 e3 => (hgr.block p (Array.getElem?_eq_some_iff.1 e1).1 fun e => e3 e.symm).trans e1
          clear hown hgr hq3 N3
          simp only [Act.put, List.setIfInBounds_toArray, List.set_cons_succ, List.set_cons_zero]
          go_wp2_with fail
          go_roundw
          case rel =>
            obtain ⟨e1, e2, e3⟩ := HS.out
            obtain ⟨t1, t2, t3⟩ := tk_gone (m := m) HXK.out HDN.out.1 HDN.out.2
            obtain ⟨n1, n2, n3⟩ := HN.out
            exact ⟨k + 1, S, A, G ++ [x], by omega, by go_num, ⟨by rw [t1, e1], by rw [t2, e2], by rw [t3, e3]⟩, ⟨by omega, by omega, by rw [List.length_append]; simp; omega⟩, Rw4.out, Bw4.out⟩
          case measure => simp [intOf]; omega
        · have HDN : Hid (dueW now x = true ∧ moreW m x = true) := by
            show _ ∧ _
            rw [HDU.out, HMO.out, ← HXS.out.2, ← HXS.out.1]
            exact ⟨by simpa using hdue, by simpa using hmo⟩
          go_wp2_with fail
          go_region
          obtain ⟨w2, hw2⟩ : ∃ w2, w2 = w1.drew := ⟨_, rfl⟩
          have b2 : Below w1.heap.size w1 w2 := by rw [hw2]; exact (Below.refl _ _).drew
          rw [← hw2]
          have B2 : Hid (Below w.heap.size w w2) := B1.out.trans (b2.mono B1.out.size)
          have R2 : Hid (Rows3 w.heap.size w2 u6 u7 u8 S A G) := R1.out.below b2
          have A2 : w2.heap[wr.heap.size]? = some (.cells (askV x) 38 (0, 0)) := (b2.block _ (Array.getElem?_eq_some_iff.1 HA1.out).1).trans HA1.out
          clear b2 hw2 LX f3 f4 z3 z4 k4 k1 k2
          obtain ⟨y, hy⟩ : ∃ y, y = askW m now x := ⟨_, rfl⟩
          have HY : Hid (y = askW m now x) := hy
          have hyv : (((askV x).setIfInBounds 15 (.int .i64 (xs + 1))).setIfInBounds 16 (.int .i64 (cl + ti))) = askV y := by rw [hy, HAS.out, HXS.out.1]; rfl
          have k2 := (HF.out w2 B2.out).2.2.1
          have f3 := (askf_own A2).c3
          rw [← HXS.out.1] at f3
          have f4 := (askf_own A2).c4
          have z3 : w2.frozen? ⟨wr.heap.size, 15, none⟩ = false := tc_frozen A2 rfl
          have z4 : w2.frozen? ⟨wr.heap.size, 16, none⟩ = false := tc_frozen A2 rfl
          have hne : ¬ g = wr.heap.size := by have := HB.out.size; have := HGS.out; omega
          obtain ⟨w3, hw3⟩ : ∃ w3, w3 = (w2.setCell ⟨wr.heap.size, 15, none⟩ (.int .i64 (xs + 1))).setCell ⟨wr.heap.size, 16, none⟩ (.int .i64 (cl + ti)) := ⟨_, rfl⟩
          have k3 : Kept (isB wr.heap.size) w2 w3 := by
            rw [hw3]
            exact ⟨rfl, rfl, rfl, by simp [World.setCell], fun k _ e => (heap_setCell_other _ ⟨wr.heap.size, 16, none⟩ k _ e).trans (heap_setCell_other _ ⟨wr.heap.size, 15, none⟩ k _ e)⟩
          have A3 : w3.heap[wr.heap.size]? = some (.cells (askV y) 38 (0, 0)) := by
            rw [hw3, heap_setCell_same _ _ 16 _ _ _ (heap_setCell_same _ _ 15 _ _ _ A2), hyv]
          have nb : ∀ (z : Value) (Z : List AskM), AsksAt w.heap.size wr z Z → ∀ k, z.ownBlock = some k → ¬ isB wr.heap.size k := fun z Z hz k e e' => by unfold isB at e'; have := (hz.lt k e).2; omega
          have R3 : Hid (Rows3 w.heap.size w3 u6 u7 u8 S A G) := ⟨R2.out.a.kept k3 (nb _ _ HR.out.a), R2.out.b.kept k3 (nb _ _ HR.out.b), R2.out.c.kept k3 (nb _ _ HR.out.c), R2.out.ab, R2.out.ac, R2.out.bc⟩
          have B3 : Hid (Below w.heap.size w w3) := B2.out.trans (k3.below (fun k e => by unfold isB at e; have := HB.out.size; omega) B2.out.size)
          have HW3 : Hid (w3 = (w2.setCell ⟨wr.heap.size, 15, none⟩ (.int .i64 (xs + 1))).setCell ⟨wr.heap.size, 16, none⟩ (.int .i64 (cl + ti))) := hw3
          have HA3 : Hid (w3.heap[wr.heap.size]? = some (.cells (askV y) 38 (0, 0))) := A3
          clear hw3 k3 nb hyv hy A2 A3
          go_wp2_with (first
            | ((with_reducible refine wl_glK _ rfl ?_); refine of_stopT ?_))
          unfold StopT
          rw [← HW3.out]
          clear f3 f4 z3 z4 k2
          have LX := ldK_own HA3.out
          obtain ⟨w4, hw4⟩ : ∃ w4, w4 = w3.alloc (.cells (askV y) 38) := ⟨_, rfl⟩
          have b4 : Below w3.heap.size w3 w4 := by rw [hw4]; exact (Below.refl _ _).alloc (Nat.le_refl _) _
          have B4 : Hid (Below w.heap.size w w4) := B3.out.trans (b4.mono B3.out.size)
          have R4 : Hid (Rows3 w.heap.size w4 u6 u7 u8 S A G) := R3.out.below b4
          have N4 : w4.heap[w3.heap.size]? = some (.cells (askV y) 38 (0, 0)) := by rw [hw4]; exact heap_new _ _ _ rfl
          have HW4 : Hid (w4 = w3.alloc (.cells (askV y) 38)) := hw4
          have HK4 : Hid (∀ p ob, w3.heap[p]? = some ob → w4.heap[p]? = some ob) := fun p ob e => (b4.block p (Array.getElem?_eq_some_iff.1 e).1).trans e
          clear hw4 b4
          go_wp2_with (first
            | ((with_reducible refine wl_glK _ rfl ?_); refine wl_loadK rfl _ rfl wr.heap.size 0 rfl y LX ?_)
            | ((with_reducible refine wl_gbK _ rfl ?_); refine wl_build1K rfl _ rfl y rfl ?_; try rw [sz_allocK])
            | (at_builtin; refine of_stopT ?_))
          unfold StopT
          rw [← HW4.out]
          refine wl_appK rfl _ _ rfl w.heap.size u6 S y rfl R4.out.a w3.heap.size 1 rfl N4 (by have := HN.out; omega) B4.out.size ?_
          intro v' w5 hown hgr hq3
          have Rw5 : Hid (Rows3 w.heap.size w5 v' u7 u8 (S ++ [y]) A G) := R4.out.app1 hown hgr hq3
          have Bw5 : Hid (Below w.heap.size w w5) := grown_below B4.out B4.out.size hgr R4.out.a
          have HGw5 : Hid (∀ p ob, w4.heap[p]? = some ob → u6.ownBlock ≠ some p → w5.heap[p]? = some ob) := fun p ob e1 e3 => (hgr.block p (Array.getElem?_eq_some_iff.1 e1).1 fun e => e3 e.symm).trans e1
          clear hown hgr hq3 N4
          simp only [Act.put, List.setIfInBounds_toArray, List.set_cons_succ, List.set_cons_zero]
          clear LX
          have A5 : w5.heap[wr.heap.size]? = some (.cells (askV y) 38 (0, 0)) := HGw5.out _ _ (HK4.out _ _ HA3.out) fun e => by have := (HR.out.a.lt _ e).2; omega
          have LX := ldK_own A5
          clear A5
          obtain ⟨w6, hw6⟩ : ∃ w6, w6 = w5.alloc (.cells (askV y) 38) := ⟨_, rfl⟩
          have b6 : Below w5.heap.size w5 w6 := by rw [hw6]; exact (Below.refl _ _).alloc (Nat.le_refl _) _
          have B6 : Hid (Below w.heap.size w w6) := Bw5.out.trans (b6.mono Bw5.out.size)
          have R6 : Hid (Rows3 w.heap.size w6 v' u7 u8 (S ++ [y]) A G) := Rw5.out.below b6
          have N6 : w6.heap[w5.heap.size]? = some (.cells (askV y) 38 (0, 0)) := by rw [hw6]; exact heap_new _ _ _ rfl
          have HW6 : Hid (w6 = w5.alloc (.cells (askV y) 38)) := hw6
          have HK6 : Hid (∀ p ob, w5.heap[p]? = some ob → w6.heap[p]? = some ob) := fun p ob e => (b6.block p (Array.getElem?_eq_some_iff.1 e).1).trans e
          clear hw6 b6
          go_wp2_with (first
            | ((with_reducible refine wl_glK _ rfl ?_); refine wl_loadK rfl _ rfl wr.heap.size 0 rfl y LX ?_)
            | ((with_reducible refine wl_gbK _ rfl ?_); refine wl_build1K rfl _ rfl y rfl ?_; try rw [sz_allocK])
            | (at_builtin; refine of_stopT ?_))
          unfold StopT
          rw [← HW6.out]
          refine wl_appK rfl _ _ rfl w.heap.size u7 A y rfl R6.out.b w5.heap.size 1 rfl N6 (by have := HN.out; omega) B6.out.size ?_
          intro v'' w7 hown hgr hq3
          have Rw7 : Hid (Rows3 w.heap.size w7 v' v'' u8 (S ++ [y]) (A ++ [y]) G) := R6.out.app2 hown hgr hq3
          have Bw7 : Hid (Below w.heap.size w w7) := grown_below B6.out B6.out.size hgr R6.out.b
          have HGw7 : Hid (∀ p ob, w6.heap[p]? = some ob → u7.ownBlock ≠ some p → w7.heap[p]? = some ob) := fun p ob e1 e3 => (hgr.block p (Array.getElem?_eq_some_iff.1 e1).1 fun e => e3 e.symm).trans e1
          clear hown hgr hq3 N6
          simp only [Act.put, List.setIfInBounds_toArray, List.set_cons_succ, List.set_cons_zero]
          go_wp2_with fail
          go_roundw
          case rel =>
            obtain ⟨e1, e2, e3⟩ := HS.out
            obtain ⟨t1, t2, t3⟩ := tk_more (m := m) HXK.out HDN.out.1 HDN.out.2
            obtain ⟨n1, n2, n3⟩ := HN.out
            exact ⟨k + 1, S ++ [y], A ++ [y], G, by omega, by go_num, ⟨by rw [t1, e1, HY.out], by rw [t2, e2, HY.out], by rw [t3, e3]⟩, ⟨by rw [List.length_append]; simp; omega, by rw [List.length_append]; simp; omega, by omega⟩, Rw7.out, Bw7.out⟩
          case measure => simp [intOf]; omega
    · have hlt' : ¬ (k : Int) < (q : Int) := by omega
      have HTK : Hid (Rows3 w.heap.size wr u6 u7 u8 (tickW m now).l (againW m now) (goneW m now)) := by
        have e : m.l.take k = m.l := List.take_of_length_le (by rw [← HQ.out]; omega)
        obtain ⟨e1, e2, e3⟩ := HS.out
        rw [e] at e1 e2 e3
        show Rows3 _ _ _ _ _ _ _ _
        rw [HT.out, HA.out, HG.out, ← e1, ← e2, ← e3]
        exact hr
      have HE := HX.out wr u6 u7 u8 hb HTK.out
      have HE' : Hid _ := HE
      obtain ⟨o6, n6, e6, _⟩ := hr.a.slice
      obtain ⟨o7, n7, e7, _⟩ := hr.b.slice
      obtain ⟨o8, n8, e8, _⟩ := hr.c.slice
      generalize S.length = q6 at e6
      generalize A.length = q7 at e7
      generalize G.length = q8 at e8
      clear hr hb hgs HE HR HTK
      subst e6
      subst e7
      subst e8
      go_wp2_with fail
      go_ret2
      exact ⟨_, _, rfl, _, HE'.out⟩
end Go.Proofs.Ytagogbodkbbikaa
namespace Go.Proofs.Ytagogbodkbbikaa
open Go Go.RowKit
set_option maxRecDepth 20000

theorem wpOp_wanted {P : Program} {ops : Array Oper} {Q : Exit → Act → World → Prop} {i : Nat} {o : Oper} {K : Act → World → Prop} {a : Act} {w : World} (hi : ops[i]? = some o) (hw : Region.wanted o (yielded ops a.tmps) = true) (h : o.wp P a w K Q) : wpOp P ops Q i K a w := by
  unfold Go.wpOp
  simp only [hi, hw, if_true]
  exact .inl h
end Go.Proofs.Ytagogbodkbbikaa
namespace Go.Proofs.Ytagogbodkbbikaa
open Go Go.RowKit
set_option maxRecDepth 20000

/-- One operation of a drawn region, by the laws for a list of them. -/
theorem wpOp_of_list {P : Program} {ops : Array Oper} {Q : Exit → Act → World → Prop} {i : Nat} {o : Oper} {K : Act → World → Prop} {a : Act} {w : World} (hi : ops[i]? = some o)
    (h : wpList P ops (fun e a' w' => match e with | .normal => K a' w' | e => Q e a' w') [o] a w) : wpOp P ops Q i K a w := by
  unfold Go.wpOp
  simp only [hi]
  unfold wpList at h
  by_cases hw : Region.wanted o (yielded ops a.tmps) = true
  · rw [if_pos hw] at h ⊢
    rcases h with h | h
    · refine .inl ?_
      unfold Oper.wp at h ⊢
      revert h
      generalize (execOp a.eval o).run P w = r
      intro h
      unfold Oper.upon at h ⊢
      split at h
      · exact h
      · exact h
      · exact h
      · refine h.mono ?_
        intro e w1 h1
        cases e <;> exact h1
      · exact h
      · exact h
      · exact h.elim
    · exact .inr h
  · rw [if_neg hw] at h ⊢
    exact h
theorem eval_put (a : Act) (k j : Nat) (v : Value) (hk : k < a.tmps.size) : (a.put (some k) v).eval (.tmp j) = if j = k then v else a.eval (.tmp j) := by
  simp only [Act.eval, Act.put, Array.getElem?_setIfInBounds, Array.getD_eq_getD_getElem?]
  by_cases h : j = k
  · subst h; simp [hk]
  · simp [h, Ne.symm h]
theorem size_put (a : Act) (d : Option Tmp) (v : Value) : (a.put d v).tmps.size = a.tmps.size := by
  cases d <;> simp [Act.put]
theorem load_cell {ty e : TypeId} (hu : Try.prog.underlying ty = some (.slice e)) (W : World) (ad : Addr) (v : Value) (h : W.cell? ad = some v) : (Instr.loadAt ty (.pointer (some ad))).run Try.prog W = .ok v W := by
  have ha : (isAgg ty).run Try.prog W = .ok false W := by unfold isAgg; rw [Sem.run_bind, run_underlying hu W]; simp [go_sem]
  simp [Instr.loadAt, Instr.sureAddr, loadVar, Sem.run_bind, ha, go_sem, h]
theorem store_cell {ty : TypeId} (hsz : ∀ W, (sizeOf ty).run Try.prog W = .ok 1 W) (W : World) (ad : Addr) (v u : Value) (hv : ∃ o n c, v = .slice o n c) (h : W.cell? ad = some u) (hz : W.frozen? ad = false) : (Instr.storeAt ty (.pointer (some ad)) v).run Try.prog W = .ok () (W.setCell ad v) := by
  obtain ⟨o, n, c, rfl⟩ := hv
  simp [Instr.storeAt, Instr.sureAddr, storeVar, Sem.run_bind, hsz, go_sem, h, hz]
/-- One operation whose value is known. -/
theorem wpOp_val {ops : Array Oper} {Q : Exit → Act → World → Prop} {i : Nat} {o : Oper} {K : Act → World → Prop} {a : Act} {w w' : World} (hi : ops[i]? = some o) (hw : Region.wanted o (yielded ops a.tmps) = true) (v : Value)
    (hx : (execOp a.eval o).run Try.prog w = .ok (.value v) w') (d : Option Tmp) (hd : o.dst = d) (hK : K (a.put d v) w') : wpOp Try.prog ops Q i K a w := by
  subst hd
  refine wpOp_wanted hi hw ?_
  unfold Oper.wp
  rw [hx]
  exact hK
theorem wpOp_skip6 {ops : Array Oper} {Q : Exit → Act → World → Prop} {i : Nat} {o : Oper} {K : Act → World → Prop} {a : Act} {w w' : World} (hi : ops[i]? = some o) (hw : Region.wanted o (yielded ops a.tmps) = true)
    (hx : (execOp a.eval o).run Try.prog w = .ok .skip w') (d : Option Tmp) (hd : o.dst = d) (hK : K (a.put d undef) w') : wpOp Try.prog ops Q i K a w := by
  subst hd
  refine wpOp_wanted hi hw ?_
  unfold Oper.wp
  rw [hx]
  exact hK
theorem wpOp_skip0 {ops : Array Oper} {Q : Exit → Act → World → Prop} {i : Nat} {o : Oper} {K : Act → World → Prop} {a : Act} {w w' : World} (hi : ops[i]? = some o) (hw : Region.wanted o (yielded ops a.tmps) = true)
    (hx : (execOp a.eval o).run Try.prog w = .ok .skip w') (hd : o.dst = none) (hK : K a w') : wpOp Try.prog ops Q i K a w :=
  wpOp_skip6 hi hw hx none hd hK
theorem wpOp_callQ {ops : Array Oper} {Q : Exit → Act → World → Prop} {i : Nat} {o : Oper} {K : Act → World → Prop} {a : Act} {w : World} (hi : ops[i]? = some o) (hw : Region.wanted o (yielded ops a.tmps) = true) (f : FuncId) (vs : Array Value)
    (hf : (execOp a.eval o).run Try.prog w = .ok (.enter f vs) w) (D : Ending → World → Prop) (h : Calls Try.prog f vs w D) (d : Option Tmp) (hd : o.dst = d) (hK : ∀ v w', D (.returned v) w' → K (a.put d v) w') (hP : ∀ ch w', D (.panicked ch) w' → Q (.panic ch) a w') (hO : ∀ w', ¬ D .outgrown w') : wpOp Try.prog ops Q i K a w := by
  subst hd
  refine wpOp_wanted hi hw ?_
  unfold Oper.wp
  rw [hf]
  refine h.mono ?_
  intro e w' hD
  cases e with
  | returned v => exact hK v w' hD
  | panicked ch => exact hP ch w' hD
  | outgrown => exact absurd hD (hO w')

theorem run_fieldOp {o : Oper} {t i : Nat} {x : Operand} (ho : o.op = .fieldAddr t x i) (a : Act) (W : World) (v : Value) (h : (Instr.fieldAt t (a.eval x) i).run Try.prog W = .ok v W) : (execOp a.eval o).run Try.prog W = .ok (.value v) W := by
  unfold execOp
  simp only [ho, Sem.run_bind, h, Result.andThen_ok, Sem.run_pure]
theorem run_moveOp {o : Oper} {x : Operand} (ho : o.op = .move x) (a : Act) (W : World) (v : Value) (h : a.eval x = v) : (execOp a.eval o).run Try.prog W = .ok (.value v) W := by
  unfold execOp
  simp only [ho, Sem.run_pure, h]
theorem run_loadOp {o : Oper} {t : Nat} {x : Operand} (ho : o.op = .load t x) (a : Act) (W : World) (u v : Value) (hu : a.eval x = u) (h : (Instr.loadAt t u).run Try.prog W = .ok v W) : (execOp a.eval o).run Try.prog W = .ok (.value v) W := by
  unfold execOp
  simp only [ho, Sem.run_bind, hu, h, Result.andThen_ok, Sem.run_pure]
theorem run_storeOp {o : Oper} {t : Nat} {x y : Operand} (ho : o.op = .store t x y) (a : Act) (W W' : World) (u v : Value) (hu : a.eval x = u) (hv : a.eval y = v) (h : (Instr.storeAt t u v).run Try.prog W = .ok () W') : (execOp a.eval o).run Try.prog W = .ok .skip W' := by
  unfold execOp
  simp only [ho, Sem.run_bind, hu, hv, h, Result.andThen_ok, Sem.run_pure]
theorem run_callOp {o : Oper} {f : Nat} {x : Operand} {ts : Array TypeId} (ho : o.op = .call { callee := .value (.func f), args := #[x], argTypes := ts }) (hf : ∀ vs W, (callFunc f vs).run Try.prog W = .ok (.enter f vs) W) (a : Act) (W : World) (v : Value) (h : a.eval x = v) : (execOp a.eval o).run Try.prog W = .ok (.enter f #[v]) W := by
  unfold execOp
  have hef : a.eval (.func f) = .func (.func f) #[] #[] := rfl
  simp only [ho, resolve, hef, List.map_toArray, List.map_cons, List.map_nil, h]
  simp [go_sem, hf]
end Go.Proofs.Ytagogbodkbbikaa
namespace Go.Proofs.Ytagogbodkbbikaa
open Go Go.RowKit
set_option maxRecDepth 20000

/-- What holds at each moment of a drawn region: all that has come up has a value as is told; all other slots are as they were. -/
structure InvR (ops : Array Oper) (V : Nat → Value → World → Prop) (D : List Nat) (a0 : Act) (w0 : World) (listed : Array Bool) (a : Act) (w : World) : Prop where
  below : Below w0.heap.size w0 w
  size : a.tmps.size = a0.tmps.size
  defers : a.defers = a0.defers
  other : ∀ d, d ∉ D → a.eval (.tmp d) = a0.eval (.tmp d)
  has : ∀ j o d, ops[j]? = some o → o.dst = some d → listed.getD j false = true → V j (a.eval (.tmp d)) w
/-- What an operation finds when it comes up. -/
structure AtOp (ops : Array Oper) (V : Nat → Value → World → Prop) (D : List Nat) (a0 : Act) (w0 : World) (o : Oper) (a : Act) (w : World) : Prop where
  below : Below w0.heap.size w0 w
  size : a.tmps.size = a0.tmps.size
  defers : a.defers = a0.defers
  other : ∀ d, d ∉ D → a.eval (.tmp d) = a0.eval (.tmp d)
  has : ∀ e ∈ o.after, Region.binds .any e = true → ∀ oj d, ops[e.on]? = some oj → oj.dst = some d → V e.on (a.eval (.tmp d)) w
theorem dst_apart {ops : Array Oper} {D : List Nat} (hD : (ops.toList.filterMap (·.dst)) = D) (hnd : D.Nodup) {i j : Nat} {oi oj : Oper} {d : Nat} (hi : ops[i]? = some oi) (hj : ops[j]? = some oj) (di : oi.dst = some d) (dj : oj.dst = some d) : i = j := by
  subst hD
  rw [List.nodup_iff_pairwise_ne, List.pairwise_filterMap] at hnd
  rw [← Array.getElem?_toList] at hi hj
  obtain ⟨hi1, hi2⟩ := List.getElem?_eq_some_iff.1 hi
  obtain ⟨hj1, hj2⟩ := List.getElem?_eq_some_iff.1 hj
  rw [List.pairwise_iff_getElem] at hnd
  rcases Nat.lt_trichotomy i j with h | h | h
  · exact absurd rfl (hnd i j hi1 hj1 h d (by rw [hi2]; exact di) d (by rw [hj2]; exact dj))
  · exact h
  · exact absurd rfl (hnd j i hj1 hi1 h d (by rw [hj2]; exact dj) d (by rw [hi2]; exact di))
theorem falses_set (l : Array Bool) (i : Nat) (h : l.getD i true = false) : (l.setIfInBounds i true).toList.count false + 1 = l.toList.count false := by
  have hi : i < l.size := by
    rw [Array.getD_eq_getD_getElem?] at h
    rcases Nat.lt_or_ge i l.size with h1 | h1
    · exact h1
    · rw [Array.getElem?_eq_none h1] at h; simp at h
  have hv : l[i] = false := by
    rw [Array.getD_eq_getD_getElem?, Array.getElem?_eq_getElem hi] at h
    simpa using h
  rw [Array.toList_setIfInBounds]
  have hi' : i < l.toList.length := by simpa using hi
  have e : l.toList = l.toList.take i ++ false :: l.toList.drop (i + 1) := by
    have := List.drop_eq_getElem_cons hi'
    rw [show l.toList[i] = false by simpa using hv] at this
    rw [← this, List.take_append_drop]
  rw [List.set_eq_take_append_cons_drop, if_pos hi', e]
  have e2 : (l.toList.take i ++ false :: l.toList.drop (i + 1)).take i = l.toList.take i := by rw [← e]
  have e3 : (l.toList.take i ++ false :: l.toList.drop (i + 1)).drop (i + 1) = l.toList.drop (i + 1) := by rw [← e]
  rw [e2, e3, List.count_append, List.count_append, List.count_cons, List.count_cons]
  simp
  omega
theorem ready_none {md : Region.Mode} {ops : Array Oper} {l : Array Bool} (h : l.toList.count false = 0) : Region.ready md ops l = [] := by
  rw [List.eq_nil_iff_forall_not_mem]
  intro j hj
  have h1 := (mem_ready.1 hj).1
  rw [Array.getD_eq_getD_getElem?] at h1
  rcases Nat.lt_or_ge j l.size with h2 | h2
  · rw [Array.getElem?_eq_getElem h2] at h1
    have h3 : l[j] = false := by simpa using h1
    have : false ∈ l.toList := by rw [← h3]; exact Array.mem_toList_iff.2 (Array.getElem_mem h2)
    have := List.count_pos_iff.2 this
    omega
  · rw [Array.getElem?_eq_none h2] at h1; simp at h1
theorem getD_tf {l : Array Bool} {j : Nat} (h : l.getD j true = false) : l.getD j false = false := by
  rw [Array.getD_eq_getD_getElem?] at h ⊢
  rcases Nat.lt_or_ge j l.size with h2 | h2
  · rw [Array.getElem?_eq_getElem h2] at h ⊢; simpa using h
  · rw [Array.getElem?_eq_none h2]; rfl
theorem getD_set_ne' {l : Array Bool} {i j : Nat} (h : i ≠ j) (b c : Bool) : (l.setIfInBounds i b).getD j c = l.getD j c := by
  rw [Array.getD_eq_getD_getElem?, Array.getD_eq_getD_getElem?, Array.getElem?_setIfInBounds_ne h]
theorem ready_some {ops : Array Oper} {l : Array Bool} (hs : l.size = ops.size) (hdag : ∀ (i : Nat) (o : Oper), ops[i]? = some o → ∀ e ∈ o.after, e.on < i) : ∀ j, l.getD j true = false → Region.ready .any ops l ≠ [] := by
  intro j
  induction j using Nat.strongRecOn with
  | ind j ih =>
    intro hj hr
    have hjl : j < l.size := by
      rw [Array.getD_eq_getD_getElem?] at hj
      rcases Nat.lt_or_ge j l.size with h1 | h1
      · exact h1
      · rw [Array.getElem?_eq_none h1] at hj; simp at hj
    have ho : ops[j]? = some (ops[j]'(by omega)) := Array.getElem?_eq_getElem (by omega)
    by_cases hall : ∀ e ∈ (ops[j]'(by omega)).after, Region.binds .any e = true → l.getD e.on false = true
    · have : j ∈ Region.ready .any ops l := mem_ready.2 ⟨hj, _, ho, hall⟩
      rw [hr] at this
      simp at this
    · simp only [Classical.not_forall] at hall
      obtain ⟨e, he, hb, hl⟩ := hall
      have hlt := hdag j _ ho e he
      refine ih e.on hlt ?_ hr
      rw [Array.getD_eq_getD_getElem?, Array.getElem?_eq_getElem (by omega)] at hl ⊢
      simpa using hl
/-! Steps of such a region. -/
theorem iv_val {ops : Array Oper} {Q : Exit → Act → World → Prop} {V : Nat → Value → World → Prop} {i : Nat} {o : Oper} {a : Act} {w : World} (hi : ops[i]? = some o) (hw : Region.wanted o (yielded ops a.tmps) = true) (v : Value)
    (hx : (execOp a.eval o).run Try.prog w = .ok (.value v) w) (hv : V i v w) : wpOp Try.prog ops Q i (fun a' w' => ∃ v, a' = a.put o.dst v ∧ Below w.heap.size w w' ∧ ∀ d, o.dst = some d → V i v w') a w :=
  wpOp_val hi hw v hx o.dst rfl ⟨v, rfl, Below.refl _ _, fun _ _ => hv⟩
theorem iv_call {ops : Array Oper} {Q : Exit → Act → World → Prop} {V : Nat → Value → World → Prop} {i : Nat} {o : Oper} {a : Act} {w : World} (hi : ops[i]? = some o) (hw : Region.wanted o (yielded ops a.tmps) = true) (f : FuncId) (vs : Array Value)
    (hf : (execOp a.eval o).run Try.prog w = .ok (.enter f vs) w) (h : Calls Try.prog f vs w fun e w' => ∃ v, e = .returned v ∧ Below w.heap.size w w' ∧ V i v w') : wpOp Try.prog ops Q i (fun a' w' => ∃ v, a' = a.put o.dst v ∧ Below w.heap.size w w' ∧ ∀ d, o.dst = some d → V i v w') a w :=
  wpOp_callQ hi hw f vs hf _ h o.dst rfl (fun v w' hD => by
    obtain ⟨u, hu, hb, hv⟩ := hD
    obtain rfl : v = u := by simpa using hu
    exact ⟨v, rfl, hb, fun _ _ => hv⟩) (fun ch w' hD => by obtain ⟨u, hu, _⟩ := hD; cases hu) (fun w' hD => by obtain ⟨u, hu, _⟩ := hD; cases hu)
theorem iv_list {ops : Array Oper} {Q : Exit → Act → World → Prop} {V : Nat → Value → World → Prop} {i : Nat} {o : Oper} {a : Act} {w : World} (hi : ops[i]? = some o)
    (h : wpList Try.prog ops (fun e a' w' => match e with | .normal => (∃ v, a' = a.put o.dst v ∧ Below w.heap.size w w' ∧ ∀ d, o.dst = some d → V i v w') | e => Q e a' w') [o] a w) : wpOp Try.prog ops Q i (fun a' w' => ∃ v, a' = a.put o.dst v ∧ Below w.heap.size w w' ∧ ∀ d, o.dst = some d → V i v w') a w :=
  wpOp_of_list hi h
/-- The frame behind such a region: the slots that it wrote, one by one. -/
def putsD (D : List Nat) (y : Nat → Value) (a : Act) : Act := D.foldl (fun b d => b.put (some d) (y d)) a
theorem putsD_size (y : Nat → Value) : ∀ (D : List Nat) (a : Act), (putsD D y a).tmps.size = a.tmps.size ∧ (putsD D y a).defers = a.defers
  | [], a => ⟨rfl, rfl⟩
  | d :: D, a => by
    have := putsD_size y D (a.put (some d) (y d))
    exact ⟨this.1.trans (size_put _ _ _), this.2.trans rfl⟩
theorem putsD_eval (y : Nat → Value) : ∀ (D : List Nat) (a : Act), (∀ d ∈ D, d < a.tmps.size) → ∀ k, (putsD D y a).eval (.tmp k) = if k ∈ D then y k else a.eval (.tmp k)
  | [], a, _, k => by simp [putsD]
  | d :: D, a, h, k => by
    show (putsD D y (a.put (some d) (y d))).eval (.tmp k) = _
    rw [putsD_eval y D _ (fun e he => by rw [size_put]; exact h e (by simp [he])) k]
    by_cases hk : k ∈ D
    · rw [if_pos hk, if_pos (by simp [hk])]
    · rw [if_neg hk, eval_put _ _ _ _ (h d (by simp))]
      by_cases hkd : k = d
      · rw [if_pos hkd, if_pos (by simp [hkd]), hkd]
      · rw [if_neg hkd, if_neg (by simp [hk, hkd])]
theorem act_ext {a b : Act} (hs : a.tmps.size = b.tmps.size) (hd : a.defers = b.defers) (he : ∀ k, a.eval (.tmp k) = b.eval (.tmp k)) : a = b := by
  obtain ⟨ta, da⟩ := a
  obtain ⟨tb, db⟩ := b
  simp only at hs hd
  subst hd
  congr 1
  refine Array.ext hs fun k h1 h2 => ?_
  have := he k
  simp only [Act.eval, Array.getD_eq_getD_getElem?] at this
  rw [Array.getElem?_eq_getElem h1, Array.getElem?_eq_getElem h2] at this
  simpa using this
theorem puts_form {D : List Nat} {a a0 : Act} (hs : a.tmps.size = a0.tmps.size) (hd : a.defers = a0.defers) (ho : ∀ d, d ∉ D → a.eval (.tmp d) = a0.eval (.tmp d)) (hD : ∀ d ∈ D, d < a0.tmps.size) : a = putsD D (fun d => a.eval (.tmp d)) a0 := by
  obtain ⟨h1, h2⟩ := putsD_size (fun d => a.eval (.tmp d)) D a0
  refine act_ext (hs.trans h1.symm) (hd.trans h2.symm) fun k => ?_
  rw [putsD_eval _ _ _ hD]
  split
  · rfl
  · rename_i h; exact ho k h
end Go.Proofs.Ytagogbodkbbikaa
namespace Go.Proofs.Ytagogbodkbbikaa
open Go Go.RowKit
set_option maxRecDepth 20000

/-- As InvR, with a word on the world that turns when operation m has come up. -/
structure InvM (ops : Array Oper) (V : Nat → Value → World → Prop) (D : List Nat) (I : Bool → World → Prop) (m : Nat) (a0 : Act) (listed : Array Bool) (a : Act) (w : World) : Prop where
  wld : I (listed.getD m false) w
  size : a.tmps.size = a0.tmps.size
  defers : a.defers = a0.defers
  other : ∀ d, d ∉ D → a.eval (.tmp d) = a0.eval (.tmp d)
  has : ∀ j o d, ops[j]? = some o → o.dst = some d → listed.getD j false = true → V j (a.eval (.tmp d)) w
/-- What an operation finds when it comes up. -/
structure AtM (ops : Array Oper) (V : Nat → Value → World → Prop) (D : List Nat) (I : Bool → World → Prop) (b : Bool) (a0 : Act) (o : Oper) (a : Act) (w : World) : Prop where
  wld : I b w
  size : a.tmps.size = a0.tmps.size
  defers : a.defers = a0.defers
  other : ∀ d, d ∉ D → a.eval (.tmp d) = a0.eval (.tmp d)
  has : ∀ e ∈ o.after, Region.binds .any e = true → ∀ oj d, ops[e.on]? = some oj → oj.dst = some d → V e.on (a.eval (.tmp d)) w
end Go.Proofs.Ytagogbodkbbikaa
