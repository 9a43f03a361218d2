import Derived.Test.YtojhckjdkafpmaaJ12
namespace Go.Proofs.Ytojhckjdkafpmaa
open Go Go.RowKit
set_option maxRecDepth 20000

def goneR (idle hard now : Int) (x : Slt) : Bool := (x.bank == 1) && oldS idle hard now x
def oldI (idle tt t : Int) : Bool := decide (idle ≠ 0) && decide (idle ≤ tt - t)
theorem oldI_cases (idle tt t : Int) : (oldI idle tt t = false ∧ idle = 0) ∨ (oldI idle tt t = true ∧ ¬ idle = 0 ∧ tt - t ≥ idle) ∨ (oldI idle tt t = false ∧ ¬ idle = 0 ∧ ¬ tt - t ≥ idle) := by
  unfold oldI
  by_cases h1 : idle = 0
  · exact .inl ⟨by simp [h1], h1⟩
  · by_cases h2 : tt - t ≥ idle
    · exact .inr (.inl ⟨by simp [h1]; omega, h1, h2⟩)
    · exact .inr (.inr ⟨by simp [h1]; omega, h1, h2⟩)
theorem goneR_eq (idle hard now : Int) (x : Slt) : goneR idle hard now x = ((x.bank == 1) && (oldI idle (timeT now) x.used || oldI hard (timeT now) x.born)) := rfl
structure TwoL (w wr : World) (s5 s6 : Value) (A G : List Slt) : Prop where
  o : SlotsAt w.heap.size wr s5 A
  g : SlotsAt w.heap.size wr s6 G
  d : ∀ j, s5.ownBlock = some j → s6.ownBlock = some j → False
  b : Below w.heap.size w wr
theorem TwoL.addG {w wr W w3 : World} {s5 s6 v : Value} {A G G' : List Slt} (h : TwoL w wr s5 s6 A G) (hb : Below wr.heap.size wr W) (hown : SlotsAt w.heap.size w3 v G') (hgr : W.grownBy w3 s6.ownBlock) (hv : v.ownBlock = s6.ownBlock ∨ v.ownBlock = some W.heap.size) : TwoL w w3 s5 v A G' := by
  have hB : Below w.heap.size w W := below_step h.b h.b.size hb
  refine ⟨(h.o.below hb).kept (Kept.of_grown (X := fun j => s6.ownBlock = some j) hgr fun j hj => hj) fun j e e' => h.d j e e', hown, fun j e1 e2 => ?_, hB.trans ((Below.refl _ _).grown hgr hB.size fun k hk => (h.g.lt k hk).1)⟩
  rcases hv with hv | hv
  · exact h.d j e1 (hv ▸ e2)
  · have h1 := (h.o.lt j e1).2
    have h2 := hb.size
    rw [hv] at e2
    simp only [Option.some.injEq] at e2
    omega
theorem TwoL.addO {w wr W w3 : World} {s5 s6 v : Value} {A A' G : List Slt} (h : TwoL w wr s5 s6 A G) (hb : Below wr.heap.size wr W) (hown : SlotsAt w.heap.size w3 v A') (hgr : W.grownBy w3 s5.ownBlock) (hv : v.ownBlock = s5.ownBlock ∨ v.ownBlock = some W.heap.size) : TwoL w w3 v s6 A' G := by
  have hB : Below w.heap.size w W := below_step h.b h.b.size hb
  refine ⟨hown, (h.g.below hb).kept (Kept.of_grown (X := fun j => s5.ownBlock = some j) hgr fun j hj => hj) fun j e e' => h.d j e' e, fun j e1 e2 => ?_, hB.trans ((Below.refl _ _).grown hgr hB.size fun k hk => (h.o.lt k hk).1)⟩
  rcases hv with hv | hv
  · exact h.d j (hv ▸ e1) e2
  · have h1 := (h.g.lt j e2).2
    have h2 := hb.size
    rw [hv] at e1
    simp only [Option.some.injEq] at e1
    omega
set_option maxHeartbeats 32000000 in
theorem rtick_any (B : Nat) (w : World) (r gr : Nat) (R : Rm) (L : List Slt) (vl : Value) (h : RTabV B w r gr R L vl) (now : Int) (hn : L.length ≤ 1000000) (hL : ∀ x ∈ L, 0 ≤ x.used ∧ x.used ≤ MAXT ∧ 0 ≤ x.born ∧ x.born ≤ MAXT) :
    Calls Try.prog 37 #[.pointer (some ⟨r, 0, none⟩), .int .i64 now] w fun e w' => (∃ u, e = .returned u ∧ SlotsAt w.heap.size w' u (L.filter (goneR R.idle R.hard now))) ∧ RTabTo B w w' r gr R (L.filter fun x => !(goneR R.idle R.hard now x)) vl := by
  obtain ⟨o, cap, ev, hc1, hc2⟩ := h.own.slice
  have hl := h.own.sl
  rw [ev] at hl
  obtain ⟨n, hn0⟩ : ∃ n, n = L.length := ⟨_, rfl⟩
  have HN : Hid (n = L.length) := hn0
  have hrs : r < w.heap.size := (Array.getElem?_eq_some_iff.1 h.blk).1
  have RS : Hid (r < w.heap.size) := hrs
  obtain ⟨idle, hi0⟩ : ∃ idle, idle = R.idle := ⟨_, rfl⟩
  obtain ⟨hard, hh0⟩ : ∃ hard, hard = R.hard := ⟨_, rfl⟩
  obtain ⟨tt, ht0⟩ : ∃ tt, tt = timeT now := ⟨_, rfl⟩
  have htt : 0 ≤ tt ∧ tt ≤ 1099511627776 := by rw [ht0]; exact timeT_in now
  have HF : Hid (∀ W, Below w.heap.size w W → W.cell? ⟨r, 0, none⟩ = some (.slice o n cap) ∧ W.frozen? ⟨r, 0, none⟩ = false ∧ W.cell? ⟨r, 2, none⟩ = some (.int .i64 idle) ∧ W.cell? ⟨r, 3, none⟩ = some (.int .i64 hard)) := by intro W hb; have h9 := (h.below hb).f; have h8 := h9.c0; rw [ev, ← hn0] at h8; rw [hi0, hh0]; exact ⟨h8, h9.fz 0, h9.c2, h9.c3⟩
  obtain ⟨q, hq0⟩ : ∃ q, q = goneR R.idle R.hard now := ⟨_, rfl⟩
  have HQ : Hid (∀ x, q x = ((x.bank == 1) && (oldI idle tt x.used || oldI hard tt x.born))) := by intro x; rw [hq0, hi0, hh0, ht0]; exact goneR_eq _ _ _ _
  rw [← hq0]
  have RT : Hid (∀ W, Calls Try.prog 21 #[.int .i64 now] W fun e w' => e = .returned (.int .i64 tt) ∧ w' = W) := by intro W; rw [ht0]; exact rtime_any now W
  have FT : Hid (∀ w' u, Below w.heap.size w w' → SlotsAt w.heap.size w' u (L.filter fun x => !(q x)) → RTabTo B w (w'.setCell ⟨r, 0, none⟩ u) r gr R (L.filter fun x => !(q x)) vl) := by
    intro w' u hb hu
    exact h.put hb hu
  have HLL : Hid (∀ x ∈ L, 0 ≤ x.used ∧ x.used ≤ 1099511627776 ∧ 0 ≤ x.born ∧ x.born ≤ 1099511627776) := hL
  rw [← hn0] at hl hc1 hn
  have HL : Hid (GSl SlotE slotV w (.slice o n cap) L) := hl
  unfold maxLen at hc2
  clear hl hn0 h ev hi0 hh0 ht0 hq0 hL hrs
  obtain ⟨ht1, ht2⟩ := htt
  go_enter Try.func37, Try.ntmps37
  go_wp2_with (first | ((with_reducible refine wl_gE rfl ?_); refine wl_build0S rfl rfl ?_; try rw [sz_alloc]))
  go_loopw [5, 6, 7] (fun s5 s6 i wr => ∃ k : Nat, k ≤ n ∧ i = .int .i64 (k : Int) ∧ Hid (TwoL w wr s5 s6 ((L.take k).filter fun x => !(q x)) ((L.take k).filter q))) (fun _ _ i _ => n - (intOf i).toNat)
  case atStart =>
    have b1 : Below w.heap.size w (w.alloc (.cells #[] 38)) := (Below.refl _ _).alloc (Nat.le_refl _) _
    refine ⟨0, Nat.zero_le _, rfl, ?_, ?_, ?_, ?_⟩
    · exact (slots0 w).below ((Below.refl _ _).alloc (Nat.le_refl _) _)
    · have h9 := (slots0 (w.alloc (.cells #[] 38))).base (B' := w.heap.size) (by simp)
      rw [sz_alloc] at h9
      exact h9
    · intro j e1 e2
      simp only [Value.ownBlock, Option.some.injEq] at e1 e2
      omega
    · exact b1.alloc (by simp) _
  case round =>
    obtain ⟨k, hk, rfl, HT⟩ := hrel
    have HB : Hid (Below w.heap.size w wr) := HT.out.b
    by_cases hlt : k < n
    · have hlt' : (k : Int) < (n : Int) := by omega
      have c0 := (HF.out wr HB.out).1
      obtain ⟨g', off, cur, ty, fr, x, rfl, hg, hcc, hxk⟩ := (GSl.below HL.out HB.out).at k hlt
      have K1 : Hid (wr.heap[g']? = some (.cells cur ty fr)) := hg
      have H1 : Hid (∀ j, j < 36 → cur[off + k * 36 + j]? = (slotV x)[j]?) := hcc
      have HX : Hid (L[k]? = some x) := hxk
      obtain ⟨hu1, hu2, hu3, hu4⟩ := HLL.out x (List.mem_of_getElem? hxk)
      have QX := HQ.out x
      have QH : Hid (q x = _) := QX
      clear QX
      obtain ⟨w8, hw8⟩ : ∃ w8, w8 = wr.alloc (.cells (slotV x) 38) := ⟨_, rfl⟩
      have Xw8 : Hid (w8.heap[wr.heap.size]? = some (.cells (slotV x) 38 (0, 0))) := by show _ = _; rw [hw8]; exact heap_new _ _ _ rfl
      have Bw8 : Hid (Below wr.heap.size wr w8) := by show Below _ _ _; rw [hw8]; exact (Below.refl _ _).alloc (Nat.le_refl _) _
      have B8 : Hid (Below w.heap.size w w8) := below_step HB.out HB.out.size Bw8.out
      clear hg hcc hxk
      go_wp2_with (first | ((with_reducible refine wl_gL _ rfl ?_); refine wl_loadS rfl _ rfl g' (off + k * 36) rfl x (ld_row K1.out H1.out) ?_) | ((with_reducible refine wl_gA rfl ?_); refine wl_allocS rfl rfl ?_; try rw [sz_alloc]) | ((with_reducible refine wl_gS _ _ rfl ?_); refine wl_storeS rfl _ _ rfl wr.heap.size x zeroS rfl rfl (heap_new _ _ _ rfl) _ (setRow_new _ _ _ _ _ rfl) ?_); refine of_stopS ?_)
      unfold StopS
      rw [← hw8]
      clear hw8 c0
      obtain ⟨_, _, d2, d3⟩ := HF.out w8 B8.out
      have SF := slf_own Xw8.out
      have s0 : w8.cell? ⟨wr.heap.size, 0, none⟩ = some (.int .i64 x.bank) := SF.c0
      have s8 : w8.cell? ⟨wr.heap.size, 33, none⟩ = some (.int .i64 x.born) := by have := SF.c33; simpa using this
      have s9 : w8.cell? ⟨wr.heap.size, 34, none⟩ = some (.int .i64 x.used) := by have := SF.c34; simpa using this
      clear SF
      have hI := oldI_cases idle tt x.used
      have hH := oldI_cases hard tt x.born
      have ML : Hid (((L.take k).filter q).length ≤ 1000000 ∧ ((L.take k).filter fun x => !(q x)).length ≤ 1000000) := by show _ ∧ _; have := filt_len (l := L) k q; have := filt_len (l := L) k fun x => !(q x); omega
      generalize oldI idle tt x.used = bi at hI QH
      generalize oldI hard tt x.born = bh at hH QH
      rcases hI with ⟨rfl, rfl⟩ | ⟨rfl, i1, i2⟩ | ⟨rfl, i1, i2⟩
      · go_wp2_with fail
        go_quiet (first | (go_at_call 21; exact Calls.quiet_of_same (RT.out _)))
        obtain ⟨w9, hw9⟩ : ∃ w9, w9 = w8.drewN nq := ⟨_, rfl⟩
        have Xw9 : Hid (w9.heap[wr.heap.size]? = some (.cells (slotV x) 38 (0, 0))) := by show _ = _; rw [hw9]; exact Xw8.out
        have Bw9 : Hid (Below wr.heap.size wr w9) := by show Below _ _ _; rw [hw9]; exact below_step Bw8.out Bw8.out.size (below_drewT _ _)
        rw [← hw9]
        clear hw9 d2 d3 s0 s8 s9
        obtain ⟨_, _, d2, d3⟩ := HF.out w9 (below_step HB.out HB.out.size Bw9.out)
        have s0 : w9.cell? ⟨wr.heap.size, 0, none⟩ = some (.int .i64 x.bank) := (slf_own Xw9.out).c0
        have s8 : w9.cell? ⟨wr.heap.size, 33, none⟩ = some (.int .i64 x.born) := by have := (slf_own Xw9.out).c33; simpa using this
        have s9 : w9.cell? ⟨wr.heap.size, 34, none⟩ = some (.int .i64 x.used) := by have := (slf_own Xw9.out).c34; simpa using this
        clear Xw8 Bw8
        rcases hH with ⟨rfl, rfl⟩ | ⟨rfl, j1, j2⟩ | ⟨rfl, j1, j2⟩
        · go_wp2_with fail
          go_quiet (first | (go_at_call 21; exact Calls.quiet_of_same (RT.out _)))
          obtain ⟨w10, hw10⟩ : ∃ w10, w10 = w9.drewN nq := ⟨_, rfl⟩
          have Xw10 : Hid (w10.heap[wr.heap.size]? = some (.cells (slotV x) 38 (0, 0))) := by show _ = _; rw [hw10]; exact Xw9.out
          have Bw10 : Hid (Below wr.heap.size wr w10) := by show Below _ _ _; rw [hw10]; exact below_step Bw9.out Bw9.out.size (below_drewT _ _)
          rw [← hw10]
          clear hw10 d2 d3 s0 s8 s9
          obtain ⟨_, _, d2, d3⟩ := HF.out w10 (below_step HB.out HB.out.size Bw10.out)
          have s0 : w10.cell? ⟨wr.heap.size, 0, none⟩ = some (.int .i64 x.bank) := (slf_own Xw10.out).c0
          have s8 : w10.cell? ⟨wr.heap.size, 33, none⟩ = some (.int .i64 x.born) := by have := (slf_own Xw10.out).c33; simpa using this
          have s9 : w10.cell? ⟨wr.heap.size, 34, none⟩ = some (.int .i64 x.used) := by have := (slf_own Xw10.out).c34; simpa using this
          clear Xw9 Bw9
          by_cases hk1 : x.bank = 1
          · rw [hk1] at s0
            have HE : Hid (q x = false) := by show _ = _; rw [QH.out]; simp
            clear hk1
            go_wp2_with (first | ((with_reducible refine wl_gL _ rfl ?_); refine wl_loadS rfl _ rfl wr.heap.size 0 rfl x (ld_own Xw10.out) ?_) | ((with_reducible refine wl_gB _ rfl ?_); refine wl_build1S rfl _ rfl x rfl ?_; try rw [sz_alloc]) | (at_builtin; refine of_stopS ?_))
            unfold StopS
            refine wl_appendS rfl _ _ rfl w.heap.size u5 ((L.take k).filter fun x => !(q x)) x rfl (HT.out.o.below (Bw10.out.alloc Bw10.out.size _)) w10.heap.size 1 rfl (heap_new _ _ _ rfl) ML.out.2 (by have h1 := HB.out.size; have h2 := Bw10.out.size; simp; omega) ?_
            intro v' w3 hown3 hgr3 hv3
            have T3 : Hid (TwoL w w3 v' u6 ((L.take (k + 1)).filter fun x => !(q x)) ((L.take (k + 1)).filter q)) := by
              show TwoL _ _ _ _ _ _
              rw [filt_no HX.out HE.out, filt_yes (q := fun x => !(q x)) HX.out (by rw [HE.out]; rfl)]
              exact HT.out.addO (Bw10.out.alloc Bw10.out.size _) hown3 hgr3 hv3
            clear hown3 hgr3 hv3
            simp only [Act.put, List.setIfInBounds_toArray, List.set_cons_succ, List.set_cons_zero]
            go_wp2_with fail
            go_roundw
            case rel => exact ⟨k + 1, by omega, by go_num, T3⟩
            case measure => simp [intOf]; omega
          · have hk2 : (x.bank == 1) = false := by simpa using hk1
            have HE : Hid (q x = false) := by show _ = _; rw [QH.out]; simp
            go_wp2_with (first | ((with_reducible refine wl_gL _ rfl ?_); refine wl_loadS rfl _ rfl wr.heap.size 0 rfl x (ld_own Xw10.out) ?_) | ((with_reducible refine wl_gB _ rfl ?_); refine wl_build1S rfl _ rfl x rfl ?_; try rw [sz_alloc]) | (at_builtin; refine of_stopS ?_))
            unfold StopS
            refine wl_appendS rfl _ _ rfl w.heap.size u5 ((L.take k).filter fun x => !(q x)) x rfl (HT.out.o.below (Bw10.out.alloc Bw10.out.size _)) w10.heap.size 1 rfl (heap_new _ _ _ rfl) ML.out.2 (by have h1 := HB.out.size; have h2 := Bw10.out.size; simp; omega) ?_
            intro v' w3 hown3 hgr3 hv3
            have T3 : Hid (TwoL w w3 v' u6 ((L.take (k + 1)).filter fun x => !(q x)) ((L.take (k + 1)).filter q)) := by
              show TwoL _ _ _ _ _ _
              rw [filt_no HX.out HE.out, filt_yes (q := fun x => !(q x)) HX.out (by rw [HE.out]; rfl)]
              exact HT.out.addO (Bw10.out.alloc Bw10.out.size _) hown3 hgr3 hv3
            clear hown3 hgr3 hv3
            simp only [Act.put, List.setIfInBounds_toArray, List.set_cons_succ, List.set_cons_zero]
            go_wp2_with fail
            go_roundw
            case rel => exact ⟨k + 1, by omega, by go_num, T3⟩
            case measure => simp [intOf]; omega
        · go_wp2_with fail
          go_quiet (first | (go_at_call 21; exact Calls.quiet_of_same (RT.out _)))
          have e9 : (hard != 0 && decide (hard ≤ tt - x.born)) = true := by simp [j1]; omega
          try rw [e9]
          clear e9
          obtain ⟨w10, hw10⟩ : ∃ w10, w10 = w9.drewN nq := ⟨_, rfl⟩
          have Xw10 : Hid (w10.heap[wr.heap.size]? = some (.cells (slotV x) 38 (0, 0))) := by show _ = _; rw [hw10]; exact Xw9.out
          have Bw10 : Hid (Below wr.heap.size wr w10) := by show Below _ _ _; rw [hw10]; exact below_step Bw9.out Bw9.out.size (below_drewT _ _)
          rw [← hw10]
          clear hw10 d2 d3 s0 s8 s9
          obtain ⟨_, _, d2, d3⟩ := HF.out w10 (below_step HB.out HB.out.size Bw10.out)
          have s0 : w10.cell? ⟨wr.heap.size, 0, none⟩ = some (.int .i64 x.bank) := (slf_own Xw10.out).c0
          have s8 : w10.cell? ⟨wr.heap.size, 33, none⟩ = some (.int .i64 x.born) := by have := (slf_own Xw10.out).c33; simpa using this
          have s9 : w10.cell? ⟨wr.heap.size, 34, none⟩ = some (.int .i64 x.used) := by have := (slf_own Xw10.out).c34; simpa using this
          clear Xw9 Bw9
          by_cases hk1 : x.bank = 1
          · rw [hk1] at s0
            have HE : Hid (q x = true) := by show _ = _; rw [QH.out]; simp [hk1]
            clear hk1
            go_wp2_with (first | ((with_reducible refine wl_gL _ rfl ?_); refine wl_loadS rfl _ rfl wr.heap.size 0 rfl x (ld_own Xw10.out) ?_) | ((with_reducible refine wl_gB _ rfl ?_); refine wl_build1S rfl _ rfl x rfl ?_; try rw [sz_alloc]) | (at_builtin; refine of_stopS ?_))
            unfold StopS
            refine wl_appendS rfl _ _ rfl w.heap.size u6 ((L.take k).filter q) x rfl (HT.out.g.below (Bw10.out.alloc Bw10.out.size _)) w10.heap.size 1 rfl (heap_new _ _ _ rfl) ML.out.1 (by have h1 := HB.out.size; have h2 := Bw10.out.size; simp; omega) ?_
            intro v' w3 hown3 hgr3 hv3
            have T3 : Hid (TwoL w w3 u5 v' ((L.take (k + 1)).filter fun x => !(q x)) ((L.take (k + 1)).filter q)) := by
              show TwoL _ _ _ _ _ _
              rw [filt_yes HX.out HE.out, filt_no (q := fun x => !(q x)) HX.out (by rw [HE.out]; rfl)]
              exact HT.out.addG (Bw10.out.alloc Bw10.out.size _) hown3 hgr3 hv3
            clear hown3 hgr3 hv3
            simp only [Act.put, List.setIfInBounds_toArray, List.set_cons_succ, List.set_cons_zero]
            go_wp2_with fail
            go_roundw
            case rel => exact ⟨k + 1, by omega, by go_num, T3⟩
            case measure => simp [intOf]; omega
          · have hk2 : (x.bank == 1) = false := by simpa using hk1
            have HE : Hid (q x = false) := by show _ = _; rw [QH.out]; simp [hk1]
            go_wp2_with (first | ((with_reducible refine wl_gL _ rfl ?_); refine wl_loadS rfl _ rfl wr.heap.size 0 rfl x (ld_own Xw10.out) ?_) | ((with_reducible refine wl_gB _ rfl ?_); refine wl_build1S rfl _ rfl x rfl ?_; try rw [sz_alloc]) | (at_builtin; refine of_stopS ?_))
            unfold StopS
            refine wl_appendS rfl _ _ rfl w.heap.size u5 ((L.take k).filter fun x => !(q x)) x rfl (HT.out.o.below (Bw10.out.alloc Bw10.out.size _)) w10.heap.size 1 rfl (heap_new _ _ _ rfl) ML.out.2 (by have h1 := HB.out.size; have h2 := Bw10.out.size; simp; omega) ?_
            intro v' w3 hown3 hgr3 hv3
            have T3 : Hid (TwoL w w3 v' u6 ((L.take (k + 1)).filter fun x => !(q x)) ((L.take (k + 1)).filter q)) := by
              show TwoL _ _ _ _ _ _
              rw [filt_no HX.out HE.out, filt_yes (q := fun x => !(q x)) HX.out (by rw [HE.out]; rfl)]
              exact HT.out.addO (Bw10.out.alloc Bw10.out.size _) hown3 hgr3 hv3
            clear hown3 hgr3 hv3
            simp only [Act.put, List.setIfInBounds_toArray, List.set_cons_succ, List.set_cons_zero]
            go_wp2_with fail
            go_roundw
            case rel => exact ⟨k + 1, by omega, by go_num, T3⟩
            case measure => simp [intOf]; omega
        · go_wp2_with fail
          go_quiet (first | (go_at_call 21; exact Calls.quiet_of_same (RT.out _)))
          have e9 : (hard != 0 && decide (hard ≤ tt - x.born)) = false := by simp [j1]; omega
          try rw [e9]
          clear e9
          obtain ⟨w10, hw10⟩ : ∃ w10, w10 = w9.drewN nq := ⟨_, rfl⟩
          have Xw10 : Hid (w10.heap[wr.heap.size]? = some (.cells (slotV x) 38 (0, 0))) := by show _ = _; rw [hw10]; exact Xw9.out
          have Bw10 : Hid (Below wr.heap.size wr w10) := by show Below _ _ _; rw [hw10]; exact below_step Bw9.out Bw9.out.size (below_drewT _ _)
          rw [← hw10]
          clear hw10 d2 d3 s0 s8 s9
          obtain ⟨_, _, d2, d3⟩ := HF.out w10 (below_step HB.out HB.out.size Bw10.out)
          have s0 : w10.cell? ⟨wr.heap.size, 0, none⟩ = some (.int .i64 x.bank) := (slf_own Xw10.out).c0
          have s8 : w10.cell? ⟨wr.heap.size, 33, none⟩ = some (.int .i64 x.born) := by have := (slf_own Xw10.out).c33; simpa using this
          have s9 : w10.cell? ⟨wr.heap.size, 34, none⟩ = some (.int .i64 x.used) := by have := (slf_own Xw10.out).c34; simpa using this
          clear Xw9 Bw9
          by_cases hk1 : x.bank = 1
          · rw [hk1] at s0
            have HE : Hid (q x = false) := by show _ = _; rw [QH.out]; simp
            clear hk1
            go_wp2_with (first | ((with_reducible refine wl_gL _ rfl ?_); refine wl_loadS rfl _ rfl wr.heap.size 0 rfl x (ld_own Xw10.out) ?_) | ((with_reducible refine wl_gB _ rfl ?_); refine wl_build1S rfl _ rfl x rfl ?_; try rw [sz_alloc]) | (at_builtin; refine of_stopS ?_))
            unfold StopS
            refine wl_appendS rfl _ _ rfl w.heap.size u5 ((L.take k).filter fun x => !(q x)) x rfl (HT.out.o.below (Bw10.out.alloc Bw10.out.size _)) w10.heap.size 1 rfl (heap_new _ _ _ rfl) ML.out.2 (by have h1 := HB.out.size; have h2 := Bw10.out.size; simp; omega) ?_
            intro v' w3 hown3 hgr3 hv3
            have T3 : Hid (TwoL w w3 v' u6 ((L.take (k + 1)).filter fun x => !(q x)) ((L.take (k + 1)).filter q)) := by
              show TwoL _ _ _ _ _ _
              rw [filt_no HX.out HE.out, filt_yes (q := fun x => !(q x)) HX.out (by rw [HE.out]; rfl)]
              exact HT.out.addO (Bw10.out.alloc Bw10.out.size _) hown3 hgr3 hv3
            clear hown3 hgr3 hv3
            simp only [Act.put, List.setIfInBounds_toArray, List.set_cons_succ, List.set_cons_zero]
            go_wp2_with fail
            go_roundw
            case rel => exact ⟨k + 1, by omega, by go_num, T3⟩
            case measure => simp [intOf]; omega
          · have hk2 : (x.bank == 1) = false := by simpa using hk1
            have HE : Hid (q x = false) := by show _ = _; rw [QH.out]; simp
            go_wp2_with (first | ((with_reducible refine wl_gL _ rfl ?_); refine wl_loadS rfl _ rfl wr.heap.size 0 rfl x (ld_own Xw10.out) ?_) | ((with_reducible refine wl_gB _ rfl ?_); refine wl_build1S rfl _ rfl x rfl ?_; try rw [sz_alloc]) | (at_builtin; refine of_stopS ?_))
            unfold StopS
            refine wl_appendS rfl _ _ rfl w.heap.size u5 ((L.take k).filter fun x => !(q x)) x rfl (HT.out.o.below (Bw10.out.alloc Bw10.out.size _)) w10.heap.size 1 rfl (heap_new _ _ _ rfl) ML.out.2 (by have h1 := HB.out.size; have h2 := Bw10.out.size; simp; omega) ?_
            intro v' w3 hown3 hgr3 hv3
            have T3 : Hid (TwoL w w3 v' u6 ((L.take (k + 1)).filter fun x => !(q x)) ((L.take (k + 1)).filter q)) := by
              show TwoL _ _ _ _ _ _
              rw [filt_no HX.out HE.out, filt_yes (q := fun x => !(q x)) HX.out (by rw [HE.out]; rfl)]
              exact HT.out.addO (Bw10.out.alloc Bw10.out.size _) hown3 hgr3 hv3
            clear hown3 hgr3 hv3
            simp only [Act.put, List.setIfInBounds_toArray, List.set_cons_succ, List.set_cons_zero]
            go_wp2_with fail
            go_roundw
            case rel => exact ⟨k + 1, by omega, by go_num, T3⟩
            case measure => simp [intOf]; omega
      · go_wp2_with fail
        go_quiet (first | (go_at_call 21; exact Calls.quiet_of_same (RT.out _)))
        have e9 : (idle != 0 && decide (idle ≤ tt - x.used)) = true := by simp [i1]; omega
        try rw [e9]
        clear e9
        obtain ⟨w9, hw9⟩ : ∃ w9, w9 = w8.drewN nq := ⟨_, rfl⟩
        have Xw9 : Hid (w9.heap[wr.heap.size]? = some (.cells (slotV x) 38 (0, 0))) := by show _ = _; rw [hw9]; exact Xw8.out
        have Bw9 : Hid (Below wr.heap.size wr w9) := by show Below _ _ _; rw [hw9]; exact below_step Bw8.out Bw8.out.size (below_drewT _ _)
        rw [← hw9]
        clear hw9 d2 d3 s0 s8 s9
        obtain ⟨_, _, d2, d3⟩ := HF.out w9 (below_step HB.out HB.out.size Bw9.out)
        have s0 : w9.cell? ⟨wr.heap.size, 0, none⟩ = some (.int .i64 x.bank) := (slf_own Xw9.out).c0
        have s8 : w9.cell? ⟨wr.heap.size, 33, none⟩ = some (.int .i64 x.born) := by have := (slf_own Xw9.out).c33; simpa using this
        have s9 : w9.cell? ⟨wr.heap.size, 34, none⟩ = some (.int .i64 x.used) := by have := (slf_own Xw9.out).c34; simpa using this
        clear Xw8 Bw8
        rcases hH with ⟨rfl, rfl⟩ | ⟨rfl, j1, j2⟩ | ⟨rfl, j1, j2⟩
        · go_wp2_with fail
          go_quiet (first | (go_at_call 21; exact Calls.quiet_of_same (RT.out _)))
          obtain ⟨w10, hw10⟩ : ∃ w10, w10 = w9.drewN nq := ⟨_, rfl⟩
          have Xw10 : Hid (w10.heap[wr.heap.size]? = some (.cells (slotV x) 38 (0, 0))) := by show _ = _; rw [hw10]; exact Xw9.out
          have Bw10 : Hid (Below wr.heap.size wr w10) := by show Below _ _ _; rw [hw10]; exact below_step Bw9.out Bw9.out.size (below_drewT _ _)
          rw [← hw10]
          clear hw10 d2 d3 s0 s8 s9
          obtain ⟨_, _, d2, d3⟩ := HF.out w10 (below_step HB.out HB.out.size Bw10.out)
          have s0 : w10.cell? ⟨wr.heap.size, 0, none⟩ = some (.int .i64 x.bank) := (slf_own Xw10.out).c0
          have s8 : w10.cell? ⟨wr.heap.size, 33, none⟩ = some (.int .i64 x.born) := by have := (slf_own Xw10.out).c33; simpa using this
          have s9 : w10.cell? ⟨wr.heap.size, 34, none⟩ = some (.int .i64 x.used) := by have := (slf_own Xw10.out).c34; simpa using this
          clear Xw9 Bw9
          by_cases hk1 : x.bank = 1
          · rw [hk1] at s0
            have HE : Hid (q x = true) := by show _ = _; rw [QH.out]; simp [hk1]
            clear hk1
            go_wp2_with (first | ((with_reducible refine wl_gL _ rfl ?_); refine wl_loadS rfl _ rfl wr.heap.size 0 rfl x (ld_own Xw10.out) ?_) | ((with_reducible refine wl_gB _ rfl ?_); refine wl_build1S rfl _ rfl x rfl ?_; try rw [sz_alloc]) | (at_builtin; refine of_stopS ?_))
            unfold StopS
            refine wl_appendS rfl _ _ rfl w.heap.size u6 ((L.take k).filter q) x rfl (HT.out.g.below (Bw10.out.alloc Bw10.out.size _)) w10.heap.size 1 rfl (heap_new _ _ _ rfl) ML.out.1 (by have h1 := HB.out.size; have h2 := Bw10.out.size; simp; omega) ?_
            intro v' w3 hown3 hgr3 hv3
            have T3 : Hid (TwoL w w3 u5 v' ((L.take (k + 1)).filter fun x => !(q x)) ((L.take (k + 1)).filter q)) := by
              show TwoL _ _ _ _ _ _
              rw [filt_yes HX.out HE.out, filt_no (q := fun x => !(q x)) HX.out (by rw [HE.out]; rfl)]
              exact HT.out.addG (Bw10.out.alloc Bw10.out.size _) hown3 hgr3 hv3
            clear hown3 hgr3 hv3
            simp only [Act.put, List.setIfInBounds_toArray, List.set_cons_succ, List.set_cons_zero]
            go_wp2_with fail
            go_roundw
            case rel => exact ⟨k + 1, by omega, by go_num, T3⟩
            case measure => simp [intOf]; omega
          · have hk2 : (x.bank == 1) = false := by simpa using hk1
            have HE : Hid (q x = false) := by show _ = _; rw [QH.out]; simp [hk1]
            go_wp2_with (first | ((with_reducible refine wl_gL _ rfl ?_); refine wl_loadS rfl _ rfl wr.heap.size 0 rfl x (ld_own Xw10.out) ?_) | ((with_reducible refine wl_gB _ rfl ?_); refine wl_build1S rfl _ rfl x rfl ?_; try rw [sz_alloc]) | (at_builtin; refine of_stopS ?_))
            unfold StopS
            refine wl_appendS rfl _ _ rfl w.heap.size u5 ((L.take k).filter fun x => !(q x)) x rfl (HT.out.o.below (Bw10.out.alloc Bw10.out.size _)) w10.heap.size 1 rfl (heap_new _ _ _ rfl) ML.out.2 (by have h1 := HB.out.size; have h2 := Bw10.out.size; simp; omega) ?_
            intro v' w3 hown3 hgr3 hv3
            have T3 : Hid (TwoL w w3 v' u6 ((L.take (k + 1)).filter fun x => !(q x)) ((L.take (k + 1)).filter q)) := by
              show TwoL _ _ _ _ _ _
              rw [filt_no HX.out HE.out, filt_yes (q := fun x => !(q x)) HX.out (by rw [HE.out]; rfl)]
              exact HT.out.addO (Bw10.out.alloc Bw10.out.size _) hown3 hgr3 hv3
            clear hown3 hgr3 hv3
            simp only [Act.put, List.setIfInBounds_toArray, List.set_cons_succ, List.set_cons_zero]
            go_wp2_with fail
            go_roundw
            case rel => exact ⟨k + 1, by omega, by go_num, T3⟩
            case measure => simp [intOf]; omega
        · go_wp2_with fail
          go_quiet (first | (go_at_call 21; exact Calls.quiet_of_same (RT.out _)))
          have e9 : (hard != 0 && decide (hard ≤ tt - x.born)) = true := by simp [j1]; omega
          try rw [e9]
          clear e9
          obtain ⟨w10, hw10⟩ : ∃ w10, w10 = w9.drewN nq := ⟨_, rfl⟩
          have Xw10 : Hid (w10.heap[wr.heap.size]? = some (.cells (slotV x) 38 (0, 0))) := by show _ = _; rw [hw10]; exact Xw9.out
          have Bw10 : Hid (Below wr.heap.size wr w10) := by show Below _ _ _; rw [hw10]; exact below_step Bw9.out Bw9.out.size (below_drewT _ _)
          rw [← hw10]
          clear hw10 d2 d3 s0 s8 s9
          obtain ⟨_, _, d2, d3⟩ := HF.out w10 (below_step HB.out HB.out.size Bw10.out)
          have s0 : w10.cell? ⟨wr.heap.size, 0, none⟩ = some (.int .i64 x.bank) := (slf_own Xw10.out).c0
          have s8 : w10.cell? ⟨wr.heap.size, 33, none⟩ = some (.int .i64 x.born) := by have := (slf_own Xw10.out).c33; simpa using this
          have s9 : w10.cell? ⟨wr.heap.size, 34, none⟩ = some (.int .i64 x.used) := by have := (slf_own Xw10.out).c34; simpa using this
          clear Xw9 Bw9
          by_cases hk1 : x.bank = 1
          · rw [hk1] at s0
            have HE : Hid (q x = true) := by show _ = _; rw [QH.out]; simp [hk1]
            clear hk1
            go_wp2_with (first | ((with_reducible refine wl_gL _ rfl ?_); refine wl_loadS rfl _ rfl wr.heap.size 0 rfl x (ld_own Xw10.out) ?_) | ((with_reducible refine wl_gB _ rfl ?_); refine wl_build1S rfl _ rfl x rfl ?_; try rw [sz_alloc]) | (at_builtin; refine of_stopS ?_))
            unfold StopS
            refine wl_appendS rfl _ _ rfl w.heap.size u6 ((L.take k).filter q) x rfl (HT.out.g.below (Bw10.out.alloc Bw10.out.size _)) w10.heap.size 1 rfl (heap_new _ _ _ rfl) ML.out.1 (by have h1 := HB.out.size; have h2 := Bw10.out.size; simp; omega) ?_
            intro v' w3 hown3 hgr3 hv3
            have T3 : Hid (TwoL w w3 u5 v' ((L.take (k + 1)).filter fun x => !(q x)) ((L.take (k + 1)).filter q)) := by
              show TwoL _ _ _ _ _ _
              rw [filt_yes HX.out HE.out, filt_no (q := fun x => !(q x)) HX.out (by rw [HE.out]; rfl)]
              exact HT.out.addG (Bw10.out.alloc Bw10.out.size _) hown3 hgr3 hv3
            clear hown3 hgr3 hv3
            simp only [Act.put, List.setIfInBounds_toArray, List.set_cons_succ, List.set_cons_zero]
            go_wp2_with fail
            go_roundw
            case rel => exact ⟨k + 1, by omega, by go_num, T3⟩
            case measure => simp [intOf]; omega
          · have hk2 : (x.bank == 1) = false := by simpa using hk1
            have HE : Hid (q x = false) := by show _ = _; rw [QH.out]; simp [hk1]
            go_wp2_with (first | ((with_reducible refine wl_gL _ rfl ?_); refine wl_loadS rfl _ rfl wr.heap.size 0 rfl x (ld_own Xw10.out) ?_) | ((with_reducible refine wl_gB _ rfl ?_); refine wl_build1S rfl _ rfl x rfl ?_; try rw [sz_alloc]) | (at_builtin; refine of_stopS ?_))
            unfold StopS
            refine wl_appendS rfl _ _ rfl w.heap.size u5 ((L.take k).filter fun x => !(q x)) x rfl (HT.out.o.below (Bw10.out.alloc Bw10.out.size _)) w10.heap.size 1 rfl (heap_new _ _ _ rfl) ML.out.2 (by have h1 := HB.out.size; have h2 := Bw10.out.size; simp; omega) ?_
            intro v' w3 hown3 hgr3 hv3
            have T3 : Hid (TwoL w w3 v' u6 ((L.take (k + 1)).filter fun x => !(q x)) ((L.take (k + 1)).filter q)) := by
              show TwoL _ _ _ _ _ _
              rw [filt_no HX.out HE.out, filt_yes (q := fun x => !(q x)) HX.out (by rw [HE.out]; rfl)]
              exact HT.out.addO (Bw10.out.alloc Bw10.out.size _) hown3 hgr3 hv3
            clear hown3 hgr3 hv3
            simp only [Act.put, List.setIfInBounds_toArray, List.set_cons_succ, List.set_cons_zero]
            go_wp2_with fail
            go_roundw
            case rel => exact ⟨k + 1, by omega, by go_num, T3⟩
            case measure => simp [intOf]; omega
        · go_wp2_with fail
          go_quiet (first | (go_at_call 21; exact Calls.quiet_of_same (RT.out _)))
          have e9 : (hard != 0 && decide (hard ≤ tt - x.born)) = false := by simp [j1]; omega
          try rw [e9]
          clear e9
          obtain ⟨w10, hw10⟩ : ∃ w10, w10 = w9.drewN nq := ⟨_, rfl⟩
          have Xw10 : Hid (w10.heap[wr.heap.size]? = some (.cells (slotV x) 38 (0, 0))) := by show _ = _; rw [hw10]; exact Xw9.out
          have Bw10 : Hid (Below wr.heap.size wr w10) := by show Below _ _ _; rw [hw10]; exact below_step Bw9.out Bw9.out.size (below_drewT _ _)
          rw [← hw10]
          clear hw10 d2 d3 s0 s8 s9
          obtain ⟨_, _, d2, d3⟩ := HF.out w10 (below_step HB.out HB.out.size Bw10.out)
          have s0 : w10.cell? ⟨wr.heap.size, 0, none⟩ = some (.int .i64 x.bank) := (slf_own Xw10.out).c0
          have s8 : w10.cell? ⟨wr.heap.size, 33, none⟩ = some (.int .i64 x.born) := by have := (slf_own Xw10.out).c33; simpa using this
          have s9 : w10.cell? ⟨wr.heap.size, 34, none⟩ = some (.int .i64 x.used) := by have := (slf_own Xw10.out).c34; simpa using this
          clear Xw9 Bw9
          by_cases hk1 : x.bank = 1
          · rw [hk1] at s0
            have HE : Hid (q x = true) := by show _ = _; rw [QH.out]; simp [hk1]
            clear hk1
            go_wp2_with (first | ((with_reducible refine wl_gL _ rfl ?_); refine wl_loadS rfl _ rfl wr.heap.size 0 rfl x (ld_own Xw10.out) ?_) | ((with_reducible refine wl_gB _ rfl ?_); refine wl_build1S rfl _ rfl x rfl ?_; try rw [sz_alloc]) | (at_builtin; refine of_stopS ?_))
            unfold StopS
            refine wl_appendS rfl _ _ rfl w.heap.size u6 ((L.take k).filter q) x rfl (HT.out.g.below (Bw10.out.alloc Bw10.out.size _)) w10.heap.size 1 rfl (heap_new _ _ _ rfl) ML.out.1 (by have h1 := HB.out.size; have h2 := Bw10.out.size; simp; omega) ?_
            intro v' w3 hown3 hgr3 hv3
            have T3 : Hid (TwoL w w3 u5 v' ((L.take (k + 1)).filter fun x => !(q x)) ((L.take (k + 1)).filter q)) := by
              show TwoL _ _ _ _ _ _
              rw [filt_yes HX.out HE.out, filt_no (q := fun x => !(q x)) HX.out (by rw [HE.out]; rfl)]
              exact HT.out.addG (Bw10.out.alloc Bw10.out.size _) hown3 hgr3 hv3
            clear hown3 hgr3 hv3
            simp only [Act.put, List.setIfInBounds_toArray, List.set_cons_succ, List.set_cons_zero]
            go_wp2_with fail
            go_roundw
            case rel => exact ⟨k + 1, by omega, by go_num, T3⟩
            case measure => simp [intOf]; omega
          · have hk2 : (x.bank == 1) = false := by simpa using hk1
            have HE : Hid (q x = false) := by show _ = _; rw [QH.out]; simp [hk1]
            go_wp2_with (first | ((with_reducible refine wl_gL _ rfl ?_); refine wl_loadS rfl _ rfl wr.heap.size 0 rfl x (ld_own Xw10.out) ?_) | ((with_reducible refine wl_gB _ rfl ?_); refine wl_build1S rfl _ rfl x rfl ?_; try rw [sz_alloc]) | (at_builtin; refine of_stopS ?_))
            unfold StopS
            refine wl_appendS rfl _ _ rfl w.heap.size u5 ((L.take k).filter fun x => !(q x)) x rfl (HT.out.o.below (Bw10.out.alloc Bw10.out.size _)) w10.heap.size 1 rfl (heap_new _ _ _ rfl) ML.out.2 (by have h1 := HB.out.size; have h2 := Bw10.out.size; simp; omega) ?_
            intro v' w3 hown3 hgr3 hv3
            have T3 : Hid (TwoL w w3 v' u6 ((L.take (k + 1)).filter fun x => !(q x)) ((L.take (k + 1)).filter q)) := by
              show TwoL _ _ _ _ _ _
              rw [filt_no HX.out HE.out, filt_yes (q := fun x => !(q x)) HX.out (by rw [HE.out]; rfl)]
              exact HT.out.addO (Bw10.out.alloc Bw10.out.size _) hown3 hgr3 hv3
            clear hown3 hgr3 hv3
            simp only [Act.put, List.setIfInBounds_toArray, List.set_cons_succ, List.set_cons_zero]
            go_wp2_with fail
            go_roundw
            case rel => exact ⟨k + 1, by omega, by go_num, T3⟩
            case measure => simp [intOf]; omega
      · go_wp2_with fail
        go_quiet (first | (go_at_call 21; exact Calls.quiet_of_same (RT.out _)))
        have e9 : (idle != 0 && decide (idle ≤ tt - x.used)) = false := by simp [i1]; omega
        try rw [e9]
        clear e9
        obtain ⟨w9, hw9⟩ : ∃ w9, w9 = w8.drewN nq := ⟨_, rfl⟩
        have Xw9 : Hid (w9.heap[wr.heap.size]? = some (.cells (slotV x) 38 (0, 0))) := by show _ = _; rw [hw9]; exact Xw8.out
        have Bw9 : Hid (Below wr.heap.size wr w9) := by show Below _ _ _; rw [hw9]; exact below_step Bw8.out Bw8.out.size (below_drewT _ _)
        rw [← hw9]
        clear hw9 d2 d3 s0 s8 s9
        obtain ⟨_, _, d2, d3⟩ := HF.out w9 (below_step HB.out HB.out.size Bw9.out)
        have s0 : w9.cell? ⟨wr.heap.size, 0, none⟩ = some (.int .i64 x.bank) := (slf_own Xw9.out).c0
        have s8 : w9.cell? ⟨wr.heap.size, 33, none⟩ = some (.int .i64 x.born) := by have := (slf_own Xw9.out).c33; simpa using this
        have s9 : w9.cell? ⟨wr.heap.size, 34, none⟩ = some (.int .i64 x.used) := by have := (slf_own Xw9.out).c34; simpa using this
        clear Xw8 Bw8
        rcases hH with ⟨rfl, rfl⟩ | ⟨rfl, j1, j2⟩ | ⟨rfl, j1, j2⟩
        · go_wp2_with fail
          go_quiet (first | (go_at_call 21; exact Calls.quiet_of_same (RT.out _)))
          obtain ⟨w10, hw10⟩ : ∃ w10, w10 = w9.drewN nq := ⟨_, rfl⟩
          have Xw10 : Hid (w10.heap[wr.heap.size]? = some (.cells (slotV x) 38 (0, 0))) := by show _ = _; rw [hw10]; exact Xw9.out
          have Bw10 : Hid (Below wr.heap.size wr w10) := by show Below _ _ _; rw [hw10]; exact below_step Bw9.out Bw9.out.size (below_drewT _ _)
          rw [← hw10]
          clear hw10 d2 d3 s0 s8 s9
          obtain ⟨_, _, d2, d3⟩ := HF.out w10 (below_step HB.out HB.out.size Bw10.out)
          have s0 : w10.cell? ⟨wr.heap.size, 0, none⟩ = some (.int .i64 x.bank) := (slf_own Xw10.out).c0
          have s8 : w10.cell? ⟨wr.heap.size, 33, none⟩ = some (.int .i64 x.born) := by have := (slf_own Xw10.out).c33; simpa using this
          have s9 : w10.cell? ⟨wr.heap.size, 34, none⟩ = some (.int .i64 x.used) := by have := (slf_own Xw10.out).c34; simpa using this
          clear Xw9 Bw9
          by_cases hk1 : x.bank = 1
          · rw [hk1] at s0
            have HE : Hid (q x = false) := by show _ = _; rw [QH.out]; simp
            clear hk1
            go_wp2_with (first | ((with_reducible refine wl_gL _ rfl ?_); refine wl_loadS rfl _ rfl wr.heap.size 0 rfl x (ld_own Xw10.out) ?_) | ((with_reducible refine wl_gB _ rfl ?_); refine wl_build1S rfl _ rfl x rfl ?_; try rw [sz_alloc]) | (at_builtin; refine of_stopS ?_))
            unfold StopS
            refine wl_appendS rfl _ _ rfl w.heap.size u5 ((L.take k).filter fun x => !(q x)) x rfl (HT.out.o.below (Bw10.out.alloc Bw10.out.size _)) w10.heap.size 1 rfl (heap_new _ _ _ rfl) ML.out.2 (by have h1 := HB.out.size; have h2 := Bw10.out.size; simp; omega) ?_
            intro v' w3 hown3 hgr3 hv3
            have T3 : Hid (TwoL w w3 v' u6 ((L.take (k + 1)).filter fun x => !(q x)) ((L.take (k + 1)).filter q)) := by
              show TwoL _ _ _ _ _ _
              rw [filt_no HX.out HE.out, filt_yes (q := fun x => !(q x)) HX.out (by rw [HE.out]; rfl)]
              exact HT.out.addO (Bw10.out.alloc Bw10.out.size _) hown3 hgr3 hv3
            clear hown3 hgr3 hv3
            simp only [Act.put, List.setIfInBounds_toArray, List.set_cons_succ, List.set_cons_zero]
            go_wp2_with fail
            go_roundw
            case rel => exact ⟨k + 1, by omega, by go_num, T3⟩
            case measure => simp [intOf]; omega
          · have hk2 : (x.bank == 1) = false := by simpa using hk1
            have HE : Hid (q x = false) := by show _ = _; rw [QH.out]; simp
            go_wp2_with (first | ((with_reducible refine wl_gL _ rfl ?_); refine wl_loadS rfl _ rfl wr.heap.size 0 rfl x (ld_own Xw10.out) ?_) | ((with_reducible refine wl_gB _ rfl ?_); refine wl_build1S rfl _ rfl x rfl ?_; try rw [sz_alloc]) | (at_builtin; refine of_stopS ?_))
            unfold StopS
            refine wl_appendS rfl _ _ rfl w.heap.size u5 ((L.take k).filter fun x => !(q x)) x rfl (HT.out.o.below (Bw10.out.alloc Bw10.out.size _)) w10.heap.size 1 rfl (heap_new _ _ _ rfl) ML.out.2 (by have h1 := HB.out.size; have h2 := Bw10.out.size; simp; omega) ?_
            intro v' w3 hown3 hgr3 hv3
            have T3 : Hid (TwoL w w3 v' u6 ((L.take (k + 1)).filter fun x => !(q x)) ((L.take (k + 1)).filter q)) := by
              show TwoL _ _ _ _ _ _
              rw [filt_no HX.out HE.out, filt_yes (q := fun x => !(q x)) HX.out (by rw [HE.out]; rfl)]
              exact HT.out.addO (Bw10.out.alloc Bw10.out.size _) hown3 hgr3 hv3
            clear hown3 hgr3 hv3
            simp only [Act.put, List.setIfInBounds_toArray, List.set_cons_succ, List.set_cons_zero]
            go_wp2_with fail
            go_roundw
            case rel => exact ⟨k + 1, by omega, by go_num, T3⟩
            case measure => simp [intOf]; omega
        · go_wp2_with fail
          go_quiet (first | (go_at_call 21; exact Calls.quiet_of_same (RT.out _)))
          have e9 : (hard != 0 && decide (hard ≤ tt - x.born)) = true := by simp [j1]; omega
          try rw [e9]
          clear e9
          obtain ⟨w10, hw10⟩ : ∃ w10, w10 = w9.drewN nq := ⟨_, rfl⟩
          have Xw10 : Hid (w10.heap[wr.heap.size]? = some (.cells (slotV x) 38 (0, 0))) := by show _ = _; rw [hw10]; exact Xw9.out
          have Bw10 : Hid (Below wr.heap.size wr w10) := by show Below _ _ _; rw [hw10]; exact below_step Bw9.out Bw9.out.size (below_drewT _ _)
          rw [← hw10]
          clear hw10 d2 d3 s0 s8 s9
          obtain ⟨_, _, d2, d3⟩ := HF.out w10 (below_step HB.out HB.out.size Bw10.out)
          have s0 : w10.cell? ⟨wr.heap.size, 0, none⟩ = some (.int .i64 x.bank) := (slf_own Xw10.out).c0
          have s8 : w10.cell? ⟨wr.heap.size, 33, none⟩ = some (.int .i64 x.born) := by have := (slf_own Xw10.out).c33; simpa using this
          have s9 : w10.cell? ⟨wr.heap.size, 34, none⟩ = some (.int .i64 x.used) := by have := (slf_own Xw10.out).c34; simpa using this
          clear Xw9 Bw9
          by_cases hk1 : x.bank = 1
          · rw [hk1] at s0
            have HE : Hid (q x = true) := by show _ = _; rw [QH.out]; simp [hk1]
            clear hk1
            go_wp2_with (first | ((with_reducible refine wl_gL _ rfl ?_); refine wl_loadS rfl _ rfl wr.heap.size 0 rfl x (ld_own Xw10.out) ?_) | ((with_reducible refine wl_gB _ rfl ?_); refine wl_build1S rfl _ rfl x rfl ?_; try rw [sz_alloc]) | (at_builtin; refine of_stopS ?_))
            unfold StopS
            refine wl_appendS rfl _ _ rfl w.heap.size u6 ((L.take k).filter q) x rfl (HT.out.g.below (Bw10.out.alloc Bw10.out.size _)) w10.heap.size 1 rfl (heap_new _ _ _ rfl) ML.out.1 (by have h1 := HB.out.size; have h2 := Bw10.out.size; simp; omega) ?_
            intro v' w3 hown3 hgr3 hv3
            have T3 : Hid (TwoL w w3 u5 v' ((L.take (k + 1)).filter fun x => !(q x)) ((L.take (k + 1)).filter q)) := by
              show TwoL _ _ _ _ _ _
              rw [filt_yes HX.out HE.out, filt_no (q := fun x => !(q x)) HX.out (by rw [HE.out]; rfl)]
              exact HT.out.addG (Bw10.out.alloc Bw10.out.size _) hown3 hgr3 hv3
            clear hown3 hgr3 hv3
            simp only [Act.put, List.setIfInBounds_toArray, List.set_cons_succ, List.set_cons_zero]
            go_wp2_with fail
            go_roundw
            case rel => exact ⟨k + 1, by omega, by go_num, T3⟩
            case measure => simp [intOf]; omega
            all_goals (rename_i hbad; exact absurd hbad.2 (by simp [j1]))
          · have hk2 : (x.bank == 1) = false := by simpa using hk1
            have HE : Hid (q x = false) := by show _ = _; rw [QH.out]; simp [hk1]
            go_wp2_with (first | ((with_reducible refine wl_gL _ rfl ?_); refine wl_loadS rfl _ rfl wr.heap.size 0 rfl x (ld_own Xw10.out) ?_) | ((with_reducible refine wl_gB _ rfl ?_); refine wl_build1S rfl _ rfl x rfl ?_; try rw [sz_alloc]) | (at_builtin; refine of_stopS ?_))
            unfold StopS
            refine wl_appendS rfl _ _ rfl w.heap.size u5 ((L.take k).filter fun x => !(q x)) x rfl (HT.out.o.below (Bw10.out.alloc Bw10.out.size _)) w10.heap.size 1 rfl (heap_new _ _ _ rfl) ML.out.2 (by have h1 := HB.out.size; have h2 := Bw10.out.size; simp; omega) ?_
            intro v' w3 hown3 hgr3 hv3
            have T3 : Hid (TwoL w w3 v' u6 ((L.take (k + 1)).filter fun x => !(q x)) ((L.take (k + 1)).filter q)) := by
              show TwoL _ _ _ _ _ _
              rw [filt_no HX.out HE.out, filt_yes (q := fun x => !(q x)) HX.out (by rw [HE.out]; rfl)]
              exact HT.out.addO (Bw10.out.alloc Bw10.out.size _) hown3 hgr3 hv3
            clear hown3 hgr3 hv3
            simp only [Act.put, List.setIfInBounds_toArray, List.set_cons_succ, List.set_cons_zero]
            go_wp2_with fail
            go_roundw
            case rel => exact ⟨k + 1, by omega, by go_num, T3⟩
            case measure => simp [intOf]; omega
        · go_wp2_with fail
          go_quiet (first | (go_at_call 21; exact Calls.quiet_of_same (RT.out _)))
          have e9 : (hard != 0 && decide (hard ≤ tt - x.born)) = false := by simp [j1]; omega
          try rw [e9]
          clear e9
          obtain ⟨w10, hw10⟩ : ∃ w10, w10 = w9.drewN nq := ⟨_, rfl⟩
          have Xw10 : Hid (w10.heap[wr.heap.size]? = some (.cells (slotV x) 38 (0, 0))) := by show _ = _; rw [hw10]; exact Xw9.out
          have Bw10 : Hid (Below wr.heap.size wr w10) := by show Below _ _ _; rw [hw10]; exact below_step Bw9.out Bw9.out.size (below_drewT _ _)
          rw [← hw10]
          clear hw10 d2 d3 s0 s8 s9
          obtain ⟨_, _, d2, d3⟩ := HF.out w10 (below_step HB.out HB.out.size Bw10.out)
          have s0 : w10.cell? ⟨wr.heap.size, 0, none⟩ = some (.int .i64 x.bank) := (slf_own Xw10.out).c0
          have s8 : w10.cell? ⟨wr.heap.size, 33, none⟩ = some (.int .i64 x.born) := by have := (slf_own Xw10.out).c33; simpa using this
          have s9 : w10.cell? ⟨wr.heap.size, 34, none⟩ = some (.int .i64 x.used) := by have := (slf_own Xw10.out).c34; simpa using this
          clear Xw9 Bw9
          by_cases hk1 : x.bank = 1
          · rw [hk1] at s0
            have HE : Hid (q x = false) := by show _ = _; rw [QH.out]; simp
            clear hk1
            go_wp2_with (first | ((with_reducible refine wl_gL _ rfl ?_); refine wl_loadS rfl _ rfl wr.heap.size 0 rfl x (ld_own Xw10.out) ?_) | ((with_reducible refine wl_gB _ rfl ?_); refine wl_build1S rfl _ rfl x rfl ?_; try rw [sz_alloc]) | (at_builtin; refine of_stopS ?_))
            unfold StopS
            refine wl_appendS rfl _ _ rfl w.heap.size u5 ((L.take k).filter fun x => !(q x)) x rfl (HT.out.o.below (Bw10.out.alloc Bw10.out.size _)) w10.heap.size 1 rfl (heap_new _ _ _ rfl) ML.out.2 (by have h1 := HB.out.size; have h2 := Bw10.out.size; simp; omega) ?_
            intro v' w3 hown3 hgr3 hv3
            have T3 : Hid (TwoL w w3 v' u6 ((L.take (k + 1)).filter fun x => !(q x)) ((L.take (k + 1)).filter q)) := by
              show TwoL _ _ _ _ _ _
              rw [filt_no HX.out HE.out, filt_yes (q := fun x => !(q x)) HX.out (by rw [HE.out]; rfl)]
              exact HT.out.addO (Bw10.out.alloc Bw10.out.size _) hown3 hgr3 hv3
            clear hown3 hgr3 hv3
            simp only [Act.put, List.setIfInBounds_toArray, List.set_cons_succ, List.set_cons_zero]
            go_wp2_with fail
            go_roundw
            case rel => exact ⟨k + 1, by omega, by go_num, T3⟩
            case measure => simp [intOf]; omega
          · have hk2 : (x.bank == 1) = false := by simpa using hk1
            have HE : Hid (q x = false) := by show _ = _; rw [QH.out]; simp
            go_wp2_with (first | ((with_reducible refine wl_gL _ rfl ?_); refine wl_loadS rfl _ rfl wr.heap.size 0 rfl x (ld_own Xw10.out) ?_) | ((with_reducible refine wl_gB _ rfl ?_); refine wl_build1S rfl _ rfl x rfl ?_; try rw [sz_alloc]) | (at_builtin; refine of_stopS ?_))
            unfold StopS
            refine wl_appendS rfl _ _ rfl w.heap.size u5 ((L.take k).filter fun x => !(q x)) x rfl (HT.out.o.below (Bw10.out.alloc Bw10.out.size _)) w10.heap.size 1 rfl (heap_new _ _ _ rfl) ML.out.2 (by have h1 := HB.out.size; have h2 := Bw10.out.size; simp; omega) ?_
            intro v' w3 hown3 hgr3 hv3
            have T3 : Hid (TwoL w w3 v' u6 ((L.take (k + 1)).filter fun x => !(q x)) ((L.take (k + 1)).filter q)) := by
              show TwoL _ _ _ _ _ _
              rw [filt_no HX.out HE.out, filt_yes (q := fun x => !(q x)) HX.out (by rw [HE.out]; rfl)]
              exact HT.out.addO (Bw10.out.alloc Bw10.out.size _) hown3 hgr3 hv3
            clear hown3 hgr3 hv3
            simp only [Act.put, List.setIfInBounds_toArray, List.set_cons_succ, List.set_cons_zero]
            go_wp2_with fail
            go_roundw
            case rel => exact ⟨k + 1, by omega, by go_num, T3⟩
            case measure => simp [intOf]; omega
    · have hlt' : ¬ (k : Int) < (n : Int) := by omega
      have hkn : k = n := by omega
      have c0 := (HF.out wr HB.out).1
      have f0 := (HF.out wr HB.out).2.1
      have EL : Hid (TwoL w wr u5 u6 (L.filter fun x => !(q x)) (L.filter q)) := by
        have := HT.out
        rw [hkn, HN.out, List.take_length] at this
        exact this
      have FX : Hid _ := FT.out wr u5 HB.out EL.out.o
      have GX : Hid (SlotsAt w.heap.size (wr.setCell ⟨r, 0, none⟩ u5) u6 (L.filter q)) := by
        have hK : Kept (isB r) wr (wr.setCell ⟨r, 0, none⟩ u5) := ⟨rfl, rfl, rfl, by simp [World.setCell], fun k _ e => heap_setCell_other wr ⟨r, 0, none⟩ k _ e⟩
        exact EL.out.g.kept hK fun k e e' => by have h1 := (EL.out.g.lt k e).1; have h2 := RS.out; unfold isB at e'; omega
      obtain ⟨o7, cap7, e7, _, _⟩ := EL.out.o.slice
      obtain ⟨o8, cap8, e8, _, _⟩ := EL.out.g.slice
      rw [e7] at FX
      rw [e7, e8] at GX
      clear HT hkn EL
      subst e7 e8
      go_wp2_with fail
      go_ret
      exact ⟨⟨_, rfl, GX.out⟩, FX.out⟩
end Go.Proofs.Ytojhckjdkafpmaa
