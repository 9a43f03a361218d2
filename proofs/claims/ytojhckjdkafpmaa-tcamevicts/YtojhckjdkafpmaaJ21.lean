import Derived.Test.YtojhckjdkafpmaaJ18
import Derived.Test.YtojhckjdkafpmaaJ19
import Derived.Test.YtojhckjdkafpmaaJ20
namespace Go.Proofs.Ytojhckjdkafpmaa
open Go Go.RowKit
set_option maxRecDepth 20000

theorem cub_eq {x y : Cub} (hx : OkC x) (hy : OkC y) : (pad x.1 == pad y.1 && pad x.2 == pad y.2) = (x == y) := by
  rw [pad_id hx.1.1, pad_id hx.2.1, pad_id hy.1.1, pad_id hy.2.1]; rfl
theorem least_here {m : Slt → Bool} {L : List Slt} {k : Nat} {x : Slt} (hx : L[k]? = some x) (hm : m x = true) (hn : ∀ j y, j < k → L[j]? = some y → m y = false) : LeastAt m (fun _ => 0) L (L.take k) x (L.drop (k + 1)) := by
  refine ⟨?_, hm, fun y hy hmy => ?_, fun y hy hmy => Int.le_refl _⟩
  · have e := (List.getElem?_eq_some_iff.1 hx).2
    rw [← e, List.getElem_cons_drop, List.take_append_drop]
  · obtain ⟨j, hj⟩ := List.mem_iff_getElem?.1 hy
    have hj' := (List.getElem?_eq_some_iff.1 hj).1
    rw [List.length_take] at hj'
    rw [List.getElem?_take_of_lt (by omega)] at hj
    rw [hn j y (by omega) hj] at hmy
    cases hmy
theorem wl_gBT {P : Program} {ops : Array Oper} {Q : Exit → Act → World → Prop} {o : Oper} {rest : List Oper} {a : Act} {w : World} (ps : Array (Nat × Operand)) (_ : o.op = .build 38 ps) (h : wpList P ops Q (o :: rest) a w) : wpList P ops Q (o :: rest) a w := h
theorem wl_valT {ops : Array Oper} {rest : List Oper} {o : Oper} {a : Act} {w : World} {Q : Exit → Act → World → Prop} (hg : o.guard = none) (v : Value) (hx : (execOp a.eval o).run Try.prog w = .ok (.value v) w) (h : wpList Try.prog ops Q rest (a.put o.dst v) w) : wpList Try.prog ops Q (o :: rest) a w := by
  refine wpList_plain hg fun K hK => ?_
  unfold Oper.wp
  rw [hx]
  exact hK _ _ h
theorem RTabTo.next {B : Nat} {w w1 w2 : World} {r gr : Nat} {R : Rm} {L2 : List Slt} {vl u : Value} (hk : Kept (footR r gr vl) w w1) (hu : ∀ k, footR r gr u k → footR r gr vl k ∨ w.heap.size ≤ k) (h2 : RTabTo B w1 w2 r gr R L2 u) : RTabTo B w w2 r gr R L2 vl := by
  obtain ⟨v, a1, a2, a3⟩ := h2
  refine ⟨v, a1, hk.trans a2 hu, fun k e => ?_⟩
  rcases a3 k e with e | e
  · exact hu k e
  · exact .inr (Nat.le_trans hk.size e)
theorem RTabTo.first {B : Nat} {w w1 w2 : World} {r gr : Nat} {R : Rm} {L2 : List Slt} {vl : Value} (hb : Below w.heap.size w w1) (h2 : RTabTo B w1 w2 r gr R L2 vl) : RTabTo B w w2 r gr R L2 vl := RTabTo.next (Kept.of_below hb) (fun _ e => .inl e) h2
theorem RTabTo.last {B : Nat} {w w1 w2 : World} {r gr : Nat} {R : Rm} {L2 : List Slt} {vl : Value} {Z : Nat → Prop} (h : RTabTo B w w1 r gr R L2 vl) (hk : Kept Z w1 w2) (hZ : ∀ k, Z k → w.heap.size ≤ k) (hd : ∀ u k, RTabV B w1 r gr R L2 u → footR r gr u k → ¬ Z k) : RTabTo B w w2 r gr R L2 vl := by
  obtain ⟨u, a1, a2, a3⟩ := h
  exact ⟨u, a1.kept hk fun k e => hd u k a1 e, a2.trans hk fun k e => .inr (hZ k e), a3⟩
theorem eqI_runT {o : Oper} {x y : Operand} {t t' : TypeId} (ho : o.op = .binOp .eql t x y t') (ht : t = 3) (a : Act) (W : World) (n m : Int) (hx : a.eval x = .int .i64 n) (hy : a.eval y = .int .i64 m) : (execOp a.eval o).run Try.prog W = .ok (.value (.bool (n == m))) W := by
  subst ht
  unfold execOp
  simp only [ho, hx, hy]
  simp [go_sem]
set_option maxHeartbeats 64000000 in
theorem rlearn_any (B : Nat) (w : World) (r gr : Nat) (R : Rm) (L : List Slt) (vl : Value) (h : RTabV B w r gr R L vl) (now e : Int) (c : Cub) (act : Int) (hc : OkC c) (hok : ∀ x ∈ L, OkC x.cube) (hn : L.length ≤ 1000000) (hib : InBanks L) :
    Calls Try.prog 29 #[.pointer (some ⟨r, 0, none⟩), .int .i64 now, .int .i64 e, .agg (cv (pad c.1) (pad c.2)), .int .i64 act] w fun q w' => q = .returned (.tuple #[.agg (slotV (learnT R.cache (bkOf L 1) (newC now e (canC c) act)).2.1), .bool (learnT R.cache (bkOf L 1) (newC now e (canC c) act)).2.2.1, .int .i64 (learnT R.cache (bkOf L 1) (newC now e (canC c) act)).2.2.2]) ∧ RDone B w w' r gr R vl { bks L with c := (learnT R.cache (bkOf L 1) (newC now e (canC c) act)).1 } := by
  obtain ⟨s, hs⟩ : ∃ s, s = newC now e (canC c) act := ⟨_, rfl⟩
  have SB : Hid (s.bank = 1 ∧ s.epoch = e ∧ s.cube = canC c) := by show _ ∧ _; rw [hs]; exact ⟨rfl, rfl, rfl⟩
  have BF : Hid (∀ W, (Instr.build 38 #[(0, .int .i64 1), (1, .int .i64 e), (4, .agg (cv (pad (canC c).1) (pad (canC c).2))), (5, .int .i64 act), (8, .int .i64 (timeT now)), (9, .int .i64 (timeT now))]).run Try.prog W = .ok (.agg (slotV s)) W) := by intro W; rw [hs]; exact build_fresh e act (timeT now) (canC c) W
  rw [← hs]
  clear hs
  have CO : Hid (OkC (canC c)) := canC_ok hc
  have HOK : Hid (∀ x ∈ L, OkC x.cube) := hok
  have HT9 : Hid (RTabV B w r gr R L vl) := h
  have HIB : Hid (InBanks L) := hib
  have LEN9 : Hid (L.length ≤ 1000000) := hn
  have CA : Hid (∀ W, Calls Try.prog 23 #[.agg (cv (pad c.1) (pad c.2))] W fun e w' => e = .returned (.agg (cv (pad (canC c).1) (pad (canC c).2))) ∧ Below W.heap.size W w') := rcanC_any c hc
  have TI : Hid (∀ W, Calls Try.prog 21 #[.int .i64 now] W fun r w' => r = .returned (.int .i64 (timeT now)) ∧ w' = W) := rtime_any now
  have SL : Hid (∀ W, Below w.heap.size w W → Calls Try.prog 38 #[.pointer (some ⟨r, 0, none⟩), .int .i64 1] W fun e w' => (∃ u, e = .returned u ∧ SlotsAt W.heap.size w' u (bkOf L 1)) ∧ Below W.heap.size W w') := by
    intro W hb
    exact rslots_any B W r gr R L vl (h.below hb) 1 hn
  have OU : Hid (∀ W (i : Nat), Below w.heap.size w W → Calls Try.prog 58 #[.pointer (some ⟨r, 0, none⟩), .int .i64 (i : Int)] W fun e w' => e = .returned (.tuple #[]) ∧ RTabTo B W w' r gr R (L.eraseIdx i) vl) := by
    intro W i hb
    exact rout_any B W r gr R L vl (h.below hb) i hn
  have BB9 : Hid (B ≤ w.heap.size) := by show _ ≤ _; have h9 := h.hB; have h8 := (Array.getElem?_eq_some_iff.1 h.blk).1; omega
  obtain ⟨w0, hw0⟩ : ∃ w0, w0 = (w.alloc (.cells (cv (pad c.1) (pad c.2)) 36)).alloc (.cells (slotV zeroS) 38) := ⟨_, rfl⟩
  have B0 : Hid (Below w.heap.size w w0) := by show Below _ _ _; rw [hw0]; exact ((Below.refl _ _).alloc (Nat.le_refl _) _).alloc (by simp) _
  have C0 : Hid (w0.heap[w.heap.size]? = some (.cells (cv (pad c.1) (pad c.2)) 36 (0, 0))) := by show _ = _; rw [hw0]; exact heap_past _ _ _ _ (heap_new _ _ _ rfl)
  have Z0 : Hid (w0.heap[w.heap.size + 1]? = some (.cells (slotV zeroS) 38 (0, 0))) := by show _ = _; rw [hw0]; exact heap_new _ _ _ (by simp)
  have cr := (HT9.out.below B0.out).f.c1
  have rr := (HT9.out.below B0.out).f.r1
  clear h hib hok hn hc
  by_cases hr0 : R.cache = 0
  · have ER : Hid (learnT R.cache (bkOf L 1) s = (bkOf L 1, zeroS, false, 13)) := by show _ = _; rw [hr0]; exact learnT_no _ _
    have rr' : w0.cell? ⟨gr, 1, none⟩ = some (.int .i64 0) := by rw [hr0] at rr; exact rr
    clear rr hr0
    go_enter Try.func29, Try.ntmps29
    go_wp2_with (first | ((with_reducible refine wl_gA rfl ?_); refine wl_allocS rfl rfl ?_; try rw [sz_alloc]); refine of_stopS ?_)
    unfold StopS
    rw [← hw0]
    clear hw0
    go_wp2_with (first | ((with_reducible refine wl_gZ rfl ?_); refine wl_buildS rfl rfl ?_) | ((with_reducible refine wl_gS _ _ rfl ?_); refine wl_storeS rfl _ _ rfl (w.heap.size + 1) zeroS zeroS rfl rfl Z0.out _ rfl ?_))
    refine ret3S (p := 10) (u := 11) (u' := 12) rfl rfl (w.heap.size + 1) rfl zeroS (setRow_heap _ _ _ _ _ _ Z0.out) _ _ rfl rfl ?_
    rw [ER.out]
    exact ⟨rfl, L, HT9.out.same (below_setRow B0.out (by omega) _), rfl, HIB.out⟩
  have hrd : ((R.cache : Int) == 0) = false := by simp; omega
  have HR0 : Hid (R.cache ≠ 0) := hr0
  obtain ⟨rc, hrc⟩ : ∃ rc, rc = R.cache := ⟨_, rfl⟩
  have HRC : Hid (rc = R.cache) := hrc
  rw [← hrc] at rr hrd ⊢
  clear hr0 hrc
  go_enter Try.func29, Try.ntmps29
  go_wp2_with (first | ((with_reducible refine wl_gA rfl ?_); refine wl_allocS rfl rfl ?_; try rw [sz_alloc]); refine of_stopS ?_)
  unfold StopS
  rw [← hw0]
  clear hw0
  go_wp2_with (first | ((with_reducible refine wl_gC _ rfl ?_); refine wl_loadCg rfl _ rfl w.heap.size rfl (pad c.1) (pad c.2) C0.out (pad_len _) (pad_len _) ?_) | (go_at_call 23; refine (CA.out _).mono ?_; rintro q w1 ⟨rfl, hb1⟩; refine of_stopS ?_))
  unfold StopS
  have B1 : Hid (Below w.heap.size w w1) := below_step B0.out B0.out.size hb1
  have Z1 : Hid (w1.heap[w.heap.size + 1]? = some (.cells (slotV zeroS) 38 (0, 0))) := (hb1.block _ (Array.getElem?_eq_some_iff.1 Z0.out).1).trans Z0.out
  clear hb1 B0 C0 Z0 cr rr CA
  obtain ⟨w2, hw2⟩ : ∃ w2, w2 = w1.alloc (.cells (slotV s) 38) := ⟨_, rfl⟩
  have B2 : Hid (Below w.heap.size w w2) := by show Below _ _ _; rw [hw2]; exact B1.out.alloc B1.out.size _
  have Q2 : Hid (w2.heap[w1.heap.size]? = some (.cells (slotV s) 38 (0, 0))) := by show _ = _; rw [hw2]; exact heap_new _ _ _ rfl
  have Z2 : Hid (w2.heap[w.heap.size + 1]? = some (.cells (slotV zeroS) 38 (0, 0))) := by show _ = _; rw [hw2]; exact heap_past _ _ _ _ Z1.out
  have NQ : Hid (w.heap.size + 1 < w1.heap.size) := (Array.getElem?_eq_some_iff.1 Z1.out).1
  go_wp2_with (first | (go_at_call 21; refine (TI.out _).mono ?_; rintro q w9 ⟨rfl, hw9⟩; rw [hw9]; clear hw9) | ((with_reducible refine wl_gBT _ rfl ?_); refine wl_valT rfl (.agg (slotV s)) (run_buildOpT rfl _ _ #[(0, .int .i64 1), (1, .int .i64 e), (4, .agg (cv (pad (canC c).1) (pad (canC c).2))), (5, .int .i64 act), (8, .int .i64 (timeT now)), (9, .int .i64 (timeT now))] (by simp only [List.map_toArray, List.map_cons, List.map_nil]; rfl) _ (BF.out _)) ?_) | ((with_reducible refine wl_gA rfl ?_); refine wl_allocS rfl rfl ?_; try rw [sz_alloc]) | ((with_reducible refine wl_gS _ _ rfl ?_); refine wl_storeS rfl _ _ rfl w1.heap.size s zeroS rfl rfl (heap_new _ _ _ rfl) _ (setRow_new _ _ _ _ _ rfl) ?_); refine of_stopS ?_)
  unfold StopS
  rw [← hw2]
  clear hw2 Z1 BF
  obtain ⟨q, hq⟩ : ∃ q, q = w1.heap.size := ⟨_, rfl⟩
  rw [← hq] at Q2 NQ
  rw [← hq]
  have QB : Hid (w.heap.size + 2 ≤ q) := by show _ ≤ _; have := NQ.out; omega
  clear hq B1
  obtain ⟨o, cap, ev, hc1, hc2⟩ := HT9.out.own.slice
  obtain ⟨n, hn0⟩ : ∃ n, n = L.length := ⟨_, rfl⟩
  have HN : Hid (n = L.length) := hn0
  rw [← hn0] at ev hc1
  have HF : Hid (∀ W, Below w.heap.size w W → W.cell? ⟨r, 0, none⟩ = some (.slice o n cap)) := by intro W hb; have h9 := (HT9.out.below hb).f.c0; rw [ev] at h9; exact h9
  have hl := HT9.out.own.sl
  rw [ev] at hl
  have HL : Hid (GSl SlotE slotV w (.slice o n cap) L) := hl
  have HEV : Hid (vl = .slice o n cap) := ev
  unfold maxLen at hc2
  have HLN : n ≤ 1000000 := by rw [hn0]; exact LEN9.out
  clear hl hn0 ev
  go_wp2_with fail
  go_loopw [14, 15] (fun s14 s15 wr => ∃ (k : Nat) (d : Int), k ≤ n ∧ s15 = .int .i64 (k : Int) ∧ s14 = .int .i64 d ∧ Hid (FoundTo (fun y => y.bank == 1) (·.used) L k d) ∧ Hid (∀ j y, j < k → L[j]? = some y → y.bank = 1 → sameC s y = false) ∧ Hid (wr.heap[q]? = some (.cells (slotV s) 38 (0, 0))) ∧ Hid (wr.heap[w.heap.size + 1]? = some (.cells (slotV zeroS) 38 (0, 0))) ∧ Hid (Below w.heap.size w wr)) (fun _ i _ => n - (intOf i).toNat)
  case atStart => exact ⟨0, -1, Nat.zero_le _, rfl, rfl, found_nil _, fun j y hj => by omega, Q2, Z2, B2⟩
  case round =>
    clear Q2 Z2 B2
    obtain ⟨k, d, hk, rfl, rfl, HFD, HP, HQ, HZ, HB⟩ := hrel
    have c0 := HF.out wr HB.out
    by_cases hlt : k < n
    · have hlt' : (k : Int) < (n : Int) := by omega
      obtain ⟨g', off, cur, ty, fr, y, ho, hg, hcc, hyk⟩ := (GSl.below HL.out HB.out).at k hlt
      obtain ⟨g0, hg0⟩ := (show SlotsAt B w (.slice o n cap) L by rw [← HEV.out]; exact HT9.out.own).own0 (by have := HN.out; omega)
      obtain ⟨rfl, rfl⟩ : g' = g0 ∧ off = 0 := by rw [hg0] at ho; simp only [Option.some.injEq, Addr.mk.injEq, and_true] at ho; exact ⟨ho.1.symm, ho.2.symm⟩
      subst ho
      rw [Nat.zero_add] at hcc
      have K1 : Hid (wr.heap[g']? = some (.cells cur ty fr)) := hg
      have H1 : Hid (∀ j, j < 36 → cur[k * 36 + j]? = (slotV y)[j]?) := hcc
      have HY : Hid (L[k]? = some y) := hyk
      have HYO : Hid (OkC y.cube) := HOK.out y (List.mem_of_getElem? hyk)
      obtain ⟨w8, hw8⟩ : ∃ w8, w8 = wr.alloc (.cells (slotV y) 38) := ⟨_, rfl⟩
      have X8 : Hid (w8.heap[wr.heap.size]? = some (.cells (slotV y) 38 (0, 0))) := by show _ = _; rw [hw8]; exact heap_new _ _ _ rfl
      have B8' : Hid (Below wr.heap.size wr w8) := by show Below _ _ _; rw [hw8]; exact (Below.refl _ _).alloc (Nat.le_refl _) _
      have B8 : Hid (Below w.heap.size w w8) := below_step HB.out HB.out.size B8'.out
      have Q8 : Hid (w8.heap[q]? = some (.cells (slotV s) 38 (0, 0))) := (B8'.out.block _ (Array.getElem?_eq_some_iff.1 HQ.out).1).trans HQ.out
      have Z8 : Hid (w8.heap[w.heap.size + 1]? = some (.cells (slotV zeroS) 38 (0, 0))) := (B8'.out.block _ (Array.getElem?_eq_some_iff.1 HZ.out).1).trans HZ.out
      have ld1 : Hid ((loadVar 38 ⟨g', k * 36, none⟩).run Try.prog wr = .ok (.agg (slotV y)) wr) := ld_row K1.out H1.out
      clear hg hcc hyk hg0
      go_wp2_with (first | ((with_reducible refine wl_gL _ rfl ?_); refine wl_loadS rfl _ rfl g' (k * 36) rfl y ld1.out ?_) | ((with_reducible refine wl_gA rfl ?_); refine wl_allocS rfl rfl ?_; try rw [sz_alloc]) | ((with_reducible refine wl_gS _ _ rfl ?_); refine wl_storeS rfl _ _ rfl wr.heap.size y zeroS rfl rfl (heap_new _ _ _ rfl) _ (setRow_new _ _ _ _ _ rfl) ?_); refine of_stopS ?_)
      unfold StopS
      rw [← hw8]
      clear hw8 c0 K1 H1 ld1
      have G8 : Hid (∀ (j : Nat), j < n → ∃ x, L[j]? = some x ∧ ∀ u : Later w8, u.world.cell? ⟨g', j * 36 + 34, none⟩ = some (.int .i64 x.used)) := by
        intro j hj
        obtain ⟨g2, off2, cur2, ty2, fr2, x, ho2, hg2, hcc2, hx2⟩ := (GSl.below HL.out B8.out).at j hj
        simp only [Option.some.injEq, Addr.mk.injEq, and_true] at ho2
        obtain ⟨rfl, rfl⟩ := ho2
        rw [Nat.zero_add] at hcc2
        exact ⟨x, hx2, fun u => ((slf_of hg2 hcc2).below ((later_block hg2 _ ⟨u, rfl⟩).trans hg2.symm)).c34⟩
      have d9 : ∀ u : Later w8, u.world.cell? ⟨r, 0, none⟩ = some (.slice (some ⟨g', 0, none⟩) n cap) := fun u => HF.out _ (below_step B8.out B8.out.size u.below)
      have d34 : ∀ u : Later w8, u.world.cell? ⟨wr.heap.size, 34, none⟩ = some (.int .i64 y.used) := fun u => by have := (later_slf X8.out (slf_own X8.out) u).c34; simpa using this
      have s0 : w8.cell? ⟨wr.heap.size, 0, none⟩ = some (.int .i64 y.bank) := (slf_own X8.out).c0
      have s1 : w8.cell? ⟨wr.heap.size, 1, none⟩ = some (.int .i64 y.epoch) := by have := (slf_own X8.out).c1; simpa using this
      have ne1 := Later.ne w8
      have SC : Hid (s.cube = canC c) := SB.out.2.2
      have E : ∀ W, (Op.equalIn 10000 36 (.agg (cv (pad y.cube.1) (pad y.cube.2))) (.agg (cv (pad s.cube.1) (pad s.cube.2)))).run Try.prog W = .ok (y.cube == s.cube) W := fun W => by rw [← cub_eq HYO.out (by rw [SC.out]; exact CO.out)]; exact eqC _ _ _ _ (pad_len _) (pad_len _) (pad_len _) (pad_len _) W
      have G := egC
      have HM : Hid (sameC s y = ((y.epoch == e) && (y.cube == s.cube))) := by show _ = _; unfold sameC; rw [SB.out.2.1]
      have HFB : Hid (∀ bb : Bool, (y.bank == 1) = bb → (fun y : Slt => y.bank == 1) y = bb) := fun bb hbb => hbb
      obtain ⟨yb, hyb⟩ : ∃ yb, yb = y.bank := ⟨_, rfl⟩
      obtain ⟨ye, hye⟩ : ∃ ye, ye = y.epoch := ⟨_, rfl⟩
      obtain ⟨yu, hyu⟩ : ∃ yu, yu = y.used := ⟨_, rfl⟩
      obtain ⟨bc, hbc⟩ : ∃ bc, bc = (y.cube == s.cube) := ⟨_, rfl⟩
      have HYB : Hid (yb = y.bank) := hyb
      have HYU : Hid (yu = y.used) := hyu
      rw [← hyb] at s0
      rw [← hye] at s1 HM
      rw [← hyu] at d34
      rw [← hbc] at E HM
      clear hyb hye hyu hbc
      by_cases hb : yb = 1
      · subst hb
        have HB1 : Hid ((fun y : Slt => y.bank == 1) y = true) := by show (y.bank == 1) = true; rw [← HYB.out]; rfl
        by_cases he : ye = e
        · subst he
          have hed : (ye == ye) = true := by simp
          rcases Bool.eq_false_or_eq_true bc with hh | hh
          · subst hh
            have HMM : Hid (sameC s y = true) := by show _ = _; rw [HM.out, hed]; rfl
            clear HM G8 d9 d34
            go_wp2_with (first | ((with_reducible refine wl_gC _ rfl ?_); (first | refine wl_loadCw rfl _ rfl wr.heap.size 4 rfl _ _ _ (pad y.cube.1) (pad y.cube.2) (pad_len _) (pad_len _) X8.out (slotV_cube y) ?_ | refine wl_loadCw rfl _ rfl q 4 rfl _ _ _ (pad s.cube.1) (pad s.cube.2) (pad_len _) (pad_len _) Q8.out (slotV_cube s) ?_)))
            have d9 : ∀ u : Later w8, u.world.cell? ⟨r, 0, none⟩ = some (.slice (some ⟨g', 0, none⟩) n cap) := fun u => HF.out _ (below_step B8.out B8.out.size u.below)
            refine wp_region_latertail 7 (by kernel_rfl) (by kernel_rfl) ?_
            simp only [List.take_succ_cons, List.take_zero, List.drop_succ_cons, List.drop_zero]
            go_big_quiet_step (rfl)
            refine q_nilT rfl _ rfl _ rfl ?_
            simp only [Act.put, List.setIfInBounds_toArray, List.set_cons_succ, List.set_cons_zero]
            go_big_quiet_step (rfl)
            go_big_quiet_step (rfl)
            go_big_quiet_step (rfl)
            refine qlE (E := SlotE) SlotOk rfl _ rfl q 0 rfl _ _ _ (slotV s) (slotV_size _) (later_block Q8.out) (own_cells _ _) ?_
            simp only [Act.put, List.setIfInBounds_toArray, List.set_cons_succ, List.set_cons_zero]
            go_big_quiet_step (rfl)
            refine wpQuiet_nil ?_
            rintro w' ⟨u, rfl⟩
            have BU : Hid (Below w.heap.size w u.world) := below_step B8.out B8.out.size u.below
            have Z5 : Hid (u.world.heap[w.heap.size + 1]? = some (.cells (slotV zeroS) 38 (0, 0))) := later_block Z8.out _ ⟨u, rfl⟩
            obtain ⟨w5, hw5⟩ : ∃ w5, u.world = w5 := ⟨_, rfl⟩
            rw [hw5] at Z5 BU
            rw [hw5]
            clear hw5 d9 ne1 X8 B8' B8 Q8 Z8
            obtain ⟨cur5, hcur, hsz, hst⟩ := (show SlotsAt B w5 (.slice (some ⟨g', 0, none⟩) n cap) L by rw [← HEV.out]; exact (HT9.out.below BU.out).own).store k (by rw [← HN.out]; exact hlt) s
            have HC : Hid (w5.heap[g']? = some (.cells cur5 38 (0, 0))) := hcur
            have HS : Hid (k * 36 + 36 ≤ cur5.size) := hsz
            have GS : Hid (g' < w.heap.size) := (HT9.out.own.lt g' (by rw [HEV.out]; rfl)).2
            obtain ⟨w6, hw6⟩ : ∃ w6, w5.setRow g' (cur5.toList.take (k * 36) ++ (slotV s).toList ++ cur5.toList.drop (k * 36 + 36)).toArray = w6 := ⟨_, rfl⟩
            have O6 : Hid (SlotsAt B w6 vl (L.set k s)) := by show SlotsAt _ _ _ _; rw [HEV.out]; exact hst w6 (by rw [← hw6]; exact setRow_heap _ _ _ _ _ _ hcur)
            have Z6 : Hid (w6.heap[w.heap.size + 1]? = some (.cells (slotV zeroS) 38 (0, 0))) := by show _ = _; rw [← hw6]; exact (setRow_other _ _ _ _ (by have h1 := GS.out; omega)).trans Z5.out
            have K6 : Hid (Kept (rowX vl) w5 w6) := by show Kept _ _ _; rw [← hw6]; exact (kept_setRow _ _ _).mono fun k _ e => by unfold isB at e; unfold rowX; rw [e, HEV.out]; rfl
            have HW6 : Hid (_ = w6) := hw6
            clear hst hcur hsz hw6
            go_wp2_with (first | ((with_reducible refine wl_gS _ _ rfl ?_); refine wl_storeAtW rfl _ _ rfl g' (k * 36) s rfl rfl cur5 _ HC.out HS.out w6 HW6.out ?_; refine of_stopS ?_))
            unfold StopS
            go_wp2_with (first | ((with_reducible refine wl_gZ rfl ?_); refine wl_buildS rfl rfl ?_) | ((with_reducible refine wl_gS _ _ rfl ?_); refine wl_storeS rfl _ _ rfl (w.heap.size + 1) zeroS zeroS rfl rfl Z6.out _ rfl ?_))
            refine ret3S (p := 10) (u := 11) (u' := 12) rfl rfl (w.heap.size + 1) rfl zeroS (setRow_heap _ _ _ _ _ _ Z6.out) _ _ rfl rfl ?_
            have LH := least_here (m := fun y => (y.bank == 1) && sameC s y) HY.out (by simp only [HMM.out, ← HYB.out]; rfl) (fun j z hj hz => by
              by_cases hz1 : z.bank = 1
              · simp only [HP.out j z hj hz hz1, Bool.and_false]
              · simp [hz1])
            have LS := learn_same_L (room := rc) (by rw [HRC.out]; exact HR0.out) SB.out.1 LH
            have eL : L.set k s = L.take k ++ s :: L.drop (k + 1) := set_split s (by rw [← HN.out]; exact hlt)
            rw [← eL] at LS
            rw [LS.1]
            refine ⟨rfl, L.set k s, HT9.out.row BU.out K6.out O6.out (kept_setRow _ _ _) (fun k e => by unfold isB at e; omega), LS.2, ?_⟩
            intro z hz
            rcases List.mem_or_eq_of_mem_set hz with hz | rfl
            · exact HIB.out z hz
            · exact .inl SB.out.1
          · subst hh
            have HMM : Hid (sameC s y = false) := by show _ = _; rw [HM.out, hed]; rfl
            clear HM
            go_wp2_with (first | ((with_reducible refine wl_gC _ rfl ?_); (first | refine wl_loadCw rfl _ rfl wr.heap.size 4 rfl _ _ _ (pad y.cube.1) (pad y.cube.2) (pad_len _) (pad_len _) X8.out (slotV_cube y) ?_ | refine wl_loadCw rfl _ rfl q 4 rfl _ _ _ (pad s.cube.1) (pad s.cube.2) (pad_len _) (pad_len _) Q8.out (slotV_cube s) ?_)))
            rcases HFD.out with ⟨rfl, hf⟩ | ⟨j, x, rfl, hjk, hxj, hf⟩
            · have HFF : Hid (FoundTo (fun y => y.bank == 1) (·.used) L k (-1)) := HFD.out
              clear hf HFD G8
              refine wp_region_later (by kernel_rfl) (by kernel_rfl) ?_
              go_big_quiet_step (rfl)
              go_big_quiet_step (rfl)
              go_big_quiet_step (rfl)
              go_big_quiet_step (rfl)
              go_big_quiet_step (rfl)
              go_big_quiet_step (rfl)
              go_big_quiet_step (rfl)
              go_big_quiet_step (rfl)
              go_big_quiet_step (rfl)
              go_big_quiet_step (rfl)
              go_big_quiet_step (rfl)
              go_big_quiet_step (rfl)
              go_big_quiet_step (rfl)
              go_big_quiet_step (rfl)
              go_big_quiet_step (rfl)
              refine wpQuiet_nil ?_
              rintro w' ⟨u, rfl⟩
              go_wp2_with fail
              go_roundw
              case rel =>
                refine ⟨k + 1, _, by omega, by go_num, rfl, found_first HFF.out HY.out HB1.out, fun j z hj hz hzb => ?_, later_block Q8.out _ ⟨u, rfl⟩, later_block Z8.out _ ⟨u, rfl⟩, below_step B8.out B8.out.size u.below⟩
                by_cases e : j = k
                · subst e; rw [HY.out] at hz; cases hz; exact HMM.out
                · exact HP.out j z (by omega) hz hzb
              case measure => simp [intOf]; omega
            · have HFF : Hid (FoundTo (fun y => y.bank == 1) (·.used) L k (j : Int)) := HFD.out
              have HXJ : Hid (L[j]? = some x) := hxj
              have hj0 : ¬ (j : Int) < 0 := by omega
              have hjn : (j : Int) < (k : Int) := by omega
              have hjn2 : (j : Int) < (n : Int) := by omega
              have hjd : decide ((j : Int) < 0) = false := decide_eq_false hj0
              obtain ⟨x', hx', dx⟩ := G8.out j (by omega)
              obtain rfl : x' = x := by rw [hxj] at hx'; exact (Option.some.inj hx').symm
              clear hf HFD G8 hxj hx'
              obtain ⟨xu, hxu⟩ : ∃ xu, xu = x'.used := ⟨_, rfl⟩
              have HXU : Hid (xu = x'.used) := hxu
              rw [← hxu] at dx
              clear hxu
              by_cases hlo : yu < xu
              · have hld : decide (yu < xu) = true := decide_eq_true hlo
                have HNK : Hid (y.used < x'.used) := by show _ < _; rw [← HYU.out, ← HXU.out]; exact hlo
                clear hlo
                refine wp_region_later (by kernel_rfl) (by kernel_rfl) ?_
                go_big_quiet_step (rfl)
                go_big_quiet_step (rfl)
                go_big_quiet_step (rfl)
                go_big_quiet_step (rfl)
                go_big_quiet_step (rfl)
                go_big_quiet_step (rfl)
                refine q_nilT rfl _ rfl _ rfl ?_
                simp only [Act.put, List.setIfInBounds_toArray, List.set_cons_succ, List.set_cons_zero]
                go_big_quiet_step (rfl)
                go_big_quiet_step (rfl)
                go_big_quiet_step (rfl)
                go_big_quiet_step (rfl)
                go_big_quiet_step (rfl)
                go_big_quiet_step (rfl)
                go_big_quiet_step (rfl)
                go_big_quiet_step (rfl)
                refine wpQuiet_nil ?_
                rintro w' ⟨u, rfl⟩
                go_wp2_with fail
                go_roundw
                case rel =>
                  refine ⟨k + 1, _, by omega, by go_num, rfl, found_take HFF.out HXJ.out HY.out HB1.out HNK.out, fun j z hj hz hzb => ?_, later_block Q8.out _ ⟨u, rfl⟩, later_block Z8.out _ ⟨u, rfl⟩, below_step B8.out B8.out.size u.below⟩
                  by_cases e : j = k
                  · subst e; rw [HY.out] at hz; cases hz; exact HMM.out
                  · exact HP.out j z (by omega) hz hzb
                case measure => simp [intOf]; omega
              · have hld : decide (yu < xu) = false := decide_eq_false hlo
                have HNK : Hid (x'.used ≤ y.used) := by show _ ≤ _; rw [← HYU.out, ← HXU.out]; omega
                clear hlo
                refine wp_region_later (by kernel_rfl) (by kernel_rfl) ?_
                go_big_quiet_step (rfl)
                go_big_quiet_step (rfl)
                go_big_quiet_step (rfl)
                go_big_quiet_step (rfl)
                go_big_quiet_step (rfl)
                go_big_quiet_step (rfl)
                refine q_nilT rfl _ rfl _ rfl ?_
                simp only [Act.put, List.setIfInBounds_toArray, List.set_cons_succ, List.set_cons_zero]
                go_big_quiet_step (rfl)
                go_big_quiet_step (rfl)
                go_big_quiet_step (rfl)
                go_big_quiet_step (rfl)
                go_big_quiet_step (rfl)
                go_big_quiet_step (rfl)
                go_big_quiet_step (rfl)
                go_big_quiet_step (rfl)
                refine wpQuiet_nil ?_
                rintro w' ⟨u, rfl⟩
                go_wp2_with fail
                go_roundw
                case rel =>
                  refine ⟨k + 1, _, by omega, by go_num, rfl, found_stay HFF.out HXJ.out HY.out (Int.not_lt.2 HNK.out), fun j z hj hz hzb => ?_, later_block Q8.out _ ⟨u, rfl⟩, later_block Z8.out _ ⟨u, rfl⟩, below_step B8.out B8.out.size u.below⟩
                  by_cases e : j = k
                  · subst e; rw [HY.out] at hz; cases hz; exact HMM.out
                  · exact HP.out j z (by omega) hz hzb
                case measure => simp [intOf]; omega
        · have hed : (ye == e) = false := by simpa using he
          have HMM : Hid (sameC s y = false) := by show _ = _; rw [HM.out, hed]; rfl
          clear HM
          go_wp2_with fail
          rcases HFD.out with ⟨rfl, hf⟩ | ⟨j, x, rfl, hjk, hxj, hf⟩
          · have HFF : Hid (FoundTo (fun y => y.bank == 1) (·.used) L k (-1)) := HFD.out
            clear hf HFD G8
            refine wp_region_later (by kernel_rfl) (by kernel_rfl) ?_
            go_big_quiet_step (rfl)
            go_big_quiet_step (rfl)
            go_big_quiet_step (rfl)
            go_big_quiet_step (rfl)
            go_big_quiet_step (rfl)
            go_big_quiet_step (rfl)
            go_big_quiet_step (rfl)
            go_big_quiet_step (rfl)
            go_big_quiet_step (rfl)
            go_big_quiet_step (rfl)
            go_big_quiet_step (rfl)
            go_big_quiet_step (rfl)
            go_big_quiet_step (rfl)
            go_big_quiet_step (rfl)
            go_big_quiet_step (rfl)
            refine wpQuiet_nil ?_
            rintro w' ⟨u, rfl⟩
            go_wp2_with fail
            go_roundw
            case rel =>
              refine ⟨k + 1, _, by omega, by go_num, rfl, found_first HFF.out HY.out HB1.out, fun j z hj hz hzb => ?_, later_block Q8.out _ ⟨u, rfl⟩, later_block Z8.out _ ⟨u, rfl⟩, below_step B8.out B8.out.size u.below⟩
              by_cases e : j = k
              · subst e; rw [HY.out] at hz; cases hz; exact HMM.out
              · exact HP.out j z (by omega) hz hzb
            case measure => simp [intOf]; omega
          · have HFF : Hid (FoundTo (fun y => y.bank == 1) (·.used) L k (j : Int)) := HFD.out
            have HXJ : Hid (L[j]? = some x) := hxj
            have hj0 : ¬ (j : Int) < 0 := by omega
            have hjn : (j : Int) < (k : Int) := by omega
            have hjn2 : (j : Int) < (n : Int) := by omega
            have hjd : decide ((j : Int) < 0) = false := decide_eq_false hj0
            obtain ⟨x', hx', dx⟩ := G8.out j (by omega)
            obtain rfl : x' = x := by rw [hxj] at hx'; exact (Option.some.inj hx').symm
            clear hf HFD G8 hxj hx'
            obtain ⟨xu, hxu⟩ : ∃ xu, xu = x'.used := ⟨_, rfl⟩
            have HXU : Hid (xu = x'.used) := hxu
            rw [← hxu] at dx
            clear hxu
            by_cases hlo : yu < xu
            · have hld : decide (yu < xu) = true := decide_eq_true hlo
              have HNK : Hid (y.used < x'.used) := by show _ < _; rw [← HYU.out, ← HXU.out]; exact hlo
              clear hlo
              refine wp_region_later (by kernel_rfl) (by kernel_rfl) ?_
              go_big_quiet_step (rfl)
              go_big_quiet_step (rfl)
              go_big_quiet_step (rfl)
              go_big_quiet_step (rfl)
              go_big_quiet_step (rfl)
              go_big_quiet_step (rfl)
              refine q_nilT rfl _ rfl _ rfl ?_
              simp only [Act.put, List.setIfInBounds_toArray, List.set_cons_succ, List.set_cons_zero]
              go_big_quiet_step (rfl)
              go_big_quiet_step (rfl)
              go_big_quiet_step (rfl)
              go_big_quiet_step (rfl)
              go_big_quiet_step (rfl)
              go_big_quiet_step (rfl)
              go_big_quiet_step (rfl)
              go_big_quiet_step (rfl)
              refine wpQuiet_nil ?_
              rintro w' ⟨u, rfl⟩
              go_wp2_with fail
              go_roundw
              case rel =>
                refine ⟨k + 1, _, by omega, by go_num, rfl, found_take HFF.out HXJ.out HY.out HB1.out HNK.out, fun j z hj hz hzb => ?_, later_block Q8.out _ ⟨u, rfl⟩, later_block Z8.out _ ⟨u, rfl⟩, below_step B8.out B8.out.size u.below⟩
                by_cases e : j = k
                · subst e; rw [HY.out] at hz; cases hz; exact HMM.out
                · exact HP.out j z (by omega) hz hzb
              case measure => simp [intOf]; omega
            · have hld : decide (yu < xu) = false := decide_eq_false hlo
              have HNK : Hid (x'.used ≤ y.used) := by show _ ≤ _; rw [← HYU.out, ← HXU.out]; omega
              clear hlo
              refine wp_region_later (by kernel_rfl) (by kernel_rfl) ?_
              go_big_quiet_step (rfl)
              go_big_quiet_step (rfl)
              go_big_quiet_step (rfl)
              go_big_quiet_step (rfl)
              go_big_quiet_step (rfl)
              go_big_quiet_step (rfl)
              refine q_nilT rfl _ rfl _ rfl ?_
              simp only [Act.put, List.setIfInBounds_toArray, List.set_cons_succ, List.set_cons_zero]
              go_big_quiet_step (rfl)
              go_big_quiet_step (rfl)
              go_big_quiet_step (rfl)
              go_big_quiet_step (rfl)
              go_big_quiet_step (rfl)
              go_big_quiet_step (rfl)
              go_big_quiet_step (rfl)
              go_big_quiet_step (rfl)
              refine wpQuiet_nil ?_
              rintro w' ⟨u, rfl⟩
              go_wp2_with fail
              go_roundw
              case rel =>
                refine ⟨k + 1, _, by omega, by go_num, rfl, found_stay HFF.out HXJ.out HY.out (Int.not_lt.2 HNK.out), fun j z hj hz hzb => ?_, later_block Q8.out _ ⟨u, rfl⟩, later_block Z8.out _ ⟨u, rfl⟩, below_step B8.out B8.out.size u.below⟩
                by_cases e : j = k
                · subst e; rw [HY.out] at hz; cases hz; exact HMM.out
                · exact HP.out j z (by omega) hz hzb
              case measure => simp [intOf]; omega
      · have hbd : (yb != 1) = true := by simpa using hb
        have HB1 : Hid ((fun y : Slt => y.bank == 1) y = false) := by show (y.bank == 1) = false; rw [← HYB.out]; simpa using hb
        clear HM G8 d9 d34
        go_wp2_with fail
        go_roundw
        case rel =>
          refine ⟨k + 1, d, by omega, by go_num, rfl, found_skip HFD.out HY.out HB1.out, fun j z hj hz hzb => ?_, Q8, Z8, B8⟩
          by_cases e : j = k
          · subst e; rw [HY.out] at hz; cases hz; exact absurd (HYB.out.trans hzb) hb
          · exact HP.out j z (by omega) hz hzb
        case measure => simp [intOf]; omega
    · have hlt' : ¬ (k : Int) < (n : Int) := by omega
      have hkn : k = n := by omega
      subst hkn
      have HNO : Hid (∀ y ∈ L, y.bank = 1 → sameC s y = false) := by
        intro y hy hyb
        obtain ⟨j, hj⟩ := List.mem_iff_getElem?.1 hy
        exact HP.out j y (by have := (List.getElem?_eq_some_iff.1 hj).1; have := HN.out; omega) hj hyb
      have HFA : Hid (FoundTo (fun y => y.bank == 1) (·.used) L L.length d) := by show FoundTo _ _ _ _ _; rw [← HN.out]; exact HFD.out
      clear HP HFD
      obtain ⟨w4, hw4⟩ : ∃ w4, w4 = wr.alloc (.cells (slotV zeroS) 38) := ⟨_, rfl⟩
      have X4 : Hid (w4.heap[wr.heap.size]? = some (.cells (slotV zeroS) 38 (0, 0))) := by show _ = _; rw [hw4]; exact heap_new _ _ _ rfl
      have B4' : Hid (Below wr.heap.size wr w4) := by show Below _ _ _; rw [hw4]; exact (Below.refl _ _).alloc (Nat.le_refl _) _
      have B4 : Hid (Below w.heap.size w w4) := below_step HB.out HB.out.size B4'.out
      have Q4 : Hid (w4.heap[q]? = some (.cells (slotV s) 38 (0, 0))) := (B4'.out.block _ (Array.getElem?_eq_some_iff.1 HQ.out).1).trans HQ.out
      have Z4 : Hid (w4.heap[w.heap.size + 1]? = some (.cells (slotV zeroS) 38 (0, 0))) := (B4'.out.block _ (Array.getElem?_eq_some_iff.1 HZ.out).1).trans HZ.out
      have SQ : Hid (q < wr.heap.size) := (Array.getElem?_eq_some_iff.1 HQ.out).1
      go_wp2_with (first | ((with_reducible refine wl_gZ rfl ?_); refine wl_buildS rfl rfl ?_) | ((with_reducible refine wl_gA rfl ?_); refine wl_allocS rfl rfl ?_; try rw [sz_alloc]) | ((with_reducible refine wl_gS _ _ rfl ?_); refine wl_storeS rfl _ _ rfl wr.heap.size zeroS zeroS rfl rfl (heap_new _ _ _ rfl) _ (setRow_new _ _ _ _ _ rfl) ?_); refine of_stopS ?_)
      unfold StopS
      rw [← hw4]
      obtain ⟨qg, hqg⟩ : ∃ qg, qg = wr.heap.size := ⟨_, rfl⟩
      rw [← hqg] at X4 SQ
      rw [← hqg]
      have GQ : Hid (w.heap.size ≤ qg) := by show _ ≤ _; rw [hqg]; exact HB.out.size
      clear hw4 hqg B4' HQ HZ HB c0 hlt hlt'
      have SL4 : Hid (∀ W, Below w4.heap.size w4 W → Calls Try.prog 38 #[.pointer (some ⟨r, 0, none⟩), .int .i64 1] W fun e w' => (∃ u, e = .returned u ∧ SlotsAt W.heap.size w' u (bkOf L 1)) ∧ Below W.heap.size W w') := fun W hb => SL.out W (below_step B4.out B4.out.size hb)
      obtain ⟨fb, hfb⟩ : ∃ fb, fb = (((bkOf L 1).length : Int) == (rc : Int)) := ⟨_, rfl⟩
      have HFB : Hid (fb = (((bkOf L 1).length : Int) == (rc : Int))) := hfb
      clear hfb SL
      have d1 : ∀ u : Later w4, u.world.cell? ⟨r, 1, none⟩ = some (.slice (some ⟨gr, 0, none⟩) 4 4) := fun u => (HT9.out.below (below_step B4.out B4.out.size u.below)).f.c1
      have d2 : ∀ u : Later w4, u.world.cell? ⟨gr, 1, none⟩ = some (.int .i64 rc) := fun u => by rw [HRC.out]; exact (HT9.out.below (below_step B4.out B4.out.size u.below)).f.r1
      have ne9 := Later.ne w4
      go_wp2_with fail
      refine region_cut (fun a a' w' => ∃ y91 y92 y93 y94 y95 y96 y97 y98 y99 y100, a' = ((((((((((a.put (some 91) y91).put (some 92) y92).put (some 93) y93).put (some 94) y94).put (some 95) y95).put (some 96) y96).put (some 97) y97).put (some 98) y98).put (some 99) y99).put (some 100) y100).put (some 18) (.bool fb) ∧ Below w4.heap.size w4 w') ?_ ?_
      · refine region_begin 11 rfl (by kernel_rfl) ?_
        refine region_reads 0 1 10 rfl (by kernel_rfl) (by kernel_rfl) (by kernel_rfl) (by intro d v c a w h; exact absurd h.1 (by simp)) ⟨⟨w4.drew, (Below.refl _ _).drew⟩, rfl⟩ ?_
        simp only [List.drop_zero, List.take_succ_cons, List.take_zero]
        go_big_quiet_step (rfl)
        refine wpQuiet_nil ?_
        refine region_reads 3 1 9 rfl (by kernel_rfl) (by kernel_rfl) (by kernel_rfl) (by intro d v c a w h; exact absurd h.1 (by simp)) ⟨⟨w4.drew, (Below.refl _ _).drew⟩, rfl⟩ ?_
        simp only [List.drop_succ_cons, List.drop_zero, List.take_succ_cons, List.take_zero]
        go_big_quiet_step (rfl)
        refine wpQuiet_nil ?_
        refine take_nil (i := 4) (some 95) rfl rfl _ rfl _ rfl rfl (by kernel_rfl) (by kernel_rfl) (by kernel_rfl) ⟨⟨w4.drew, (Below.refl _ _).drew⟩, rfl⟩ ?_
        simp only [Act.put, List.setIfInBounds_toArray, List.set_cons_succ, List.set_cons_zero]
        refine region_reads 5 4 4 rfl (by kernel_rfl) (by kernel_rfl) (by kernel_rfl) (by intro d v c a w h; exact absurd h.1 (by simp)) ⟨⟨w4.drew, (Below.refl _ _).drew⟩, rfl⟩ ?_
        simp only [List.drop_succ_cons, List.drop_zero, List.take_succ_cons, List.take_zero]
        go_big_quiet_step (rfl)
        go_big_quiet_step (rfl)
        go_big_quiet_step (rfl)
        go_big_quiet_step (rfl)
        refine wpQuiet_nil ?_
        refine wpAnyH_all (rs := [1]) (by kernel_rfl) (by decide) ?_
        intro i hi
        obtain rfl := List.mem_singleton.1 hi
        refine wpOp_call rfl rfl 38 #[.tmp 91, .const (.int .i64 1)] (by intro b w; have hf := Try.func38; simp [go_sem]) #[.pointer (some ⟨r, 0, none⟩), .int .i64 1] rfl (fun v w' => (∃ B9, SlotsAt B9 w' v (bkOf L 1)) ∧ Below (World.heap w4).size w4 w') ((SL4.out _ (Below.refl _ _).drew).mono fun e w' h => by obtain ⟨⟨u, h1, h2⟩, h3⟩ := h; exact ⟨u, h1, ⟨_, h2⟩, below_step (Below.refl _ _).drew (Nat.le_refl _) h3⟩) (some 92) rfl ?_
        rintro v x2 ⟨⟨B9, hv⟩, hx2⟩
        obtain ⟨o9, cap9, rfl, _, _⟩ := hv.slice
        refine ⟨⟨⟨x2, hx2⟩, rfl⟩, ?_⟩
        simp only [Act.put, List.setIfInBounds_toArray, List.set_cons_succ, List.set_cons_zero]
        refine wpAnyH_all (rs := [2]) (by kernel_rfl) (by decide) ?_
        intro i hi
        obtain rfl := List.mem_singleton.1 hi
        refine wpOp_val (w' := x2) rfl rfl (.int .i64 ((bkOf L 1).length : Nat)) (by simp [go_sem]) (some 93) rfl ?_
        refine ⟨⟨⟨x2, hx2⟩, rfl⟩, ?_⟩
        simp only [Act.put, List.setIfInBounds_toArray, List.set_cons_succ, List.set_cons_zero]
        refine wpAnyH_all (rs := [9]) (by kernel_rfl) (by decide) ?_
        intro i hi
        obtain rfl := List.mem_singleton.1 hi
        refine wpOp_val rfl rfl (.bool (((bkOf L 1).length : Int) == (rc : Int))) (eqI_runT rfl rfl _ _ _ _ rfl rfl) (some 100) rfl ?_
        refine ⟨⟨⟨x2, hx2⟩, rfl⟩, ?_⟩
        simp only [Act.put, List.setIfInBounds_toArray, List.set_cons_succ, List.set_cons_zero]
        refine wpAnyH_all (rs := [10]) (by kernel_rfl) (by decide) ?_
        intro i hi
        obtain rfl := List.mem_singleton.1 hi
        refine wpOp_assign rfl rfl _ rfl _ rfl (some 18) rfl ?_
        refine ⟨⟨⟨x2, hx2⟩, rfl⟩, ?_⟩
        refine wpAnyH_done (by kernel_rfl) ?_ _
        rw [HFB.out]
        exact ⟨rfl, _, _, _, _, _, _, _, _, _, _, rfl, hx2⟩
      rintro a' w5 ⟨y91, y92, y93, y94, y95, y96, y97, y98, y99, y100, rfl, hb5⟩
      simp only [Act.put, List.setIfInBounds_toArray, List.set_cons_succ, List.set_cons_zero]
      have B5 : Hid (Below w.heap.size w w5) := below_step B4.out B4.out.size hb5
      have X5 : Hid (w5.heap[qg]? = some (.cells (slotV zeroS) 38 (0, 0))) := (hb5.block _ (Array.getElem?_eq_some_iff.1 X4.out).1).trans X4.out
      have Q5 : Hid (w5.heap[q]? = some (.cells (slotV s) 38 (0, 0))) := (hb5.block _ (Array.getElem?_eq_some_iff.1 Q4.out).1).trans Q4.out
      have Z5 : Hid (w5.heap[w.heap.size + 1]? = some (.cells (slotV zeroS) 38 (0, 0))) := (hb5.block _ (Array.getElem?_eq_some_iff.1 Z4.out).1).trans Z4.out
      clear hb5 X4 Q4 Z4 d1 d2 ne9 SL4 B4
      have GU : Hid (∀ u k, RTabV B w r gr R L u → footR r gr u k → k < w.heap.size) := fun u k h1 h2 => (h1.foot_in k h2).2
      rcases Bool.eq_false_or_eq_true fb with hh | hh
      · subst hh
        have hlen : (bkOf L 1).length = rc := by have h9 := HFB.out; simp at h9; omega
        rcases found_all HFA.out with ⟨rfl, hnone⟩ | ⟨i, x, rfl, hil, hix, hle⟩
        · exfalso
          have h0 : bkOf L 1 = [] := by
            unfold bkOf
            rw [List.filter_eq_nil_iff]
            intro y hy
            have := leastF_none.1 hnone y hy
            simpa using this
          rw [h0] at hlen
          have h8 := HR0.out
          have h9 := HRC.out
          simp at hlen
          omega
        have LF := learn_full_L (room := rc) (by rw [HRC.out]; exact HR0.out) SB.out.1 HNO.out hlen (leastF_some hle)
        have eE : L.take i ++ L.drop (i + 1) = L.eraseIdx i := by rw [List.eraseIdx_eq_take_drop_succ]
        rw [eE] at LF
        have LF : Hid _ := LF
        have hin : i < k := by have := HN.out; omega
        have hi' : (i : Int) < (k : Int) := by omega
        have hi0 : ¬ (i : Int) < 0 := by omega
        have HIX : Hid (L[i]? = some x) := hix
        obtain ⟨g0, hg0⟩ := (show SlotsAt B w (.slice o k cap) L by rw [← HEV.out]; exact HT9.out.own).own0 (by have := HN.out; omega)
        subst hg0
        have ld1 : Hid ((loadVar 38 ⟨g0, i * 36, none⟩).run Try.prog w5 = .ok (.agg (slotV x)) w5) := by
          obtain ⟨g2, off2, cur2, ty2, fr2, y, ho2, hg2, hcc2, hx2⟩ := (GSl.below HL.out B5.out).at i hin
          simp only [Option.some.injEq, Addr.mk.injEq, and_true] at ho2
          obtain ⟨rfl, rfl⟩ := ho2
          obtain rfl : y = x := by rw [hix] at hx2; exact (Option.some.inj hx2).symm
          rw [Nat.zero_add] at hcc2
          exact ld_row hg2 hcc2
        have c5 := HF.out w5 B5.out
        obtain ⟨w6, hw6⟩ : ∃ w6, w5.setRow qg (slotV x) = w6 := ⟨_, rfl⟩
        have X6 : Hid (w6.heap[qg]? = some (.cells (slotV x) 38 (0, 0))) := by show _ = _; rw [← hw6]; exact setRow_heap _ _ _ _ _ _ X5.out
        have Q6 : Hid (w6.heap[q]? = some (.cells (slotV s) 38 (0, 0))) := by show _ = _; rw [← hw6]; exact (setRow_other _ _ _ _ (by have := SQ.out; omega)).trans Q5.out
        have Z6 : Hid (w6.heap[w.heap.size + 1]? = some (.cells (slotV zeroS) 38 (0, 0))) := by show _ = _; rw [← hw6]; exact (setRow_other _ _ _ _ (by have := SQ.out; have := QB.out; omega)).trans Z5.out
        have B6 : Hid (Below w.heap.size w w6) := by show Below _ _ _; rw [← hw6]; exact below_setRow B5.out GQ.out _
        have HW6 : Hid (_ = w6) := hw6
        have hou := OU.out w6 i B6.out
        clear hw6 hix hle hil
        go_wp2_with (first | ((with_reducible refine wl_gL _ rfl ?_); refine wl_loadS rfl _ rfl g0 (i * 36) rfl x ld1.out ?_) | ((with_reducible refine wl_gS _ _ rfl ?_); refine wl_storeS rfl _ _ rfl qg x zeroS rfl rfl X5.out _ HW6.out ?_) | (go_at_call 58; refine hou.mono ?_; rintro e w7 ⟨rfl, h7⟩; refine of_stopS ?_))
        unfold StopS
        obtain ⟨u7, h71, h72, h73⟩ := h7
        have NF : ∀ j, w.heap.size ≤ j → ¬ footR r gr vl j := fun j hj e => by have := (HT9.out.foot_in j e).2; omega
        have X7 : Hid (w7.heap[qg]? = some (.cells (slotV x) 38 (0, 0))) := h72.heap X6.out (NF _ GQ.out)
        have Q7 : Hid (w7.heap[q]? = some (.cells (slotV s) 38 (0, 0))) := h72.heap Q6.out (NF _ (by have := QB.out; omega))
        have Z7 : Hid (w7.heap[w.heap.size + 1]? = some (.cells (slotV zeroS) 38 (0, 0))) := h72.heap Z6.out (NF _ (by omega))
        have T7 : Hid (RTabV B w7 r gr R (L.eraseIdx i) u7) := h71
        have K7 : Hid (Kept (footR r gr vl) w w7) := Kept.pre B6.out h72
        have F7 : Hid (∀ j, footR r gr u7 j → footR r gr vl j ∨ w6.heap.size ≤ j) := h73
        have S6 : Hid (w.heap.size ≤ w6.heap.size ∧ qg < w6.heap.size ∧ q < w6.heap.size ∧ w.heap.size + 1 < w6.heap.size) := ⟨B6.out.size, (Array.getElem?_eq_some_iff.1 X6.out).1, (Array.getElem?_eq_some_iff.1 Q6.out).1, (Array.getElem?_eq_some_iff.1 Z6.out).1⟩
        have N7 : Hid (∀ j, w.heap.size ≤ j → j < w6.heap.size → ¬ footR r gr u7 j) := fun j h1 h2 e => by rcases F7.out j e with e | e; exact NF j h1 e; omega
        clear h71 h72 h73 NF X6 Q6 Z6 X5 Q5 Z5 hou c5 ld1 HW6
        obtain ⟨L7, hL7⟩ : ∃ L7, L7 = L.eraseIdx i := ⟨_, rfl⟩
        have LL7 : Hid (L7.length ≤ 1000000) := by show _ ≤ _; rw [hL7]; have h1 := List.length_eraseIdx_le L i; have h2 := LEN9.out; omega
        have IB7 : Hid (InBanks L7) := by intro z hz; rw [hL7] at hz; exact HIB.out z (List.mem_of_mem_eraseIdx hz)
        rw [← hL7] at T7 LF
        clear hL7
        have Q9 : Hid (w7.heap[q]? = some (.cells (slotV s) 38 (0, 0))) := Q7
        have BW9 : Hid (Below w7.heap.size w7 w7) := Below.refl _ _
        have TT9 : Hid (RTabV B w7 r gr R L7 u7) := T7
        have QG9 : Hid (¬ footR r gr u7 q) := N7.out q (by have := QB.out; omega) S6.out.2.2.1
        clear HT9 BB9 LEN9 HL HF OU GU HEV
        have HT9 : Hid (RTabV B w7 r gr R L7 u7) := T7
        have BB9 : Hid (B ≤ w7.heap.size) := by show _ ≤ _; have h9 := T7.out.hB; have h8 := (Array.getElem?_eq_some_iff.1 T7.out.blk).1; omega
        have LEN9 : Hid (L7.length ≤ 1000000) := LL7
        go_wp2_with fail
        refine region_cut (fun a a' w' => ∃ y112 y113 y114 y115 y116 y117 y118 y119 y120 y121 v' w9, a' = ((((((((((a.put (some 112) y112).put (some 113) y113).put (some 114) y114).put (some 115) y115).put (some 116) y116).put (some 117) y117).put (some 118) y118).put (some 119) y119).put (some 120) y120).put (some 121) y121) ∧ w' = World.setCell w9 ⟨r, 0, none⟩ v' ∧ RTabTo B w7 (World.setCell w9 ⟨r, 0, none⟩ v') r gr R (L7 ++ [s]) u7 ∧ (∀ j ob, ¬ footR r gr u7 j → (World.heap w7)[j]? = some ob → (World.setCell w9 ⟨r, 0, none⟩ v').heap[j]? = some ob)) ?_ ?_
        · have ne9 : Nonempty (KeepO q (.cells (slotV s) 38 (0, 0))) := ⟨⟨w7, Q9.out⟩⟩
          refine region_beginS (InO q (.cells (slotV s) 38 (0, 0))) 11 rfl (by kernel_rfl) ?_
          refine region_reads 0 2 9 rfl (by kernel_rfl) (by kernel_rfl) (by kernel_rfl) (by intro d v c a w h; exact absurd h.1 (by simp)) (InO.of (w := World.drew w7) Q9.out) ?_
          simp only [List.drop_zero, List.take_succ_cons, List.take_zero]
          go_big_quiet_step (rfl)
          go_big_quiet_step (rfl)
          refine wpQuiet_nil ?_
          refine take_nil (i := 2) (some 114) rfl rfl _ rfl _ rfl rfl (by kernel_rfl) (by kernel_rfl) (by kernel_rfl) (InO.of (w := World.drew w7) Q9.out) ?_
          simp only [Act.put, List.setIfInBounds_toArray, List.set_cons_succ, List.set_cons_zero]
          refine region_reads 3 1 7 rfl (by kernel_rfl) (by kernel_rfl) (by kernel_rfl) (by intro d v c a w h; exact absurd h.1 (by simp)) (InO.of (w := World.drew w7) Q9.out) ?_
          simp only [List.drop_succ_cons, List.drop_zero, List.take_succ_cons, List.take_zero]
          go_big_quiet_step (rfl)
          refine wpQuiet_nil ?_
          refine region_reads 5 1 6 rfl (by kernel_rfl) (by kernel_rfl) (by kernel_rfl) (by intro d v c a w h; exact absurd h.1 (by simp)) (InO.of (w := World.drew w7) Q9.out) ?_
          simp only [List.drop_succ_cons, List.drop_zero, List.take_succ_cons, List.take_zero]
          refine qlE (E := SlotE) SlotOk rfl _ rfl q 0 rfl _ _ _ (slotV s) (slotV_size _) (by rintro w' ⟨z, rfl⟩; exact z.k1) (own_cells _ _) ?_
          simp only [Act.put, List.setIfInBounds_toArray, List.set_cons_succ, List.set_cons_zero]
          refine wpQuiet_nil ?_
          refine wpAnyH_all (rs := [4, 6]) (by kernel_rfl) (by decide) ?_
          intro i hi
          simp only [List.mem_cons, List.not_mem_nil, or_false] at hi
          rcases hi with rfl | rfl
          · skip
            refine wpOp_val rfl rfl u7 (load_sl rfl _ _ ⟨r, 0, none⟩ u7 rfl ((RTabV.below TT9.out (by first | exact (Below.refl _ _).drew | exact (Below.refl _ _).drew.alloc (Nat.le_refl _) _)).f.c0)) (some 116) rfl ?_
            refine ⟨InO.of (w := World.drew w7) Q9.out, ?_⟩
            simp only [Act.put, List.setIfInBounds_toArray, List.set_cons_succ, List.set_cons_zero]
            refine wpAnyH_all (rs := [6]) (by kernel_rfl) (by decide) ?_
            intro i hi
            obtain rfl := List.mem_singleton.1 hi
            refine wpOp_build1S rfl rfl _ rfl s rfl (some 118) rfl ?_
            refine ⟨InO.of (heap_past _ _ _ _ Q9.out), ?_⟩
            simp only [Act.put, List.setIfInBounds_toArray, List.set_cons_succ, List.set_cons_zero]
            refine wpAnyH_all (rs := [7]) (by kernel_rfl) (by decide) ?_
            intro i hi
            obtain rfl := List.mem_singleton.1 hi
            refine wpOp_appendS rfl rfl _ _ rfl B u7 L7 s rfl ((TT9.out.below ((Below.refl _ _).drew.alloc (Nat.le_refl _) _)).own) _ 1 rfl (heap_new _ _ _ rfl) LEN9.out (by have h9 := BW9.out.size; have h8 := BB9.out; simp; omega) (some 119) rfl ?_
            intro v' w9 hown9 hgr9 hat9
            have F9 := rapp_fin (s := s) HT9.out BW9.out v' w9 hown9 hgr9 hat9
            obtain ⟨⟨o9, n9, c9, rfl⟩, ce9, fz9, bl9, tt9⟩ := F9
            refine ⟨InO.of (bl9 _ _ QG9.out Q9.out).1, ?_⟩
            simp only [Act.put, List.setIfInBounds_toArray, List.set_cons_succ, List.set_cons_zero]
            refine take_nil (i := 8) (some 120) rfl rfl _ rfl _ rfl rfl (by kernel_rfl) (by kernel_rfl) (by kernel_rfl) (InO.of (bl9 _ _ QG9.out Q9.out).1) ?_
            simp only [Act.put, List.setIfInBounds_toArray, List.set_cons_succ, List.set_cons_zero]
            refine region_reads 9 1 1 rfl (by kernel_rfl) (by kernel_rfl) (by kernel_rfl) (by intro d v c a w h; exact absurd h.1 (by simp)) (InO.of (bl9 _ _ QG9.out Q9.out).1) ?_
            simp only [List.drop_succ_cons, List.drop_zero, List.take_succ_cons, List.take_zero]
            go_big_quiet_step (rfl)
            refine wpQuiet_nil ?_
            refine wpAnyH_all (rs := [10]) (by kernel_rfl) (by decide) ?_
            intro i hi
            obtain rfl := List.mem_singleton.1 hi
            refine wpOp_skip0 rfl rfl (store_sl rfl _ _ ⟨r, 0, none⟩ _ _ _ _ rfl rfl ce9 fz9) rfl ?_
            refine ⟨InO.of (bl9 _ _ QG9.out Q9.out).2, ?_⟩
            refine wpAnyH_done (by kernel_rfl) ?_ _
            exact ⟨rfl, _, _, _, _, _, _, _, _, _, _, _, w9, rfl, rfl, tt9, fun j ob h1 h2 => (bl9 j ob h1 h2).2⟩
          · skip
            refine wpOp_build1S rfl rfl _ rfl s rfl (some 118) rfl ?_
            refine ⟨InO.of (heap_past _ _ _ _ Q9.out), ?_⟩
            simp only [Act.put, List.setIfInBounds_toArray, List.set_cons_succ, List.set_cons_zero]
            refine wpAnyH_all (rs := [4]) (by kernel_rfl) (by decide) ?_
            intro i hi
            obtain rfl := List.mem_singleton.1 hi
            refine wpOp_val rfl rfl u7 (load_sl rfl _ _ ⟨r, 0, none⟩ u7 rfl ((RTabV.below TT9.out (by first | exact (Below.refl _ _).drew | exact (Below.refl _ _).drew.alloc (Nat.le_refl _) _)).f.c0)) (some 116) rfl ?_
            refine ⟨InO.of (heap_past _ _ _ _ Q9.out), ?_⟩
            simp only [Act.put, List.setIfInBounds_toArray, List.set_cons_succ, List.set_cons_zero]
            refine wpAnyH_all (rs := [7]) (by kernel_rfl) (by decide) ?_
            intro i hi
            obtain rfl := List.mem_singleton.1 hi
            refine wpOp_appendS rfl rfl _ _ rfl B u7 L7 s rfl ((TT9.out.below ((Below.refl _ _).drew.alloc (Nat.le_refl _) _)).own) _ 1 rfl (heap_new _ _ _ rfl) LEN9.out (by have h9 := BW9.out.size; have h8 := BB9.out; simp; omega) (some 119) rfl ?_
            intro v' w9 hown9 hgr9 hat9
            have F9 := rapp_fin (s := s) HT9.out BW9.out v' w9 hown9 hgr9 hat9
            obtain ⟨⟨o9, n9, c9, rfl⟩, ce9, fz9, bl9, tt9⟩ := F9
            refine ⟨InO.of (bl9 _ _ QG9.out Q9.out).1, ?_⟩
            simp only [Act.put, List.setIfInBounds_toArray, List.set_cons_succ, List.set_cons_zero]
            refine take_nil (i := 8) (some 120) rfl rfl _ rfl _ rfl rfl (by kernel_rfl) (by kernel_rfl) (by kernel_rfl) (InO.of (bl9 _ _ QG9.out Q9.out).1) ?_
            simp only [Act.put, List.setIfInBounds_toArray, List.set_cons_succ, List.set_cons_zero]
            refine region_reads 9 1 1 rfl (by kernel_rfl) (by kernel_rfl) (by kernel_rfl) (by intro d v c a w h; exact absurd h.1 (by simp)) (InO.of (bl9 _ _ QG9.out Q9.out).1) ?_
            simp only [List.drop_succ_cons, List.drop_zero, List.take_succ_cons, List.take_zero]
            go_big_quiet_step (rfl)
            refine wpQuiet_nil ?_
            refine wpAnyH_all (rs := [10]) (by kernel_rfl) (by decide) ?_
            intro i hi
            obtain rfl := List.mem_singleton.1 hi
            refine wpOp_skip0 rfl rfl (store_sl rfl _ _ ⟨r, 0, none⟩ _ _ _ _ rfl rfl ce9 fz9) rfl ?_
            refine ⟨InO.of (bl9 _ _ QG9.out Q9.out).2, ?_⟩
            refine wpAnyH_done (by kernel_rfl) ?_ _
            exact ⟨rfl, _, _, _, _, _, _, _, _, _, _, _, w9, rfl, rfl, tt9, fun j ob h1 h2 => (bl9 j ob h1 h2).2⟩
        · rintro a' w' ⟨y112, y113, y114, y115, y116, y117, y118, y119, y120, y121, v', w9, rfl, rfl, tt9, bl9⟩
          have T9 : Hid _ := tt9
          have L9 : Hid _ := bl9
          clear tt9 bl9
          simp only [Act.put, List.setIfInBounds_toArray, List.set_cons_succ, List.set_cons_zero]
          have X9 : Hid ((World.setCell w9 ⟨r, 0, none⟩ v').heap[qg]? = some (.cells (slotV x) 38 (0, 0))) := L9.out qg _ (N7.out qg GQ.out S6.out.2.1) X7.out
          have Z9 : Hid ((World.setCell w9 ⟨r, 0, none⟩ v').heap[w.heap.size + 1]? = some (.cells (slotV zeroS) 38 (0, 0))) := L9.out _ _ (N7.out _ (by omega) S6.out.2.2.2) Z7.out
          obtain ⟨wz, hwz⟩ : ∃ wz, World.setCell w9 ⟨r, 0, none⟩ v' = wz := ⟨_, rfl⟩
          rw [hwz] at X9 Z9 T9
          rw [hwz]
          clear hwz L9
          go_wp2_with (first | ((with_reducible refine wl_gL _ rfl ?_); refine wl_loadS rfl _ rfl qg 0 rfl x (ld_own X9.out) ?_) | ((with_reducible refine wl_gS _ _ rfl ?_); refine wl_storeS rfl _ _ rfl (w.heap.size + 1) x zeroS rfl rfl Z9.out _ rfl ?_))
          refine ret3S (p := 10) (u := 11) (u' := 12) rfl rfl (w.heap.size + 1) rfl x (setRow_heap _ _ _ _ _ _ Z9.out) _ _ rfl rfl ?_
          rw [LF.out.1]
          refine ⟨rfl, L7 ++ [s], ?_, LF.out.2, bank_snoc IB7.out (.inl SB.out.1)⟩
          have TN := RTabTo.next K7.out (fun j e => by rcases F7.out j e with e | e; exact .inl e; exact .inr (Nat.le_trans S6.out.1 e)) T9.out
          obtain ⟨uf, f1, f2, f3⟩ := T9.out
          obtain ⟨ug, g1, g2, g3⟩ := TN
          refine ⟨uf, f1.kept (kept_setRow _ _ _) fun j e e' => ?_, g2.trans (kept_setRow _ _ _) fun j e => .inr (by unfold isB at e; omega), fun j e => ?_⟩
          · unfold isB at e'
            subst e'
            rcases f3 _ e with e | e
            · exact N7.out _ (by omega) S6.out.2.2.2 e
            · have h1 := (Array.getElem?_eq_some_iff.1 Z7.out).1; omega
          · rcases f3 _ e with e | e
            · rcases F7.out j e with e | e
              · exact .inl e
              · exact .inr (Nat.le_trans S6.out.1 e)
            · exact .inr (Nat.le_trans K7.out.size e)
      · subst hh
        have hlen : (bkOf L 1).length ≠ rc := by have h9 := HFB.out; intro e; rw [e] at h9; simp at h9
        have LF : Hid (learnT rc (bkOf L 1) s = (bkOf (L ++ [s]) 1, zeroS, false, 0) ∧ bks (L ++ [s]) = { bks L with c := bkOf (L ++ [s]) 1 }) := learn_more_L (room := rc) (by rw [HRC.out]; exact HR0.out) SB.out.1 HNO.out hlen
        clear hlen
        have NF : ∀ j, w.heap.size ≤ j → ¬ footR r gr vl j := fun j hj e => by have := (HT9.out.foot_in j e).2; omega
        have T7 : Hid (RTabV B w5 r gr R L vl) := HT9.out.below B5.out
        have K7 : Hid (Kept (footR r gr vl) w w5) := Kept.of_below B5.out
        have N7 : Hid (∀ j, w.heap.size ≤ j → ¬ footR r gr vl j) := NF
        have Q9 : Hid (w5.heap[q]? = some (.cells (slotV s) 38 (0, 0))) := Q5
        have BW9 : Hid (Below w5.heap.size w5 w5) := Below.refl _ _
        have TT9 : Hid (RTabV B w5 r gr R L vl) := T7
        have QG9 : Hid (¬ footR r gr vl q) := NF q (by have := QB.out; omega)
        clear HT9 BB9 HL HF OU GU HEV NF
        have HT9 : Hid (RTabV B w5 r gr R L vl) := T7
        have BB9 : Hid (B ≤ w5.heap.size) := by show _ ≤ _; have h9 := T7.out.hB; have h8 := (Array.getElem?_eq_some_iff.1 T7.out.blk).1; omega
        go_wp2_with fail
        refine region_cut (fun a a' w' => ∃ y112 y113 y114 y115 y116 y117 y118 y119 y120 y121 v' w9, a' = ((((((((((a.put (some 112) y112).put (some 113) y113).put (some 114) y114).put (some 115) y115).put (some 116) y116).put (some 117) y117).put (some 118) y118).put (some 119) y119).put (some 120) y120).put (some 121) y121) ∧ w' = World.setCell w9 ⟨r, 0, none⟩ v' ∧ RTabTo B w5 (World.setCell w9 ⟨r, 0, none⟩ v') r gr R (L ++ [s]) vl ∧ (∀ j ob, ¬ footR r gr vl j → (World.heap w5)[j]? = some ob → (World.setCell w9 ⟨r, 0, none⟩ v').heap[j]? = some ob)) ?_ ?_
        · have ne9 : Nonempty (KeepO q (.cells (slotV s) 38 (0, 0))) := ⟨⟨w5, Q9.out⟩⟩
          refine region_beginS (InO q (.cells (slotV s) 38 (0, 0))) 11 rfl (by kernel_rfl) ?_
          refine region_reads 0 2 9 rfl (by kernel_rfl) (by kernel_rfl) (by kernel_rfl) (by intro d v c a w h; exact absurd h.1 (by simp)) (InO.of (w := World.drew w5) Q9.out) ?_
          simp only [List.drop_zero, List.take_succ_cons, List.take_zero]
          go_big_quiet_step (rfl)
          go_big_quiet_step (rfl)
          refine wpQuiet_nil ?_
          refine take_nil (i := 2) (some 114) rfl rfl _ rfl _ rfl rfl (by kernel_rfl) (by kernel_rfl) (by kernel_rfl) (InO.of (w := World.drew w5) Q9.out) ?_
          simp only [Act.put, List.setIfInBounds_toArray, List.set_cons_succ, List.set_cons_zero]
          refine region_reads 3 1 7 rfl (by kernel_rfl) (by kernel_rfl) (by kernel_rfl) (by intro d v c a w h; exact absurd h.1 (by simp)) (InO.of (w := World.drew w5) Q9.out) ?_
          simp only [List.drop_succ_cons, List.drop_zero, List.take_succ_cons, List.take_zero]
          go_big_quiet_step (rfl)
          refine wpQuiet_nil ?_
          refine region_reads 5 1 6 rfl (by kernel_rfl) (by kernel_rfl) (by kernel_rfl) (by intro d v c a w h; exact absurd h.1 (by simp)) (InO.of (w := World.drew w5) Q9.out) ?_
          simp only [List.drop_succ_cons, List.drop_zero, List.take_succ_cons, List.take_zero]
          refine qlE (E := SlotE) SlotOk rfl _ rfl q 0 rfl _ _ _ (slotV s) (slotV_size _) (by rintro w' ⟨z, rfl⟩; exact z.k1) (own_cells _ _) ?_
          simp only [Act.put, List.setIfInBounds_toArray, List.set_cons_succ, List.set_cons_zero]
          refine wpQuiet_nil ?_
          refine wpAnyH_all (rs := [4, 6]) (by kernel_rfl) (by decide) ?_
          intro i hi
          simp only [List.mem_cons, List.not_mem_nil, or_false] at hi
          rcases hi with rfl | rfl
          · skip
            refine wpOp_val rfl rfl vl (load_sl rfl _ _ ⟨r, 0, none⟩ vl rfl ((RTabV.below TT9.out (by first | exact (Below.refl _ _).drew | exact (Below.refl _ _).drew.alloc (Nat.le_refl _) _)).f.c0)) (some 116) rfl ?_
            refine ⟨InO.of (w := World.drew w5) Q9.out, ?_⟩
            simp only [Act.put, List.setIfInBounds_toArray, List.set_cons_succ, List.set_cons_zero]
            refine wpAnyH_all (rs := [6]) (by kernel_rfl) (by decide) ?_
            intro i hi
            obtain rfl := List.mem_singleton.1 hi
            refine wpOp_build1S rfl rfl _ rfl s rfl (some 118) rfl ?_
            refine ⟨InO.of (heap_past _ _ _ _ Q9.out), ?_⟩
            simp only [Act.put, List.setIfInBounds_toArray, List.set_cons_succ, List.set_cons_zero]
            refine wpAnyH_all (rs := [7]) (by kernel_rfl) (by decide) ?_
            intro i hi
            obtain rfl := List.mem_singleton.1 hi
            refine wpOp_appendS rfl rfl _ _ rfl B vl L s rfl ((TT9.out.below ((Below.refl _ _).drew.alloc (Nat.le_refl _) _)).own) _ 1 rfl (heap_new _ _ _ rfl) LEN9.out (by have h9 := BW9.out.size; have h8 := BB9.out; simp; omega) (some 119) rfl ?_
            intro v' w9 hown9 hgr9 hat9
            have F9 := rapp_fin (s := s) HT9.out BW9.out v' w9 hown9 hgr9 hat9
            obtain ⟨⟨o9, n9, c9, rfl⟩, ce9, fz9, bl9, tt9⟩ := F9
            refine ⟨InO.of (bl9 _ _ QG9.out Q9.out).1, ?_⟩
            simp only [Act.put, List.setIfInBounds_toArray, List.set_cons_succ, List.set_cons_zero]
            refine take_nil (i := 8) (some 120) rfl rfl _ rfl _ rfl rfl (by kernel_rfl) (by kernel_rfl) (by kernel_rfl) (InO.of (bl9 _ _ QG9.out Q9.out).1) ?_
            simp only [Act.put, List.setIfInBounds_toArray, List.set_cons_succ, List.set_cons_zero]
            refine region_reads 9 1 1 rfl (by kernel_rfl) (by kernel_rfl) (by kernel_rfl) (by intro d v c a w h; exact absurd h.1 (by simp)) (InO.of (bl9 _ _ QG9.out Q9.out).1) ?_
            simp only [List.drop_succ_cons, List.drop_zero, List.take_succ_cons, List.take_zero]
            go_big_quiet_step (rfl)
            refine wpQuiet_nil ?_
            refine wpAnyH_all (rs := [10]) (by kernel_rfl) (by decide) ?_
            intro i hi
            obtain rfl := List.mem_singleton.1 hi
            refine wpOp_skip0 rfl rfl (store_sl rfl _ _ ⟨r, 0, none⟩ _ _ _ _ rfl rfl ce9 fz9) rfl ?_
            refine ⟨InO.of (bl9 _ _ QG9.out Q9.out).2, ?_⟩
            refine wpAnyH_done (by kernel_rfl) ?_ _
            exact ⟨rfl, _, _, _, _, _, _, _, _, _, _, _, w9, rfl, rfl, tt9, fun j ob h1 h2 => (bl9 j ob h1 h2).2⟩
          · skip
            refine wpOp_build1S rfl rfl _ rfl s rfl (some 118) rfl ?_
            refine ⟨InO.of (heap_past _ _ _ _ Q9.out), ?_⟩
            simp only [Act.put, List.setIfInBounds_toArray, List.set_cons_succ, List.set_cons_zero]
            refine wpAnyH_all (rs := [4]) (by kernel_rfl) (by decide) ?_
            intro i hi
            obtain rfl := List.mem_singleton.1 hi
            refine wpOp_val rfl rfl vl (load_sl rfl _ _ ⟨r, 0, none⟩ vl rfl ((RTabV.below TT9.out (by first | exact (Below.refl _ _).drew | exact (Below.refl _ _).drew.alloc (Nat.le_refl _) _)).f.c0)) (some 116) rfl ?_
            refine ⟨InO.of (heap_past _ _ _ _ Q9.out), ?_⟩
            simp only [Act.put, List.setIfInBounds_toArray, List.set_cons_succ, List.set_cons_zero]
            refine wpAnyH_all (rs := [7]) (by kernel_rfl) (by decide) ?_
            intro i hi
            obtain rfl := List.mem_singleton.1 hi
            refine wpOp_appendS rfl rfl _ _ rfl B vl L s rfl ((TT9.out.below ((Below.refl _ _).drew.alloc (Nat.le_refl _) _)).own) _ 1 rfl (heap_new _ _ _ rfl) LEN9.out (by have h9 := BW9.out.size; have h8 := BB9.out; simp; omega) (some 119) rfl ?_
            intro v' w9 hown9 hgr9 hat9
            have F9 := rapp_fin (s := s) HT9.out BW9.out v' w9 hown9 hgr9 hat9
            obtain ⟨⟨o9, n9, c9, rfl⟩, ce9, fz9, bl9, tt9⟩ := F9
            refine ⟨InO.of (bl9 _ _ QG9.out Q9.out).1, ?_⟩
            simp only [Act.put, List.setIfInBounds_toArray, List.set_cons_succ, List.set_cons_zero]
            refine take_nil (i := 8) (some 120) rfl rfl _ rfl _ rfl rfl (by kernel_rfl) (by kernel_rfl) (by kernel_rfl) (InO.of (bl9 _ _ QG9.out Q9.out).1) ?_
            simp only [Act.put, List.setIfInBounds_toArray, List.set_cons_succ, List.set_cons_zero]
            refine region_reads 9 1 1 rfl (by kernel_rfl) (by kernel_rfl) (by kernel_rfl) (by intro d v c a w h; exact absurd h.1 (by simp)) (InO.of (bl9 _ _ QG9.out Q9.out).1) ?_
            simp only [List.drop_succ_cons, List.drop_zero, List.take_succ_cons, List.take_zero]
            go_big_quiet_step (rfl)
            refine wpQuiet_nil ?_
            refine wpAnyH_all (rs := [10]) (by kernel_rfl) (by decide) ?_
            intro i hi
            obtain rfl := List.mem_singleton.1 hi
            refine wpOp_skip0 rfl rfl (store_sl rfl _ _ ⟨r, 0, none⟩ _ _ _ _ rfl rfl ce9 fz9) rfl ?_
            refine ⟨InO.of (bl9 _ _ QG9.out Q9.out).2, ?_⟩
            refine wpAnyH_done (by kernel_rfl) ?_ _
            exact ⟨rfl, _, _, _, _, _, _, _, _, _, _, _, w9, rfl, rfl, tt9, fun j ob h1 h2 => (bl9 j ob h1 h2).2⟩
        · rintro a' w' ⟨y112, y113, y114, y115, y116, y117, y118, y119, y120, y121, v', w9, rfl, rfl, tt9, bl9⟩
          have T9 : Hid _ := tt9
          have L9 : Hid _ := bl9
          clear tt9 bl9
          simp only [Act.put, List.setIfInBounds_toArray, List.set_cons_succ, List.set_cons_zero]
          have X9 : Hid ((World.setCell w9 ⟨r, 0, none⟩ v').heap[qg]? = some (.cells (slotV zeroS) 38 (0, 0))) := L9.out qg _ (N7.out qg GQ.out) X5.out
          have Z9 : Hid ((World.setCell w9 ⟨r, 0, none⟩ v').heap[w.heap.size + 1]? = some (.cells (slotV zeroS) 38 (0, 0))) := L9.out _ _ (N7.out _ (by omega)) Z5.out
          obtain ⟨wz, hwz⟩ : ∃ wz, World.setCell w9 ⟨r, 0, none⟩ v' = wz := ⟨_, rfl⟩
          rw [hwz] at X9 Z9 T9
          rw [hwz]
          clear hwz L9
          go_wp2_with (first | ((with_reducible refine wl_gL _ rfl ?_); refine wl_loadS rfl _ rfl qg 0 rfl zeroS (ld_own X9.out) ?_) | ((with_reducible refine wl_gS _ _ rfl ?_); refine wl_storeS rfl _ _ rfl (w.heap.size + 1) zeroS zeroS rfl rfl Z9.out _ rfl ?_))
          refine ret3S (p := 10) (u := 11) (u' := 12) rfl rfl (w.heap.size + 1) rfl zeroS (setRow_heap _ _ _ _ _ _ Z9.out) _ _ rfl rfl ?_
          rw [LF.out.1]
          refine ⟨rfl, L ++ [s], ?_, LF.out.2, bank_snoc HIB.out (.inl SB.out.1)⟩
          obtain ⟨uf, f1, f2, f3⟩ := T9.out
          refine ⟨uf, f1.kept (kept_setRow _ _ _) fun j e e' => ?_, (K7.out.trans f2 fun j e => .inl e).trans (kept_setRow _ _ _) fun j e => .inr (by unfold isB at e; omega), fun j e => ?_⟩
          · unfold isB at e'
            subst e'
            rcases f3 _ e with e | e
            · exact N7.out _ (by omega) e
            · have h1 := (Array.getElem?_eq_some_iff.1 Z5.out).1; omega
          · rcases f3 _ e with e | e
            · exact .inl e
            · exact .inr (Nat.le_trans K7.out.size e)
end Go.Proofs.Ytojhckjdkafpmaa
