import Derived.Test.YtojhckjdkafpmaaJ11
import Derived.Test.YtojhckjdkafpmaaJ16
import Derived.Test.YtojhckjdkafpmaaJ15
namespace Go.Proofs.Ytojhckjdkafpmaa
open Go Go.RowKit
set_option maxRecDepth 20000

/-! What stays in all calls. -/
structure InvX (n : Nat) (R : Rm) (S : Bks) : Prop where
  inv : InvT OkC n R S
  ord : ∀ x ∈ S.c, x.order = 0
  dist : DistC S.c
theorem InvX.more {n : Nat} {R : Rm} {S : Bks} (h : InvX n R S) : InvX (n + 1) R S := ⟨h.inv.more, h.ord, h.dist⟩
theorem invx_nil (R : Rm) : InvX 0 R ⟨[], [], []⟩ := ⟨inv_nil _ _, fun x hx => by simp at hx, List.Pairwise.nil⟩
theorem dist_mid {A D : List Slt} {x y : Slt} (h : DistC (A ++ x :: D)) (he : y.epoch = x.epoch) (hc : y.cube = x.cube) : DistC (A ++ y :: D) := by
  unfold DistC at h ⊢
  rw [List.pairwise_append] at h ⊢
  rw [List.pairwise_cons] at h ⊢
  refine ⟨h.1, ⟨fun z hz => by rw [he, hc]; exact h.2.1.1 z hz, h.2.1.2⟩, fun a ha b hb => ?_⟩
  rcases List.mem_cons.1 hb with rfl | hb
  · rw [he, hc]; exact h.2.2 a ha x (by simp)
  · exact h.2.2 a ha b (by simp [hb])
theorem sameC_iff {s x : Slt} : sameC s x = true ↔ x.epoch = s.epoch ∧ x.cube = s.cube := by unfold sameC; simp
theorem dist_snoc {C : List Slt} {s : Slt} (h : DistC C) (hn : ∀ y ∈ C, sameC s y = false) : DistC (C ++ [s]) := by
  unfold DistC at h ⊢
  rw [List.pairwise_append]
  refine ⟨h, List.pairwise_singleton _ _, fun a ha b hb => ?_⟩
  obtain rfl : b = s := by simpa using hb
  intro e
  have h1 := sameC_iff.2 e
  rw [hn a ha] at h1
  cases h1
theorem dist_learn (room : Nat) (C : List Slt) (s : Slt) (h : DistC C) : DistC (learnT room C s).1 := by
  rcases learnT_cases room C s with ⟨_, e⟩ | ⟨_, A, x, D, ⟨h1, h2, _⟩, e⟩ | ⟨_, hn, hf, A, x, D, ⟨h1, _⟩, e⟩ | ⟨_, hn, hf, e⟩
  · rw [e]; exact h
  · rw [e]
    subst h1
    obtain ⟨q1, q2⟩ := sameC_iff.1 h2
    exact dist_mid h q1.symm q2.symm
  · rw [e]
    subst h1
    refine dist_snoc ?_ fun y hy => hn y ?_
    · unfold DistC at h ⊢
      refine h.sublist ?_
      exact List.Sublist.append (List.Sublist.refl _) (List.sublist_cons_self _ _)
    · rcases List.mem_append.1 hy with h2 | h2
      · simp [h2]
      · simp [h2]
  · rw [e]
    exact dist_snoc h hn
theorem invx_learn {n : Nat} {R : Rm} {S : Bks} (h : InvX n R S) (s : Slt) (hs : s.order = 0) : (∀ x ∈ (learnT R.cache S.c s).1, x.order = 0) ∧ DistC (learnT R.cache S.c s).1 :=
  ⟨learnT_all _ _ _ h.ord hs, dist_learn _ _ _ h.dist⟩
theorem invx_look {n : Nat} {R : Rm} {S : Bks} (h : InvX n R S) (mt : Slt → Bool) (now : Int) : (∀ x ∈ (lookT S mt now).1.c, x.order = 0) ∧ DistC (lookT S mt now).1.c := by
  rcases findT_cases S mt with ⟨A, x, D, ⟨h1, _⟩, e⟩ | ⟨_, A, x, D, ⟨h1, _⟩, e⟩ | ⟨_, _, A, x, D, ⟨h1, _⟩, e⟩ | ⟨_, _, _, e⟩
  · unfold lookT
    rw [e]
    simp only [putB, if_true]
    have h2 := h.ord
    have h3 := h.dist
    rw [h1] at h2 h3
    refine ⟨fun y hy => ?_, dist_mid h3 rfl rfl⟩
    rcases List.mem_append.1 hy with q | q
    · exact h2 y (by simp [q])
    · rcases List.mem_cons.1 q with rfl | q
      · exact h2 x (by simp)
      · exact h2 y (by simp [q])
  · unfold lookT
    rw [e]
    exact ⟨h.ord, h.dist⟩
  · unfold lookT
    rw [e]
    exact ⟨h.ord, h.dist⟩
  · unfold lookT
    rw [e]
    exact ⟨h.ord, h.dist⟩
theorem invx_step {n : Nat} {R : Rm} {S : Bks} (h : InvX n R S) (x : ActM) (hq : OkC x.slot.cube) : InvX (n + 1) R (stepT canC hsC R S x) := by
  refine ⟨inv_step h.inv x (canC_ok hq), ?_, ?_⟩
  all_goals
    unfold stepT
    by_cases h1 : x.kind = 1
    · rw [if_pos h1]
      first | exact (invx_learn h (newC x.now x.slot.epoch (canC x.slot.cube) x.slot.action) rfl).1 | exact (invx_learn h (newC x.now x.slot.epoch (canC x.slot.cube) x.slot.action) rfl).2
    rw [if_neg h1]
    by_cases h2 : x.kind = 2
    · rw [if_pos h2]
      by_cases b2 : x.slot.bank = 2
      · rw [if_pos b2]; first | exact h.ord | exact h.dist
      rw [if_neg b2]
      by_cases b3 : x.slot.bank = 3
      · rw [if_pos b3]; first | exact h.ord | exact h.dist
      rw [if_neg b3]; first | exact h.ord | exact h.dist
    rw [if_neg h2]
    by_cases h3 : x.kind = 3
    · rw [if_pos h3]; first | exact (invx_look h _ _).1 | exact (invx_look h _ _).2
    rw [if_neg h3]
    by_cases h6 : x.kind = 6
    · rw [if_pos h6]; first | exact fun y hy => h.ord y (List.mem_filter.1 hy).1 | exact List.Pairwise.filter _ h.dist
    rw [if_neg h6]
    by_cases h7 : x.kind = 7
    · rw [if_pos h7]; first | exact fun y hy => h.ord y (List.mem_filter.1 hy).1 | exact List.Pairwise.filter _ h.dist
    rw [if_neg h7]
    first | exact h.ord | exact h.dist
/-- How many leave: by banks, and by the one list. -/
theorem gone_len (q : Slt → Bool) (C : List Slt) : (C.filter fun x => !(q x)).length + (C.filter q).length = C.length := by
  induction C with
  | nil => rfl
  | cons x C ih =>
    rw [List.filter_cons, List.filter_cons]
    cases q x <;> simp <;> omega
end Go.Proofs.Ytojhckjdkafpmaa
namespace Go.Proofs.Ytojhckjdkafpmaa
open Go Go.RowKit
set_option maxRecDepth 20000

/-- What a call of the reference's leaves: the banks of its list. -/
def RDone (B : Nat) (w w' : World) (r gr : Nat) (R : Rm) (vl : Value) (S : Bks) : Prop := ∃ L', RTabTo B w w' r gr R L' vl ∧ bks L' = S ∧ InBanks L'
theorem SlotsAt.own0 {B : Nat} {w : World} {o : Option Addr} {n cap : Nat} {C : List Slt} (h : SlotsAt B w (.slice o n cap) C) (hn : 0 < C.length) : ∃ g, o = some ⟨g, 0, none⟩ := by
  obtain ⟨h1, ⟨e, h0⟩ | ⟨gb, cap', cur, e, _⟩⟩ := h
  · omega
  · simp only [Value.slice.injEq] at e
    exact ⟨gb, e.1⟩
theorem RTabV.row {B : Nat} {w w1 w2 w3 : World} {r gr : Nat} {R : Rm} {L L' : List Slt} {vl : Value} {Z : Nat → Prop} (h : RTabV B w r gr R L vl) (hb : Below w.heap.size w w1) (hk : Kept (rowX vl) w1 w2) (hu : SlotsAt B w2 vl L') (hb' : Kept Z w2 w3) (hZ : ∀ k, Z k → w.heap.size ≤ k) : RTabTo B w w3 r gr R L' vl := by
  have h1 := h.below hb
  have n1 : ¬ rowX vl r := h.own.ty h.blk (by decide)
  have n2 : ¬ rowX vl gr := h.own.ty h.room (by decide)
  have hrs := (Array.getElem?_eq_some_iff.1 h.blk).1
  have hgs := (Array.getElem?_eq_some_iff.1 h.room).1
  have k2 : Kept (footR r gr vl) w w2 := (Kept.of_below hb).trans hk fun k e => .inl (.inr (.inr e))
  refine ⟨vl, ⟨hb'.heap (hk.heap h1.blk n1) fun e => ?_, hb'.heap (hk.heap h1.room n2) fun e => ?_, hu.kept hb' fun k e e' => ?_, h.hB, h.hR⟩, k2.trans hb' fun k e => .inr (hZ k e), fun k e => .inl e⟩
  · have := hZ _ e; omega
  · have := hZ _ e; omega
  · have h3 := hZ k e'
    have h4 := (h.own.lt k e).2
    omega
theorem RTabV.same {B : Nat} {w w' : World} {r gr : Nat} {R : Rm} {L : List Slt} {vl : Value} (h : RTabV B w r gr R L vl) (hb : Below w.heap.size w w') : RTabTo B w w' r gr R L vl := ⟨vl, h.below hb, Kept.of_below hb, fun _ e => .inl e⟩
set_option maxHeartbeats 8000000 in
theorem rpeek_any (B : Nat) (w : World) (r gr : Nat) (R : Rm) (L : List Slt) (vl : Value) (h : RTabV B w r gr R L vl) (e : Int) (H : List Int) (hH : Byt H) (hok : ∀ x ∈ L, OkC x.cube) (hn : L.length ≤ 1000000) :
    Calls Try.prog 32 #[.pointer (some ⟨r, 0, none⟩), .int .i64 e, .agg (hv H)] w fun q w' => q = .returned (.tuple #[.agg (slotV (peekT (bks L) (mtS hsC e H)).1), .bool (peekT (bks L) (mtS hsC e H)).2]) ∧ Below w.heap.size w w' := by
  have HHl := hH.1
  have FI : Hid (∀ W, Below w.heap.size w W → Calls Try.prog 59 #[.pointer (some ⟨r, 0, none⟩), .int .i64 e, .agg (hv H)] W fun q w' => (∃ c, q = .returned (.int .i64 c) ∧ PlaceL L (mtS hsC e H) c) ∧ Below W.heap.size W w') := by
    intro W hb
    exact rfind_any B W r gr R L vl (h.below hb) e H hH hok hn
  have B0 : Hid (Below w.heap.size w ((w.alloc (.cells (hv H) 34)).alloc (.cells (slotV zeroS) 38))) := ((Below.refl _ _).alloc (Nat.le_refl _) _).alloc (by simp) _
  have H0 : Hid (((w.alloc (.cells (hv H) 34)).alloc (.cells (slotV zeroS) 38)).heap[w.heap.size]? = some (.cells (hv H) 34 (0, 0))) := heap_past _ _ _ _ (heap_new _ _ _ rfl)
  have Z0 : Hid (((w.alloc (.cells (hv H) 34)).alloc (.cells (slotV zeroS) 38)).heap[w.heap.size + 1]? = some (.cells (slotV zeroS) 38 (0, 0))) := heap_new _ _ _ (by simp)
  obtain ⟨o, cap, ev, hc1, hc2⟩ := h.own.slice
  have hl := h.own.sl
  rw [ev] at hl
  obtain ⟨n, hn0⟩ : ∃ n, n = L.length := ⟨_, rfl⟩
  have HN : Hid (n = L.length) := hn0
  have HF : Hid (∀ W, Below w.heap.size w W → W.cell? ⟨r, 0, none⟩ = some (.slice o n cap)) := by intro W hb; have h9 := (h.below hb).f.c0; rw [ev, ← hn0] at h9; exact h9
  rw [← hn0] at hl hc1 hn
  have HL : Hid (GSl SlotE slotV w (.slice o n cap) L) := hl
  unfold maxLen at hc2
  clear hl hn0 h ev hH hok
  go_enter Try.func32, Try.ntmps32
  go_wp2_with (first | ((with_reducible refine wl_gA rfl ?_); refine wl_allocS rfl rfl ?_; try rw [sz_alloc]) | ((with_reducible refine wl_gH _ rfl ?_); refine wl_loadHg rfl _ rfl w.heap.size rfl H H0.out HHl ?_) | (go_at_call 59; refine (FI.out _ B0.out).mono ?_; rintro q w1 ⟨⟨c, rfl, hp⟩, hb1⟩; have B1 : Hid (Below w.heap.size w w1) := below_step B0.out B0.out.size hb1; have Z1 : Hid (w1.heap[w.heap.size + 1]? = some (.cells (slotV zeroS) 38 (0, 0))) := (hb1.block _ (by simp)).trans Z0.out; clear hb1; refine of_stopS ?_))
  unfold StopS
  have c0 := HF.out w1 B1.out
  rcases place_peek hp with ⟨rfl, e2⟩ | ⟨i, x, rfl, hx, e2⟩
  · have E2 : Hid (peekT (bks L) (mtS hsC e H) = (zeroS, false)) := e2
    clear e2 hp
    go_wp2_with (first | ((with_reducible refine wl_gZ rfl ?_); refine wl_buildS rfl rfl ?_) | ((with_reducible refine wl_gS _ _ rfl ?_); refine wl_storeS rfl _ _ rfl (w.heap.size + 1) zeroS zeroS rfl rfl Z1.out _ rfl ?_))
    refine ret2S (p := 6) (q := 7) rfl rfl (w.heap.size + 1) rfl zeroS (setRow_heap _ _ _ _ _ _ Z1.out) _ rfl ?_
    rw [E2.out]
    exact ⟨rfl, below_setRow B1.out (by omega) _⟩
  · have E2 : Hid (peekT (bks L) (mtS hsC e H) = (x, true)) := e2
    have hin : i < n := by rw [HN.out]; exact (List.getElem?_eq_some_iff.1 hx).1
    have hi' : (i : Int) < (n : Int) := by omega
    have hi0 : ¬ (i : Int) < 0 := by omega
    obtain ⟨g', off, cur, ty, fr, y, rfl, hg, hcc, hyk⟩ := (GSl.below HL.out B1.out).at i hin
    obtain rfl : y = x := by rw [hx] at hyk; exact (Option.some.inj hyk).symm
    have K1 : Hid (w1.heap[g']? = some (.cells cur ty fr)) := hg
    have H1 : Hid (∀ j, j < 36 → cur[off + i * 36 + j]? = (slotV y)[j]?) := hcc
    clear e2 hp hg hcc hyk hx
    go_wp2_with (first | ((with_reducible refine wl_gL _ rfl ?_); refine wl_loadS rfl _ rfl g' (off + i * 36) rfl y (ld_row K1.out H1.out) ?_) | ((with_reducible refine wl_gS _ _ rfl ?_); refine wl_storeS rfl _ _ rfl (w.heap.size + 1) y zeroS rfl rfl Z1.out _ rfl ?_))
    refine ret2S (p := 6) (q := 7) rfl rfl (w.heap.size + 1) rfl y (setRow_heap _ _ _ _ _ _ Z1.out) _ rfl ?_
    rw [E2.out]
    exact ⟨rfl, below_setRow B1.out (by omega) _⟩
theorem wl_storeAtW {ops : Array Oper} {rest : List Oper} {o : Oper} {a : Act} {w : World} {Q : Exit → Act → World → Prop} (hgd : o.guard = none) (x y : Operand) (ho : o.op = .store 38 x y)
    (g off : Nat) (s : Slt) (hx : a.eval x = .pointer (some ⟨g, off, none⟩)) (hy : a.eval y = .agg (slotV s)) (cur : Array Value) (t : TypeId) (hg : w.heap[g]? = some (.cells cur t (0, 0))) (hf : off + 36 ≤ cur.size)
    (w' : World) (hw' : w.setRow g (cur.toList.take off ++ (slotV s).toList ++ cur.toList.drop (off + 36)).toArray = w')
    (h : wpList Try.prog ops Q rest (a.put o.dst undef) w') : wpList Try.prog ops Q (o :: rest) a w := by
  subst hw'
  exact wl_storeAtS hgd x y ho g off s hx hy cur t hg hf h
set_option maxHeartbeats 16000000 in
theorem rlook_any (B : Nat) (w : World) (r gr : Nat) (R : Rm) (L : List Slt) (vl : Value) (h : RTabV B w r gr R L vl) (now e : Int) (H : List Int) (hH : Byt H) (hok : ∀ x ∈ L, OkC x.cube ∧ 0 ≤ x.count ∧ x.count ≤ 1000000) (hn : L.length ≤ 1000000) (hib : InBanks L) :
    Calls Try.prog 31 #[.pointer (some ⟨r, 0, none⟩), .int .i64 now, .int .i64 e, .agg (hv H)] w fun q w' => q = .returned (.tuple #[.agg (slotV (lookT (bks L) (mtS hsC e H) now).2.1), .bool (lookT (bks L) (mtS hsC e H) now).2.2]) ∧ RDone B w w' r gr R vl (lookT (bks L) (mtS hsC e H) now).1 := by
  have HHl := hH.1
  have FI : Hid (∀ W, Below w.heap.size w W → Calls Try.prog 59 #[.pointer (some ⟨r, 0, none⟩), .int .i64 e, .agg (hv H)] W fun q w' => (∃ c, q = .returned (.int .i64 c) ∧ PlaceL L (mtS hsC e H) c) ∧ Below W.heap.size W w') := by
    intro W hb
    exact rfind_any B W r gr R L vl (h.below hb) e H hH (fun x hx => (hok x hx).1) hn
  have TI : Hid (∀ W, Calls Try.prog 21 #[.int .i64 now] W fun r w' => r = .returned (.int .i64 (timeT now)) ∧ w' = W) := rtime_any now
  have B0 : Hid (Below w.heap.size w ((w.alloc (.cells (hv H) 34)).alloc (.cells (slotV zeroS) 38))) := ((Below.refl _ _).alloc (Nat.le_refl _) _).alloc (by simp) _
  have H0 : Hid (((w.alloc (.cells (hv H) 34)).alloc (.cells (slotV zeroS) 38)).heap[w.heap.size]? = some (.cells (hv H) 34 (0, 0))) := heap_past _ _ _ _ (heap_new _ _ _ rfl)
  have Z0 : Hid (((w.alloc (.cells (hv H) 34)).alloc (.cells (slotV zeroS) 38)).heap[w.heap.size + 1]? = some (.cells (slotV zeroS) 38 (0, 0))) := heap_new _ _ _ (by simp)
  obtain ⟨o, cap, ev, hc1, hc2⟩ := h.own.slice
  obtain ⟨n, hn0⟩ : ∃ n, n = L.length := ⟨_, rfl⟩
  have HN : Hid (n = L.length) := hn0
  rw [← hn0] at ev hc1 hn
  subst ev
  have HT : Hid (RTabV B w r gr R L (.slice o n cap)) := h
  have HOK : Hid (∀ x ∈ L, OkC x.cube ∧ 0 ≤ x.count ∧ x.count ≤ 1000000) := hok
  have HIB : Hid (InBanks L) := hib
  unfold maxLen at hc2
  clear hn0 h hH hok hib
  go_enter Try.func31, Try.ntmps31
  go_wp2_with (first | ((with_reducible refine wl_gA rfl ?_); refine wl_allocS rfl rfl ?_; try rw [sz_alloc]) | ((with_reducible refine wl_gH _ rfl ?_); refine wl_loadHg rfl _ rfl w.heap.size rfl H H0.out HHl ?_) | (go_at_call 59; refine (FI.out _ B0.out).mono ?_; rintro q w1 ⟨⟨c, rfl, hp⟩, hb1⟩; have B1 : Hid (Below w.heap.size w w1) := below_step B0.out B0.out.size hb1; have Z1 : Hid (w1.heap[w.heap.size + 1]? = some (.cells (slotV zeroS) 38 (0, 0))) := (hb1.block _ (by simp)).trans Z0.out; clear hb1; refine of_stopS ?_))
  unfold StopS
  rcases place_look now hp with ⟨rfl, e2⟩ | ⟨i, b, x, rfl, hx, hxb, e2⟩
  · have E2 : Hid (lookT (bks L) (mtS hsC e H) now = (bks L, zeroS, false)) := e2
    clear e2 hp
    go_wp2_with (first | ((with_reducible refine wl_gZ rfl ?_); refine wl_buildS rfl rfl ?_) | ((with_reducible refine wl_gS _ _ rfl ?_); refine wl_storeS rfl _ _ rfl (w.heap.size + 1) zeroS zeroS rfl rfl Z1.out _ rfl ?_))
    refine ret2S (p := 8) (q := 9) rfl rfl (w.heap.size + 1) rfl zeroS (setRow_heap _ _ _ _ _ _ Z1.out) _ rfl ?_
    rw [E2.out]
    exact ⟨rfl, L, HT.out.same (below_setRow B1.out (by omega) _), rfl, HIB.out⟩
  · have E2 : Hid (lookT (bks L) (mtS hsC e H) now = (bks (L.set i (usedS now b x)), usedS now b x, true)) := e2
    have hin : i < n := by rw [HN.out]; exact (List.getElem?_eq_some_iff.1 hx).1
    have hi' : (i : Int) < (n : Int) := by omega
    have hi0 : ¬ (i : Int) < 0 := by omega
    obtain ⟨g', rfl⟩ := HT.out.own.own0 (by have := HN.out; omega)
    have HX : Hid (L[i]? = some x) := hx
    obtain ⟨_, hk0, hk1⟩ := HOK.out x (List.mem_of_getElem? hx)
    have LD : Hid (∀ W, Below w.heap.size w W → (loadVar 38 ⟨g', i * 36, none⟩).run Try.prog W = .ok (.agg (slotV x)) W) := by
      intro W hb
      obtain ⟨g2, off2, cur2, ty2, fr2, y, ho2, hg2, hcc2, hx2⟩ := (GSl.below HT.out.own.sl hb).at i hin
      simp only [Option.some.injEq, Addr.mk.injEq, and_true] at ho2
      obtain ⟨rfl, rfl⟩ := ho2
      obtain rfl : y = x := by rw [hx] at hx2; exact (Option.some.inj hx2).symm
      have h9 := ld_row hg2 hcc2
      rwa [Nat.zero_add] at h9
    have ld1 := LD.out w1 B1.out
    have c0 := (HT.out.below B1.out).f.c0
    have GS : Hid (g' < w.heap.size) := (HT.out.own.lt g' rfl).2
    obtain ⟨w2, hw2⟩ : ∃ w2, w2 = w1.alloc (.cells (slotV x) 38) := ⟨_, rfl⟩
    have X2 : Hid (w2.heap[w1.heap.size]? = some (.cells (slotV x) 38 (0, 0))) := by show _ = _; rw [hw2]; exact heap_new _ _ _ rfl
    have B2 : Hid (Below w1.heap.size w1 w2) := by show Below _ _ _; rw [hw2]; exact (Below.refl _ _).alloc (Nat.le_refl _) _
    have N1 : Hid (w.heap.size + 1 < w1.heap.size) := (Array.getElem?_eq_some_iff.1 Z1.out).1
    clear e2 hp hx
    go_wp2_with (first | ((with_reducible refine wl_gL _ rfl ?_); refine wl_loadS rfl _ rfl g' (i * 36) rfl x ld1 ?_) | ((with_reducible refine wl_gA rfl ?_); refine wl_allocS rfl rfl ?_; try rw [sz_alloc]) | ((with_reducible refine wl_gS _ _ rfl ?_); refine wl_storeS rfl _ _ rfl w1.heap.size x zeroS rfl rfl (heap_new _ _ _ rfl) _ (setRow_new _ _ _ _ _ rfl) ?_); refine of_stopS ?_)
    unfold StopS
    rw [← hw2]
    clear hw2 c0 ld1
    have s35 : w2.cell? ⟨w1.heap.size, 35, none⟩ = some (.int .i64 x.count) := by have := (slf_own X2.out).c35; simpa using this
    have f35 : w2.frozen? ⟨w1.heap.size, 35, none⟩ = false := by simp [World.frozen?, X2.out]
    have hlt9 : x.count < 1099511627776 := by omega
    obtain ⟨w3, hw3⟩ : ∃ w3, w3 = w2.setCell ⟨w1.heap.size, 35, none⟩ (.int .i64 (x.count + 1)) := ⟨_, rfl⟩
    have X3 : Hid (w3.heap[w1.heap.size]? = some (.cells (slotV { x with count := x.count + 1 }) 38 (0, 0))) := by show _ = _; rw [hw3, slotV_count]; exact heap_setCell_same _ _ _ _ _ _ X2.out
    have B3 : Hid (Below w1.heap.size w1 w3) := by show Below _ _ _; rw [hw3]; exact B2.out.setCell (Nat.le_refl _) _
    have s0 : w3.cell? ⟨w1.heap.size, 0, none⟩ = some (.int .i64 x.bank) := (slf_own X3.out).c0
    have s34 : w3.cell? ⟨w1.heap.size, 34, none⟩ = some (.int .i64 x.used) := by have := (slf_own X3.out).c34; simpa using this
    have f34 : w3.frozen? ⟨w1.heap.size, 34, none⟩ = false := by simp [World.frozen?, X3.out]
    have X4 : Hid ((w3.setCell ⟨w1.heap.size, 34, none⟩ (.int .i64 (timeT now))).heap[w1.heap.size]? = some (.cells (slotV { x with count := x.count + 1, used := timeT now }) 38 (0, 0))) := by show _ = _; rw [show slotV { x with count := x.count + 1, used := timeT now } = (slotV { x with count := x.count + 1 }).setIfInBounds 34 (.int .i64 (timeT now)) from slotV_used { x with count := x.count + 1 } (timeT now)]; exact heap_setCell_same _ _ _ _ _ _ X3.out
    have B4 : Hid (Below w1.heap.size w1 (w3.setCell ⟨w1.heap.size, 34, none⟩ (.int .i64 (timeT now)))) := B3.out.setCell (Nat.le_refl _) _
    have HM : Hid (x.count < MAXT) := hlt9
    rw [hw3] at s0 s34 f34 X3 X4 B3 B4
    clear hw3
    by_cases hb1 : x.bank = 1
    · have hbn : b = 1 := by omega
      have EU : Hid (usedS now b x = { x with count := x.count + 1, used := timeT now }) := by show _ = _; unfold usedS; rw [if_pos HM.out, if_pos hbn]
      rw [hb1] at s0
      clear hxb hbn hb1
      go_wp2_with (go_at_call 21; refine (TI.out _).mono ?_; rintro r w2 ⟨rfl, rfl⟩)
      obtain ⟨xs, hxs⟩ : ∃ xs : Slt, xs = { x with count := x.count + 1, used := timeT now } := ⟨_, rfl⟩
      rw [← hxs] at EU X4
      have XB : Hid (xs.bank = x.bank) := by show _ = _; rw [hxs]
      clear hxs
      obtain ⟨W, hW⟩ : ∃ W, (World.setCell w2 ⟨w1.heap.size, 35, none⟩ (.int .i64 (x.count + 1))).setCell ⟨w1.heap.size, 34, none⟩ (.int .i64 (timeT now)) = W := ⟨_, rfl⟩
      rw [hW] at X4 B4
      rw [hW]
      clear hW
      clear s0 s34 f34 s35 f35
      have BW : Hid (Below w.heap.size w W) := below_step B1.out B1.out.size B4.out
      have d9 : ∀ u : Later W, u.world.cell? ⟨r, 0, none⟩ = some (.slice (some ⟨g', 0, none⟩) n cap) := fun u => (HT.out.below (below_step BW.out BW.out.size u.below)).f.c0
      have ne1 := Later.ne W
      refine wp_region_latertail 7 (by kernel_rfl) (by kernel_rfl) ?_
      simp only [List.take_succ_cons, List.take_zero, List.drop_succ_cons, List.drop_zero]
      go_big_quiet_step (rfl)
      refine q_nilT rfl _ rfl _ rfl ?_
      simp only [Act.put, List.setIfInBounds_toArray, List.set_cons_succ, List.set_cons_zero]
      go_big_quiet_step (rfl)
      go_big_quiet_step (rfl)
      go_big_quiet_step (rfl)
      refine qlE (E := SlotE) SlotOk rfl _ rfl w1.heap.size 0 rfl _ _ _ (slotV xs) (slotV_size _) (later_block X4.out) (own_cells _ _) ?_
      simp only [Act.put, List.setIfInBounds_toArray, List.set_cons_succ, List.set_cons_zero]
      go_big_quiet_step (rfl)
      refine wpQuiet_nil ?_
      rintro w' ⟨u, rfl⟩
      have X5 : Hid (u.world.heap[w1.heap.size]? = some (.cells (slotV xs) 38 (0, 0))) := later_block X4.out _ ⟨u, rfl⟩
      have B5 : Hid (Below w1.heap.size w1 u.world) := below_step B4.out B4.out.size u.below
      have BU : Hid (Below w.heap.size w u.world) := below_step BW.out BW.out.size u.below
      obtain ⟨w5, hw5⟩ : ∃ w5, u.world = w5 := ⟨_, rfl⟩
      rw [hw5] at X5 B5 BU
      rw [hw5]
      clear hw5
      clear d9 ne1 X4 B4 BW
      have Z5 : Hid (w5.heap[w.heap.size + 1]? = some (.cells (slotV zeroS) 38 (0, 0))) := (B5.out.block _ N1.out).trans Z1.out
      obtain ⟨cur, hcur, hsz, hst⟩ := (HT.out.below BU.out).own.store i (by rw [← HN.out]; exact hin) xs
      have HC : Hid (w5.heap[g']? = some (.cells cur 38 (0, 0))) := hcur
      have HS : Hid (i * 36 + 36 ≤ cur.size) := hsz
      obtain ⟨w6, hw6⟩ : ∃ w6, w5.setRow g' (cur.toList.take (i * 36) ++ (slotV xs).toList ++ cur.toList.drop (i * 36 + 36)).toArray = w6 := ⟨_, rfl⟩
      have O6 : Hid (SlotsAt B w6 (.slice (some ⟨g', 0, none⟩) n cap) (L.set i xs)) := hst w6 (by rw [← hw6]; exact setRow_heap _ _ _ _ _ _ hcur)
      have X6 : Hid (w6.heap[w1.heap.size]? = some (.cells (slotV xs) 38 (0, 0))) := by show _ = _; rw [← hw6]; exact (setRow_other _ _ _ _ (by have h1 := GS.out; have h2 := N1.out; omega)).trans X5.out
      have Z6 : Hid (w6.heap[w.heap.size + 1]? = some (.cells (slotV zeroS) 38 (0, 0))) := by show _ = _; rw [← hw6]; exact (setRow_other _ _ _ _ (by have h1 := GS.out; omega)).trans Z5.out
      have K6 : Hid (Kept (rowX (.slice (some ⟨g', 0, none⟩) n cap)) w5 w6) := by show Kept _ _ _; rw [← hw6]; exact (kept_setRow _ _ _).mono fun k _ e => by unfold isB at e; unfold rowX; rw [e]; rfl
      have HW6 : Hid (_ = w6) := hw6
      clear hst hcur hsz hw6
      go_wp2_with (first | ((with_reducible refine wl_gS _ _ rfl ?_); refine wl_storeAtW rfl _ _ rfl g' (i * 36) xs rfl rfl cur _ HC.out HS.out w6 HW6.out ?_) | ((with_reducible refine wl_gL _ rfl ?_); refine wl_loadS rfl _ rfl w1.heap.size 0 rfl xs (ld_own X6.out) ?_) | ((with_reducible refine wl_gS _ _ rfl ?_); refine wl_storeS rfl _ _ rfl (w.heap.size + 1) xs zeroS rfl rfl Z6.out _ rfl ?_))
      refine ret2S (p := 8) (q := 9) rfl rfl (w.heap.size + 1) rfl xs (setRow_heap _ _ _ _ _ _ Z6.out) _ rfl ?_
      rw [E2.out, EU.out]
      refine ⟨rfl, L.set i xs, HT.out.row BU.out K6.out O6.out (kept_setRow _ _ _) (fun k e => by unfold isB at e; omega), rfl, ?_⟩
      intro y hy
      rcases List.mem_or_eq_of_mem_set hy with hy | rfl
      · exact HIB.out y hy
      · rw [XB.out]
        exact HIB.out x (List.mem_of_getElem? HX.out)
    · have hbn : b ≠ 1 := by omega
      have hbd : (x.bank == 1) = false := by simpa using hb1
      have EU : Hid (usedS now b x = { x with count := x.count + 1 }) := by show _ = _; unfold usedS; rw [if_pos HM.out, if_neg hbn]
      clear hxb hbn
      go_wp2_with fail
      obtain ⟨xs, hxs⟩ : ∃ xs : Slt, xs = { x with count := x.count + 1 } := ⟨_, rfl⟩
      rw [← hxs] at EU X3
      have XB : Hid (xs.bank = x.bank) := by show _ = _; rw [hxs]
      clear hxs
      obtain ⟨W, hW⟩ : ∃ W, World.setCell w2 ⟨w1.heap.size, 35, none⟩ (.int .i64 (x.count + 1)) = W := ⟨_, rfl⟩
      rw [hW] at X3 B3
      rw [hW]
      clear hW
      clear s0 s34 f34 s35 f35
      have BW : Hid (Below w.heap.size w W) := below_step B1.out B1.out.size B3.out
      have d9 : ∀ u : Later W, u.world.cell? ⟨r, 0, none⟩ = some (.slice (some ⟨g', 0, none⟩) n cap) := fun u => (HT.out.below (below_step BW.out BW.out.size u.below)).f.c0
      have ne1 := Later.ne W
      refine wp_region_latertail 7 (by kernel_rfl) (by kernel_rfl) ?_
      simp only [List.take_succ_cons, List.take_zero, List.drop_succ_cons, List.drop_zero]
      go_big_quiet_step (rfl)
      refine q_nilT rfl _ rfl _ rfl ?_
      simp only [Act.put, List.setIfInBounds_toArray, List.set_cons_succ, List.set_cons_zero]
      go_big_quiet_step (rfl)
      go_big_quiet_step (rfl)
      go_big_quiet_step (rfl)
      refine qlE (E := SlotE) SlotOk rfl _ rfl w1.heap.size 0 rfl _ _ _ (slotV xs) (slotV_size _) (later_block X3.out) (own_cells _ _) ?_
      simp only [Act.put, List.setIfInBounds_toArray, List.set_cons_succ, List.set_cons_zero]
      go_big_quiet_step (rfl)
      refine wpQuiet_nil ?_
      rintro w' ⟨u, rfl⟩
      have X5 : Hid (u.world.heap[w1.heap.size]? = some (.cells (slotV xs) 38 (0, 0))) := later_block X3.out _ ⟨u, rfl⟩
      have B5 : Hid (Below w1.heap.size w1 u.world) := below_step B3.out B3.out.size u.below
      have BU : Hid (Below w.heap.size w u.world) := below_step BW.out BW.out.size u.below
      obtain ⟨w5, hw5⟩ : ∃ w5, u.world = w5 := ⟨_, rfl⟩
      rw [hw5] at X5 B5 BU
      rw [hw5]
      clear hw5
      clear d9 ne1 X3 B3 BW
      have Z5 : Hid (w5.heap[w.heap.size + 1]? = some (.cells (slotV zeroS) 38 (0, 0))) := (B5.out.block _ N1.out).trans Z1.out
      obtain ⟨cur, hcur, hsz, hst⟩ := (HT.out.below BU.out).own.store i (by rw [← HN.out]; exact hin) xs
      have HC : Hid (w5.heap[g']? = some (.cells cur 38 (0, 0))) := hcur
      have HS : Hid (i * 36 + 36 ≤ cur.size) := hsz
      obtain ⟨w6, hw6⟩ : ∃ w6, w5.setRow g' (cur.toList.take (i * 36) ++ (slotV xs).toList ++ cur.toList.drop (i * 36 + 36)).toArray = w6 := ⟨_, rfl⟩
      have O6 : Hid (SlotsAt B w6 (.slice (some ⟨g', 0, none⟩) n cap) (L.set i xs)) := hst w6 (by rw [← hw6]; exact setRow_heap _ _ _ _ _ _ hcur)
      have X6 : Hid (w6.heap[w1.heap.size]? = some (.cells (slotV xs) 38 (0, 0))) := by show _ = _; rw [← hw6]; exact (setRow_other _ _ _ _ (by have h1 := GS.out; have h2 := N1.out; omega)).trans X5.out
      have Z6 : Hid (w6.heap[w.heap.size + 1]? = some (.cells (slotV zeroS) 38 (0, 0))) := by show _ = _; rw [← hw6]; exact (setRow_other _ _ _ _ (by have h1 := GS.out; omega)).trans Z5.out
      have K6 : Hid (Kept (rowX (.slice (some ⟨g', 0, none⟩) n cap)) w5 w6) := by show Kept _ _ _; rw [← hw6]; exact (kept_setRow _ _ _).mono fun k _ e => by unfold isB at e; unfold rowX; rw [e]; rfl
      have HW6 : Hid (_ = w6) := hw6
      clear hst hcur hsz hw6
      go_wp2_with (first | ((with_reducible refine wl_gS _ _ rfl ?_); refine wl_storeAtW rfl _ _ rfl g' (i * 36) xs rfl rfl cur _ HC.out HS.out w6 HW6.out ?_) | ((with_reducible refine wl_gL _ rfl ?_); refine wl_loadS rfl _ rfl w1.heap.size 0 rfl xs (ld_own X6.out) ?_) | ((with_reducible refine wl_gS _ _ rfl ?_); refine wl_storeS rfl _ _ rfl (w.heap.size + 1) xs zeroS rfl rfl Z6.out _ rfl ?_))
      refine ret2S (p := 8) (q := 9) rfl rfl (w.heap.size + 1) rfl xs (setRow_heap _ _ _ _ _ _ Z6.out) _ rfl ?_
      rw [E2.out, EU.out]
      refine ⟨rfl, L.set i xs, HT.out.row BU.out K6.out O6.out (kept_setRow _ _ _) (fun k e => by unfold isB at e; omega), rfl, ?_⟩
      intro y hy
      rcases List.mem_or_eq_of_mem_set hy with hy | rfl
      · exact HIB.out y hy
      · rw [XB.out]
        exact HIB.out x (List.mem_of_getElem? HX.out)
end Go.Proofs.Ytojhckjdkafpmaa
