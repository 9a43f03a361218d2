import Derived.Test.YtpbinkmeldkehaaJ31
import Derived.Test.YtpbinkmeldkehaaJ26
import Derived.BigQuiet
import Derived.Test.YtpbinkmeldkehaaJ8
namespace Go.Proofs.Ytpbinkmeldkehaa
open Go Go.Lib Go.RowKit
set_option maxRecDepth 20000

structure Keep1 (g : Nat) (o : Obj) where
  world : World
  k1 : world.heap[g]? = some o
abbrev In1 (g : Nat) (o : Obj) (w : World) : Prop := ∃ z : Keep1 g o, w = z.world
theorem In1.of {g : Nat} {o : Obj} {w : World} (h : w.heap[g]? = some o) : In1 g o w := ⟨⟨w, h⟩, rfl⟩
theorem takeD14 {P : Program} {md : Region.Mode} {ops : Array Oper} {Q : Exit → Act → World → Prop} {S : World → Prop} {i : Nat} {oi : Oper} {v : Value} {fuel : Nat} {listed : Array Bool} {a : Act} {w : World} (d : Option Tmp) (hi : ops[i]? = some oi) (hd : oi.dst = d)
    (hs : Region.noSelect ops = true) (hf : Region.free md ops listed i = true) (hr : (Region.ready md ops listed).contains i = true)
    (hQ : ∀ c a w, Q (.panic c) (a.put oi.dst v) w → Q (.panic c) a w) (hy : YieldsIf P ops S oi v a) (hS : S w)
    (h : wpAnyH P md ops Q S fuel (listed.setIfInBounds i true) (a.put d v) w) : wpAnyH P md ops Q S (fuel + 1) listed a w := by
  subst hd
  exact wpAnyH_take hi hs hf hr hQ hy hS h
def CubG : Ag := ⟨42, 26⟩
theorem CubGOk : CubG.Ok := ⟨⟨_, Try.underlying42, rfl⟩, by kernel_rfl⟩
theorem run_lenS {o : Oper} {x : Operand} (ho : o.op = .call { callee := .builtin .len, args := #[x], argTypes := #[49] }) (a : Act) (W : World) (b : Option Addr) (n c : Nat) (hx : a.eval x = .slice b n c) : (execOp a.eval o).run Try.prog W = .ok (.value (.int .i64 (n : Int))) W := by
  have hu := Try.underlying49
  unfold execOp
  have hl : (Builtin.len_ #[49] o.type #[.slice b n c]).run Try.prog W = .ok (.int .i64 (n : Int)) W := by simp [go_sem, hu]
  simp only [ho, resolve, invoke, List.map_toArray, List.map_cons, List.map_nil, hx]
  show ((Builtin.len_ #[49] o.type #[.slice b n c] >>= fun v => pure (Next.value v)).run Try.prog W) = _
  simp only [Sem.run_bind, hl, Result.andThen_ok, Sem.run_pure]
set_option maxHeartbeats 16000000 in
set_option maxRecDepth 100000 in
theorem ritems_any (C : List LeafM) (hn1 : C.length ≤ 1000) (hr1 : ∀ x ∈ C, x.rules.length ≤ 500) (n0 : Int) (vc : Value) (w : World) (hc : LeavesIn w vc C) :
    Calls Try.prog 21 #[vc, .int .i64 n0] w fun e w' => (∃ v, e = .returned v ∧ SlotsOwn w.heap.size w' v (itemsT C n0)) ∧ Below w.heap.size w w' := by
  obtain ⟨oc, capc, rfl, hc1, hc2⟩ := NSl.slice hc
  obtain ⟨n, hn0⟩ : ∃ n, n = C.length := ⟨_, rfl⟩
  have HN : Hid (n = C.length) := hn0
  rw [← hn0] at hc hc1 hn1 ⊢
  have HC : Hid (LeavesIn w (.slice oc n capc) C) := hc
  have HR1 : Hid (∀ x ∈ C, x.rules.length ≤ 500) := hr1
  have HRN : Hid (∀ k, (rulesN (C.take k) n0).length ≤ 500000) := fun k => by
    have h1 := rulesN_len (C.take k) n0 500 (fun x hx => hr1 x (List.mem_of_mem_take hx))
    have h2 : (C.take k).length ≤ 1000 := by rw [List.length_take]; omega
    have h3 := Nat.mul_le_mul_right 500 h2
    omega
  unfold maxLen at hc2
  have B0 : Hid (Below w.heap.size w (w.alloc (.cells #[] SlotE.elem))) := (Below.refl _ _).alloc (Nat.le_refl _) _
  have O0 : Hid (SlotsOwn w.heap.size (w.alloc (.cells #[] SlotE.elem)) (.slice (some ⟨w.heap.size, 0, none⟩) 0 0) []) := ⟨by simp [gcells], .inr ⟨_, 0, #[], rfl, Nat.le_refl _, heap_new _ _ _ rfl, Nat.le_refl _, Nat.zero_le _, by simp, by simp [gcells]⟩⟩
  clear hc hr1 hn0
  go_enter Try.func21, Try.ntmps21
  go_wp2_with (refine wl_build0R (E := SlotE) SlotOk rfl rfl ?_)
  go_loopw [5, 6] (fun v i wr => ∃ k : Nat, k ≤ n ∧ i = .int .i64 (k : Int) ∧ Hid (SlotsOwn w.heap.size wr v (seqS (C.take k) [])) ∧ Hid (Below w.heap.size w wr)) (fun _ i _ => n - (intOf i).toNat)
  case atStart => exact ⟨0, Nat.zero_le _, rfl, O0, B0⟩
  case round =>
    clear O0 B0
    obtain ⟨k, hk, rfl, HO, HB⟩ := hrel
    by_cases hlt : k < n
    · have hlt' : (k : Int) < (n : Int) := by omega
      obtain ⟨g, off, cur, ty, fr, x, u, rfl, hg0, hc, hxk, hxu⟩ := NSl.at HC.out k hlt
      have hg := (HB.out.block g (Array.getElem?_eq_some_iff.1 hg0).1).trans hg0
      have K0 : Hid (w.heap[g]? = some (.cells cur ty fr)) := hg0
      obtain ⟨o2, cap2, rfl⟩ := hxu.slice
      have HT : Hid (seqS (C.take (k + 1)) [] = seqS (C.take k) [] ++ [partS (seqS (C.take k) []).length x]) := seqS_part hxk
      have K1 : Hid (wr.heap[g]? = some (.cells cur ty fr)) := hg
      obtain ⟨o5, cap5, rfl⟩ := HO.out.slice
      have hV := hxu.1.1.1
      have hM := hxu.1.2.1.1
      have hlen : (seqS (C.take k) []).length ≤ 1000000 := by rw [seqS_len, List.length_take]; simp; omega
      have BP := fun W => build_part x.cube.1 x.cube.2 hV hM ((seqS (C.take k) []).length : Int) x.one x.two W
      have H2 : Hid (∀ j, j < 26 → cur[off + k * 29 + j]? = (cv x.cube.1 x.cube.2)[j]?) := fun j hj => (hc j (by show j < 29; omega)).trans ((leaf_at hxu.1 _).1 j hj)
      have e26 : ∀ z : Keep1 g (.cells cur ty fr), z.world.cell? ⟨g, off + k * 29 + 26, none⟩ = some (.int .i64 x.one) := fun z => (cell_of_row _ _ _ _ _ _ z.k1).trans ((hc 26 (by decide)).trans (leaf_at hxu.1 _).2.1)
      have e27 : ∀ z : Keep1 g (.cells cur ty fr), z.world.cell? ⟨g, off + k * 29 + 27, none⟩ = some (.int .i64 x.two) := fun z => (cell_of_row _ _ _ _ _ _ z.k1).trans ((hc 27 (by decide)).trans (leaf_at hxu.1 _).2.2.1)
      have ne9 : Nonempty (Keep1 g (.cells cur ty fr)) := ⟨⟨wr, hg⟩⟩
      clear hg hg0 hc hxk hxu
      go_upto_region 5 with fail
      refine region_cut (fun a a' w' => ∃ v5 y17 y18 y19 y20 y21 y22 y23 y24 y25 y26 y27 y28 y29 y30 y31 y32 y33 y34 y35 y36 y37, a' = (((((((((((((((((((((a.put (some 17) y17).put (some 18) y18).put (some 19) y19).put (some 20) y20).put (some 21) y21).put (some 22) y22).put (some 23) y23).put (some 24) y24).put (some 25) y25).put (some 26) y26).put (some 27) y27).put (some 28) y28).put (some 29) y29).put (some 30) y30).put (some 31) y31).put (some 32) y32).put (some 33) y33).put (some 34) y34).put (some 35) y35).put (some 36) y36).put (some 37) y37).put (some 5) v5 ∧ SlotsOwn w.heap.size w' v5 (seqS (C.take (k + 1)) []) ∧ Below w.heap.size w w') ?_ ?_
      · have bd : Below wr.heap.size wr (World.drew wr) := (Below.refl _ _).drew
        have kd : (World.drew wr).heap[g]? = some (.cells cur ty fr) := K1.out
        refine region_beginS (In1 g (.cells cur ty fr)) 22 rfl (by kernel_rfl) ?_
        refine region_reads 0 2 20 rfl (by kernel_rfl) (by kernel_rfl) (by kernel_rfl) (by intro d v c a w h; exact absurd h.1 (by simp)) (In1.of kd) ?_
        simp only [List.drop_zero, List.take_succ_cons, List.take_zero]
        go_big_quiet_step (rfl)
        go_big_quiet_step (rfl)
        refine wpQuiet_nil ?_
        refine takeD14 (i := 2) (v := .int .i64 ((seqS (C.take k) []).length : Int)) (some 19) rfl rfl (by kernel_rfl) (by kernel_rfl) (by kernel_rfl) (fun _ _ _ h => absurd h.1 (by simp)) (.inl ⟨rfl, fun W _ => run_lenS rfl _ _ _ _ _ rfl⟩) (In1.of kd) ?_
        simp only [Act.put, List.setIfInBounds_toArray, List.set_cons_succ, List.set_cons_zero]
        refine region_reads 3 4 15 rfl (by kernel_rfl) (by kernel_rfl) (by kernel_rfl) (by intro d v c a w h; exact absurd h.1 (by simp)) (In1.of kd) ?_
        simp only [List.drop_succ_cons, List.drop_zero, List.take_succ_cons, List.take_zero]
        go_big_quiet_step (rfl)
        go_big_quiet_step (rfl)
        go_big_quiet_step (rfl)
        go_big_quiet_step (rfl)
        refine wpQuiet_nil ?_
        refine region_reads 7 11 4 rfl (by kernel_rfl) (by kernel_rfl) (by kernel_rfl) (by intro d v c a w h; exact absurd h.1 (by simp)) (In1.of kd) ?_
        simp only [List.drop_succ_cons, List.drop_zero, List.take_succ_cons, List.take_zero]
        refine qlA CubGOk rfl _ rfl g (off + k * 29) rfl _ _ _ (cv x.cube.1 x.cube.2) (cv_size _ _ hV hM) (by rintro w' ⟨z, rfl⟩; exact z.k1) H2.out ?_
        simp only [Act.put, List.setIfInBounds_toArray, List.set_cons_succ, List.set_cons_zero]
        go_big_quiet_step (rfl)
        go_big_quiet_step (rfl)
        go_big_quiet_step (rfl)
        go_big_quiet_step (rfl)
        go_big_quiet_step (rfl)
        go_big_quiet_step (rfl)
        go_big_quiet_step (rfl)
        go_big_quiet_step (rfl)
        go_big_quiet_step (rfl)
        go_big_quiet_step (rfl)
        refine wpQuiet_nil ?_
        refine wpAnyH_all (rs := [18]) (by kernel_rfl) (by decide) ?_
        intro i hi
        obtain rfl := List.mem_singleton.1 hi
        refine wpOp_val (w' := World.drew wr) rfl rfl (.agg (slotV (partS (seqS (C.take k) []).length x))) (run_build12 rfl _ _ #[(0, .int .i64 3), (2, .int .i64 ((seqS (C.take k) []).length : Int)), (4, .agg (cv x.cube.1 x.cube.2)), (6, .int .i64 x.one), (7, .int .i64 x.two)] (by simp only [List.map_toArray, List.map_cons, List.map_nil]; rfl) _ (BP _)) (some 35) rfl ?_
        refine ⟨In1.of kd, ?_⟩
        simp only [Act.put, List.setIfInBounds_toArray, List.set_cons_succ, List.set_cons_zero]
        refine wpAnyH_all (rs := [19]) (by kernel_rfl) (by decide) ?_
        intro i hi
        obtain rfl := List.mem_singleton.1 hi
        refine wpOp_of_list rfl ?_
        refine wl_buildE (E := SlotE) SlotOk rfl _ rfl (slotV (partS (seqS (C.take k) []).length x)) (slotV_size _) rfl ?_
        obtain ⟨w2, hw2⟩ : ∃ w2, w2 = (World.drew wr).alloc (.cells (slotV (partS (seqS (C.take k) []).length x)) SlotE.elem) := ⟨_, rfl⟩
        have b2 : Below wr.heap.size wr w2 := by rw [hw2]; exact bd.alloc bd.size _
        have O2 : SlotsOwn w.heap.size w2 (.slice o5 (seqS (C.take k) []).length cap5) (seqS (C.take k) []) := HO.out.below b2
        have G2 : w2.heap[(World.drew wr).heap.size]? = some (.cells (slotV (partS (seqS (C.take k) []).length x)) SlotE.elem (0, 0)) := by rw [hw2]; exact heap_new _ _ _ rfl
        have B2 : Below w.heap.size w w2 := HB.out.trans (b2.mono HB.out.size)
        have kd2 : w2.heap[g]? = some (.cells cur ty fr) := (b2.block _ (Array.getElem?_eq_some_iff.1 K1.out).1).trans K1.out
        rw [← hw2]
        clear hw2
        show _ ∧ _
        refine ⟨In1.of kd2, ?_⟩
        simp only [Act.put, List.setIfInBounds_toArray]
        refine wpAnyH_all (rs := [20]) (by kernel_rfl) (by decide) ?_
        intro i hi
        obtain rfl := List.mem_singleton.1 hi
        refine wpOp_of_list rfl ?_
        refine wl_appendE (E := SlotE) SlotOk slotV rfl _ _ rfl w.heap.size (.slice o5 (seqS (C.take k) []).length cap5) (seqS (C.take k) []) (partS (seqS (C.take k) []).length x) (slot_fits _) rfl O2 (World.drew wr).heap.size 1 rfl G2 hlen B2.size ?_
        intro v3 w3 ho3 hg3 hb3
        have B3 : Below w.heap.size w w3 := B2.grown hg3 B2.size fun j hj => (World.ownsRow.lt O2 j hj).1
        have kd3 : w3.heap[g]? = some (.cells cur ty fr) := (B3.block _ (Array.getElem?_eq_some_iff.1 K0.out).1).trans K0.out
        show _ ∧ _
        refine ⟨In1.of kd3, ?_⟩
        simp only [Act.put]
        refine wpAnyH_all (rs := [21]) (by kernel_rfl) (by decide) ?_
        intro i hi
        obtain rfl := List.mem_singleton.1 hi
        refine wpOp_assign rfl rfl _ rfl _ rfl (some 5) rfl ?_
        refine ⟨In1.of kd3, ?_⟩
        refine wpAnyH_done (by kernel_rfl) ?_ _
        refine ⟨rfl, v3, _, _, _, _, _, _, _, _, _, _, _, _, _, _, _, _, _, _, _, _, _, rfl, ?_, B3⟩
        rw [HT.out]
        exact ho3
      rintro a' w3 ⟨v5, y17, y18, y19, y20, y21, y22, y23, y24, y25, y26, y27, y28, y29, y30, y31, y32, y33, y34, y35, y36, y37, rfl, ho, hb⟩
      have O3 : Hid (SlotsOwn w.heap.size w3 v5 (seqS (C.take (k + 1)) [])) := ho
      have B3 : Hid (Below w.heap.size w w3) := hb
      clear ho hb HO HB HT K0 K1 H2 e26 e27 ne9 BP hlen
      simp only [Act.put, List.setIfInBounds_toArray, List.set_cons_succ, List.set_cons_zero]
      go_wp2_with fail
      go_roundw
      case rel => exact ⟨k + 1, by omega, by go_num, O3, B3⟩
      case measure => simp [intOf]; omega
    · have hlt' : ¬ (k : Int) < (n : Int) := by omega
      obtain rfl : n = k := by omega
      obtain ⟨wm, hwm⟩ : ∃ wm : World, wm = wr := ⟨_, rfl⟩
      rw [← hwm] at HO HB ⊢
      clear hwm
      have HO : Hid (SlotsOwn w.heap.size wm u5 (seqS C [])) := by
        have h := HO.out
        rw [HN.out, List.take_length] at h
        exact h
      go_wp2_with fail
      go_loopw [5, 7] (fun v i wr => ∃ k : Nat, k ≤ n ∧ i = .int .i64 (k : Int) ∧ Hid (SlotsOwn w.heap.size wr v (seqS C (rulesN (C.take k) n0))) ∧ Hid (Below w.heap.size w wr)) (fun _ i _ => n - (intOf i).toNat)
      case atStart => exact ⟨0, Nat.zero_le _, rfl, HO, HB⟩
      case round =>
        clear HO HB
        obtain ⟨k, hk, rfl, HO, HB⟩ := hrel
        by_cases hlt : k < n
        · have hlt' : (k : Int) < (n : Int) := by omega
          obtain ⟨g, off, cur, ty, fr, x, u, rfl, hg0, hc, hxk, hxu⟩ := NSl.at HC.out k hlt
          obtain ⟨o2, cap2, rfl⟩ := hxu.slice
          have HT : Hid (rulesN (C.take (k + 1)) n0 = rulesN (C.take k) n0 ++ if hasN x n0 then x.rules else []) := rulesN_take n0 hxk
          have R2 : Hid (RulesAt w (.slice o2 x.rules.length cap2) x.rules) := hxu.2
          have HOK : Hid (∀ r ∈ x.rules, okR8 r) := hxu.1.2.2
          have hrl : x.rules.length ≤ 500 := HR1.out x (List.mem_of_getElem? hxk)
          have hrn := HRN.out k
          have CE : Hid (∀ W, Below w.heap.size w W → W.cell? ⟨g, off + k * 29 + 26, none⟩ = some (.int .i64 x.one) ∧ W.cell? ⟨g, off + k * 29 + 27, none⟩ = some (.int .i64 x.two) ∧ W.cell? ⟨g, off + k * 29 + 28, none⟩ = some (.slice o2 x.rules.length cap2)) := fun W hb => by
            have hg := (hb.block g (Array.getElem?_eq_some_iff.1 hg0).1).trans hg0
            exact ⟨(cell_of_row _ _ _ _ _ _ hg).trans ((hc 26 (by decide)).trans (leaf_at hxu.1 _).2.1), (cell_of_row _ _ _ _ _ _ hg).trans ((hc 27 (by decide)).trans (leaf_at hxu.1 _).2.2.1), (cell_of_row _ _ _ _ _ _ hg).trans ((hc 28 (by decide)).trans (leaf_at hxu.1 _).2.2.2)⟩
          have HH : Hid (hasN x n0 = (x.one == n0 || x.two == n0)) := rfl
          obtain ⟨rl, hrlE⟩ : ∃ rl, rl = x.rules := ⟨_, rfl⟩
          rw [← hrlE] at HT HOK R2 hrl CE
          obtain ⟨m, hm⟩ : ∃ m, m = rl.length := ⟨_, rfl⟩
          have HM : Hid (m = rl.length) := hm
          rw [← hm] at R2 hrl CE
          obtain ⟨base, hbase⟩ : ∃ base, base = rulesN (C.take k) n0 := ⟨_, rfl⟩
          rw [← hbase] at HT HO hrn
          generalize x.one = p1 at CE HH
          generalize x.two = p2 at CE HH
          generalize hasN x n0 = hb at HT HH
          clear hrlE hm hbase hg0 hc hxk hxu
          obtain ⟨_, _, e2, hcm1, hcm2⟩ := GSl.slice R2.out
          simp only [Value.slice.injEq] at e2
          obtain ⟨rfl, -, rfl⟩ := e2
          unfold maxLen at hcm2
          rw [← HM.out] at hcm1
          go_wp2_with fail
          go_loopw [5, 8] (fun v i wr => ∃ j : Nat, j ≤ m ∧ (hb = false → j = 0) ∧ i = .int .i64 (j : Int) ∧ Hid (SlotsOwn w.heap.size wr v (seqS C (base ++ rl.take j))) ∧ Hid (Below w.heap.size w wr)) (fun _ i _ => m - (intOf i).toNat)
          case atStart => exact ⟨0, Nat.zero_le _, fun _ => rfl, rfl, by show SlotsOwn _ _ _ _; rw [List.take_zero, List.append_nil]; exact HO.out, HB⟩
          case round =>
            clear HO HB
            obtain ⟨j, hj, hj0, rfl, OX, BX⟩ := hrel
            obtain ⟨c26, c27, c28⟩ := CE.out wr BX.out
            by_cases hlt2 : j < m
            · have hlt2' : (j : Int) < (m : Int) := by omega
              cases hbb : hb with
              | false =>
                subst hbb
                obtain rfl : j = 0 := hj0 rfl
                have hq1 : (p1 == n0) = false := by
                  have h := HH.out
                  cases hq : (p1 == n0) with
                  | false => rfl
                  | true => rw [hq] at h; simp at h
                have hq2 : (p2 == n0) = false := by
                  have h := HH.out
                  rw [hq1, Bool.false_or] at h
                  exact h.symm
                have O3 : Hid (SlotsOwn w.heap.size wr u5 (seqS C (rulesN (C.take (k + 1)) n0))) := by
                  have h := OX.out
                  rw [List.take_zero] at h
                  show SlotsOwn _ _ _ _
                  rw [HT.out, if_neg (by simp)]
                  exact h
                clear OX HT HH
                go_wp2_with fail
                go_roundw
                case rel => exact ⟨k + 1, by omega, by go_num, O3, BX⟩
                case measure => simp [intOf]; omega
              | true =>
                subst hbb
                by_cases hp1 : p1 = n0
                · have hq1 : (p1 == n0) = true := by simpa using hp1
                  clear HH hp1
                  obtain ⟨g3, off3, cur3, ty3, fr3, r, rfl, hg3, hc3, hrj⟩ := GSl.at (GSl.below R2.out BX.out) j hlt2
                  have hok := HOK.out r (List.mem_of_getElem? hrj)
                  have hV := hok.1.1
                  have hM := hok.2.1
                  have hfit := rule_fits hok
                  have hsz := ruleV_size hok
                  have RT : Hid (rl.take (j + 1) = rl.take j ++ [r]) := by show _ = _; rw [List.take_add_one, hrj]; rfl
                  have K3 : Hid (wr.heap[g3]? = some (.cells cur3 ty3 fr3)) := hg3
                  have H3 : Hid (∀ i, i < 28 → cur3[off3 + j * 28 + i]? = (ruleV r)[i]?) := hc3
                  obtain ⟨w3, hw3⟩ : ∃ w3, w3 = wr.alloc (.cells (ruleV r) 44) := ⟨_, rfl⟩
                  obtain ⟨q3, hq3⟩ : ∃ q, q = wr.heap.size := ⟨_, rfl⟩
                  have g4 : Hid (w3.heap[q3]? = some (.cells (ruleV r) 44 (0, 0))) := by show _ = _; rw [hw3, hq3]; exact heap_new _ _ _ rfl
                  have b3 : Below wr.heap.size wr w3 := by rw [hw3]; exact (Below.refl _ _).alloc (Nat.le_refl _) _
                  have B3 : Hid (Below w.heap.size w w3) := BX.out.trans (b3.mono BX.out.size)
                  have O3 : Hid (SlotsOwn w.heap.size w3 u5 (seqS C (base ++ rl.take j))) := OX.out.below b3
                  obtain ⟨o5, cap5, rfl⟩ := OX.out.slice
                  have d0 := (cell_of_row _ _ 0 _ _ _ g4.out).trans (rule_at hok).1
                  have d27 := (cell_of_row _ _ 27 _ _ _ g4.out).trans (rule_at hok).2.2
                  have H4 : Hid (∀ i, i < 26 → (ruleV r)[1 + i]? = (cv r.cube.1 r.cube.2)[i]?) := fun i hi => (rule_at hok).2.1 i hi
                  obtain ⟨L, hL⟩ : ∃ L, L = seqS C (base ++ rl.take j) := ⟨_, rfl⟩
                  have HSN : Hid (seqS C (base ++ rl.take (j + 1)) = L ++ [ruleS L.length r]) := by show _ = _; rw [hL, RT.out, ← List.append_assoc, seqS_snoc]
                  have hlen : L.length ≤ 1000000 := by
                    rw [hL, seqS_len, List.length_append, List.length_take]
                    have := HN.out
                    omega
                  rw [← hL] at O3 ⊢
                  have BP := fun W => build_rule14 r.cube.1 r.cube.2 hV hM (L.length : Int) r.order r.action W
                  clear hg3 hc3 hrj b3 OX BX hL
                  go_wp2_with (first | ((with_reducible refine wl_gR12 _ rfl ?_); refine wl_loadE (E := RuleE) RuleOk rfl _ rfl g3 (off3 + j * 28) rfl cur3 ty3 fr3 (ruleV r) hsz K3.out H3.out ?_) | ((with_reducible refine wl_gSR12 _ _ rfl ?_); refine wl_storeE (E := RuleE) RuleOk rfl _ _ rfl wr.heap.size (ruleV r) hfit rfl rfl _ (heap_new _ _ _ rfl) rfl _ (setRow_new _ _ _ _ _ rfl) ?_; refine of_stopT ?_))
                  unfold StopT
                  rw [← hw3, ← hq3]
                  clear hw3 hq3 K3 H3 hfit hsz
                  obtain ⟨w4, hw4⟩ : ∃ w4, w4 = w3.alloc (.cells (slotV (ruleS L.length r)) SlotE.elem) := ⟨_, rfl⟩
                  obtain ⟨q4, hq4⟩ : ∃ q, q = w3.heap.size := ⟨_, rfl⟩
                  have b4 : Below w3.heap.size w3 w4 := by rw [hw4]; exact (Below.refl _ _).alloc (Nat.le_refl _) _
                  have B4 : Hid (Below w.heap.size w w4) := B3.out.trans (b4.mono B3.out.size)
                  have O4 : Hid (SlotsOwn w.heap.size w4 (.slice o5 L.length cap5) L) := O3.out.below b4
                  have G4 : Hid (w4.heap[q4]? = some (.cells (slotV (ruleS L.length r)) SlotE.elem (0, 0))) := by show _ = _; rw [hw4, hq4]; exact heap_new _ _ _ rfl
                  clear b4 B3 O3
                  go_wp2_with (first | ((with_reducible refine wl_gC12 _ rfl ?_); refine wl_loadCw rfl _ rfl q3 1 rfl _ _ _ r.cube.1 r.cube.2 hV hM g4.out H4.out ?_) | ((with_reducible refine wl_gB14 _ rfl ?_); refine wl_buildAny rfl _ _ rfl #[(0, .int .i64 2), (2, .int .i64 (L.length : Int)), (3, .int .i64 r.order), (4, .agg (cv r.cube.1 r.cube.2)), (5, .int .i64 r.action)] (by simp only [List.map_toArray, List.map_cons, List.map_nil]; rfl) (.agg (slotV (ruleS L.length r))) (BP _) ?_) | ((with_reducible refine wl_gBS14 _ rfl ?_); refine wl_buildE (E := SlotE) SlotOk rfl _ rfl (slotV (ruleS L.length r)) (slotV_size _) rfl ?_) | (at_builtin; refine of_stopT ?_))
                  unfold StopT
                  rw [← hw4, ← hq4]
                  clear hw4 hq4 d0 d27 H4 BP g4
                  refine wl_appendE (E := SlotE) SlotOk slotV rfl _ _ rfl w.heap.size (.slice o5 L.length cap5) L (ruleS L.length r) (slot_fits _) rfl O4.out q4 1 rfl G4.out hlen B4.out.size ?_
                  intro v6 w6 ho6 hg6 hb6
                  have O6 : Hid (SlotsOwn w.heap.size w6 v6 (seqS C (base ++ rl.take (j + 1)))) := by show SlotsOwn _ _ _ _; rw [HSN.out]; exact ho6
                  have B6 : Hid (Below w.heap.size w w6) := B4.out.grown hg6 B4.out.size fun i hi => (World.ownsRow.lt O4.out i hi).1
                  clear ho6 hg6 hb6 O4 B4 G4 HSN hlen
                  simp only [Act.put, List.setIfInBounds_toArray, List.set_cons_succ, List.set_cons_zero]
                  go_wp2_with fail
                  go_roundw
                  case rel => exact ⟨j + 1, by omega, (fun h => by cases h), by go_num, O6, B6⟩
                  case measure => simp [intOf]; omega
                · have hq1 : (p1 == n0) = false := by simpa using hp1
                  have hq2 : (p2 == n0) = true := by
                    have h := HH.out
                    rw [hq1, Bool.false_or] at h
                    exact h.symm
                  clear HH hp1
                  obtain ⟨g3, off3, cur3, ty3, fr3, r, rfl, hg3, hc3, hrj⟩ := GSl.at (GSl.below R2.out BX.out) j hlt2
                  have hok := HOK.out r (List.mem_of_getElem? hrj)
                  have hV := hok.1.1
                  have hM := hok.2.1
                  have hfit := rule_fits hok
                  have hsz := ruleV_size hok
                  have RT : Hid (rl.take (j + 1) = rl.take j ++ [r]) := by show _ = _; rw [List.take_add_one, hrj]; rfl
                  have K3 : Hid (wr.heap[g3]? = some (.cells cur3 ty3 fr3)) := hg3
                  have H3 : Hid (∀ i, i < 28 → cur3[off3 + j * 28 + i]? = (ruleV r)[i]?) := hc3
                  obtain ⟨w3, hw3⟩ : ∃ w3, w3 = wr.alloc (.cells (ruleV r) 44) := ⟨_, rfl⟩
                  obtain ⟨q3, hq3⟩ : ∃ q, q = wr.heap.size := ⟨_, rfl⟩
                  have g4 : Hid (w3.heap[q3]? = some (.cells (ruleV r) 44 (0, 0))) := by show _ = _; rw [hw3, hq3]; exact heap_new _ _ _ rfl
                  have b3 : Below wr.heap.size wr w3 := by rw [hw3]; exact (Below.refl _ _).alloc (Nat.le_refl _) _
                  have B3 : Hid (Below w.heap.size w w3) := BX.out.trans (b3.mono BX.out.size)
                  have O3 : Hid (SlotsOwn w.heap.size w3 u5 (seqS C (base ++ rl.take j))) := OX.out.below b3
                  obtain ⟨o5, cap5, rfl⟩ := OX.out.slice
                  have d0 := (cell_of_row _ _ 0 _ _ _ g4.out).trans (rule_at hok).1
                  have d27 := (cell_of_row _ _ 27 _ _ _ g4.out).trans (rule_at hok).2.2
                  have H4 : Hid (∀ i, i < 26 → (ruleV r)[1 + i]? = (cv r.cube.1 r.cube.2)[i]?) := fun i hi => (rule_at hok).2.1 i hi
                  obtain ⟨L, hL⟩ : ∃ L, L = seqS C (base ++ rl.take j) := ⟨_, rfl⟩
                  have HSN : Hid (seqS C (base ++ rl.take (j + 1)) = L ++ [ruleS L.length r]) := by show _ = _; rw [hL, RT.out, ← List.append_assoc, seqS_snoc]
                  have hlen : L.length ≤ 1000000 := by
                    rw [hL, seqS_len, List.length_append, List.length_take]
                    have := HN.out
                    omega
                  rw [← hL] at O3 ⊢
                  have BP := fun W => build_rule14 r.cube.1 r.cube.2 hV hM (L.length : Int) r.order r.action W
                  clear hg3 hc3 hrj b3 OX BX hL
                  go_wp2_with (first | ((with_reducible refine wl_gR12 _ rfl ?_); refine wl_loadE (E := RuleE) RuleOk rfl _ rfl g3 (off3 + j * 28) rfl cur3 ty3 fr3 (ruleV r) hsz K3.out H3.out ?_) | ((with_reducible refine wl_gSR12 _ _ rfl ?_); refine wl_storeE (E := RuleE) RuleOk rfl _ _ rfl wr.heap.size (ruleV r) hfit rfl rfl _ (heap_new _ _ _ rfl) rfl _ (setRow_new _ _ _ _ _ rfl) ?_; refine of_stopT ?_))
                  unfold StopT
                  rw [← hw3, ← hq3]
                  clear hw3 hq3 K3 H3 hfit hsz
                  obtain ⟨w4, hw4⟩ : ∃ w4, w4 = w3.alloc (.cells (slotV (ruleS L.length r)) SlotE.elem) := ⟨_, rfl⟩
                  obtain ⟨q4, hq4⟩ : ∃ q, q = w3.heap.size := ⟨_, rfl⟩
                  have b4 : Below w3.heap.size w3 w4 := by rw [hw4]; exact (Below.refl _ _).alloc (Nat.le_refl _) _
                  have B4 : Hid (Below w.heap.size w w4) := B3.out.trans (b4.mono B3.out.size)
                  have O4 : Hid (SlotsOwn w.heap.size w4 (.slice o5 L.length cap5) L) := O3.out.below b4
                  have G4 : Hid (w4.heap[q4]? = some (.cells (slotV (ruleS L.length r)) SlotE.elem (0, 0))) := by show _ = _; rw [hw4, hq4]; exact heap_new _ _ _ rfl
                  clear b4 B3 O3
                  go_wp2_with (first | ((with_reducible refine wl_gC12 _ rfl ?_); refine wl_loadCw rfl _ rfl q3 1 rfl _ _ _ r.cube.1 r.cube.2 hV hM g4.out H4.out ?_) | ((with_reducible refine wl_gB14 _ rfl ?_); refine wl_buildAny rfl _ _ rfl #[(0, .int .i64 2), (2, .int .i64 (L.length : Int)), (3, .int .i64 r.order), (4, .agg (cv r.cube.1 r.cube.2)), (5, .int .i64 r.action)] (by simp only [List.map_toArray, List.map_cons, List.map_nil]; rfl) (.agg (slotV (ruleS L.length r))) (BP _) ?_) | ((with_reducible refine wl_gBS14 _ rfl ?_); refine wl_buildE (E := SlotE) SlotOk rfl _ rfl (slotV (ruleS L.length r)) (slotV_size _) rfl ?_) | (at_builtin; refine of_stopT ?_))
                  unfold StopT
                  rw [← hw4, ← hq4]
                  clear hw4 hq4 d0 d27 H4 BP g4
                  refine wl_appendE (E := SlotE) SlotOk slotV rfl _ _ rfl w.heap.size (.slice o5 L.length cap5) L (ruleS L.length r) (slot_fits _) rfl O4.out q4 1 rfl G4.out hlen B4.out.size ?_
                  intro v6 w6 ho6 hg6 hb6
                  have O6 : Hid (SlotsOwn w.heap.size w6 v6 (seqS C (base ++ rl.take (j + 1)))) := by show SlotsOwn _ _ _ _; rw [HSN.out]; exact ho6
                  have B6 : Hid (Below w.heap.size w w6) := B4.out.grown hg6 B4.out.size fun i hi => (World.ownsRow.lt O4.out i hi).1
                  clear ho6 hg6 hb6 O4 B4 G4 HSN hlen
                  simp only [Act.put, List.setIfInBounds_toArray, List.set_cons_succ, List.set_cons_zero]
                  go_wp2_with fail
                  go_roundw
                  case rel => exact ⟨j + 1, by omega, (fun h => by cases h), by go_num, O6, B6⟩
                  case measure => simp [intOf]; omega
            · have hlt2' : ¬ (j : Int) < (m : Int) := by omega
              obtain rfl : m = j := by omega
              have O3 : Hid (SlotsOwn w.heap.size wr u5 (seqS C (rulesN (C.take (k + 1)) n0))) := by
                have h := OX.out
                rw [HM.out, List.take_length] at h
                show SlotsOwn _ _ _ _
                rw [HT.out]
                cases hbb : hb with
                | true => rw [if_pos rfl]; exact h
                | false =>
                  have h0 := hj0 hbb
                  have hnil : rl = [] := List.eq_nil_of_length_eq_zero (by rw [← HM.out]; exact h0)
                  rw [hnil] at h
                  rw [if_neg (by simp)]
                  exact h
              clear OX
              go_wp2_with fail
              go_roundw
              case rel => exact ⟨k + 1, by omega, by go_num, O3, BX⟩
              case measure => simp [intOf]; omega
        · have hlt' : ¬ (k : Int) < (n : Int) := by omega
          obtain rfl : n = k := by omega
          have O3 : Hid (SlotsOwn w.heap.size wr u5 (itemsT C n0)) := by
            have h := HO.out
            rw [HN.out, List.take_length] at h
            exact h
          clear HO
          go_wp2_with fail
          go_ret
          exact ⟨⟨_, rfl, O3.out⟩, HB.out⟩
end Go.Proofs.Ytpbinkmeldkehaa
namespace Go.Proofs.Ytpbinkmeldkehaa
open Go Go.Lib Go.RowKit
set_option maxRecDepth 20000

def loadT (C : List LeafM) (n : Int) : Nat := (rulesN C n).length
theorem loadT_take {C : List LeafM} {k : Nat} {x : LeafM} (n : Int) (h : C[k]? = some x) : loadT (C.take (k + 1)) n = loadT (C.take k) n + if hasN x n then x.rules.length else 0 := by
  unfold loadT
  rw [rulesN_take n h, List.length_append]
  split <;> rfl
theorem loadT_all (C : List LeafM) (n : Int) : loadT (C.take C.length) n = loadT C n := by rw [List.take_length]
set_option maxHeartbeats 8000000 in
set_option maxRecDepth 100000 in
theorem load_any (C : List LeafM) (hn1 : C.length ≤ 1000) (hr1 : ∀ x ∈ C, x.rules.length ≤ 500) (n0 : Int) (vc : Value) (w : World) (hc : LeavesIn w vc C) :
    Calls Try.prog 22 #[vc, .int .i64 n0] w fun e w' => e = .returned (.int .i64 (loadT C n0 : Nat)) ∧ Below w.heap.size w w' := by
  have HS : Hid (∀ (x : LeafM) (u : Value) W, okL x → Calls Try.prog 34 #[.agg (leafV x u), .int .i64 n0] W fun e w' => e = .returned (.bool (hasN x n0)) ∧ Below W.heap.size W w') := fun x u W h => has14_any x h u n0 W
  obtain ⟨oc, capc, rfl, hc1, hc2⟩ := NSl.slice hc
  obtain ⟨n, hn0⟩ : ∃ n, n = C.length := ⟨_, rfl⟩
  have HN : Hid (n = C.length) := hn0
  rw [← hn0] at hc hc1 hn1 ⊢
  have HC : Hid (LeavesIn w (.slice oc n capc) C) := hc
  have HR1 : Hid (∀ x ∈ C, x.rules.length ≤ 500) := hr1
  have HRN : Hid (∀ k, loadT (C.take k) n0 ≤ 500000) := fun k => by
    have h1 := rulesN_len (C.take k) n0 500 (fun x hx => hr1 x (List.mem_of_mem_take hx))
    have h2 : (C.take k).length ≤ 1000 := by rw [List.length_take]; omega
    have h3 := Nat.mul_le_mul_right 500 h2
    unfold loadT
    omega
  unfold maxLen at hc2
  obtain ⟨RES, hRES⟩ : ∃ R, R = loadT C n0 := ⟨_, rfl⟩
  have HRES : Hid (RES = loadT C n0) := hRES
  rw [← hRES]
  clear hc hr1 hn0 hRES
  go_enter Try.func22, Try.ntmps22
  go_wp2_with fail
  go_loopw [5, 10] (fun v i wr => ∃ k : Nat, k ≤ n ∧ i = .int .i64 (k : Int) ∧ v = .int .i64 (loadT (C.take k) n0 : Nat) ∧ Hid (Below w.heap.size w wr)) (fun _ i _ => n - (intOf i).toNat)
  case atStart => exact ⟨0, Nat.zero_le _, rfl, rfl, Below.refl _ _⟩
  case round =>
    obtain ⟨k, hk, rfl, rfl, HB⟩ := hrel
    by_cases hlt : k < n
    · have hlt' : (k : Int) < (n : Int) := by omega
      obtain ⟨g, off, cur, ty, fr, x, u, rfl, hg, hc, hxk, hxu⟩ := (NSl.below LvR.below HC.out HB.out).at k hlt
      obtain ⟨o2, cap2, rfl⟩ := hxu.slice
      have hfit := leaf_fits hxu.1 (u := .slice o2 x.rules.length cap2) ⟨_, _, _, rfl⟩
      have hsz := leafV_size hxu.1 (.slice o2 x.rules.length cap2)
      have HT : Hid (loadT (C.take (k + 1)) n0 = loadT (C.take k) n0 + if hasN x n0 then x.rules.length else 0) := loadT_take n0 hxk
      have hrl : x.rules.length ≤ 500 := HR1.out x (List.mem_of_getElem? hxk)
      have hrn := HRN.out k
      have K1 : Hid (wr.heap[g]? = some (.cells cur ty fr)) := hg
      have H1 : Hid (∀ j, j < 29 → cur[off + k * 29 + j]? = (leafV x (.slice o2 x.rules.length cap2))[j]?) := hc
      have HX : Hid (okL x) := hxu.1
      obtain ⟨w1, hw1⟩ : ∃ w1, w1 = wr.alloc (.cells (leafV x (.slice o2 x.rules.length cap2)) 48) := ⟨_, rfl⟩
      obtain ⟨q, hq⟩ : ∃ q, q = wr.heap.size := ⟨_, rfl⟩
      have g1 : Hid (w1.heap[q]? = some (.cells (leafV x (.slice o2 x.rules.length cap2)) 48 (0, 0))) := by show _ = _; rw [hw1, hq]; exact heap_new _ _ _ rfl
      have b1 : Below wr.heap.size wr w1 := by rw [hw1]; exact (Below.refl _ _).alloc (Nat.le_refl _) _
      have B1 : Hid (Below w.heap.size w w1) := HB.out.trans (b1.mono HB.out.size)
      clear hg hc hxk hxu b1 HB
      go_wp2_with (first | ((with_reducible refine wl_gL14 _ rfl ?_); refine wl_loadE (E := LeafE) LeafOk rfl _ rfl g (off + k * 29) rfl cur ty fr (leafV x (.slice o2 x.rules.length cap2)) hsz K1.out H1.out ?_) | ((with_reducible refine wl_gSL14 _ _ rfl ?_); refine wl_storeE (E := LeafE) LeafOk rfl _ _ rfl wr.heap.size (leafV x (.slice o2 x.rules.length cap2)) hfit rfl rfl _ (heap_new _ _ _ rfl) rfl _ (setRow_new _ _ _ _ _ rfl) ?_; refine of_stopT ?_))
      unfold StopT
      rw [← hw1, ← hq]
      clear hw1 hq K1 H1 hfit
      go_wp2_with ((with_reducible refine wl_gL14 _ rfl ?_); refine wl_loadE (E := LeafE) LeafOk rfl _ rfl q 0 rfl _ _ _ (leafV x (.slice o2 x.rules.length cap2)) hsz g1.out (own_cells _ _) ?_)
      refine (HS.out x _ _ HX.out).mono ?_
      rintro e w2 ⟨rfl, hb2⟩
      have B2 : Hid (Below w.heap.size w w2) := B1.out.trans (hb2.mono B1.out.size)
      have c28 := (cell_of_row _ _ 28 _ _ _ ((hb2.block _ (Array.getElem?_eq_some_iff.1 g1.out).1).trans g1.out)).trans (leaf_at HX.out (.slice o2 x.rules.length cap2)).2.2.2
      clear hb2 B1 g1 hsz HX
      generalize loadT (C.take k) n0 = a at HT hrn ⊢
      cases hh : hasN x n0 with
      | false =>
        have HT2 : Hid (loadT (C.take (k + 1)) n0 = a) := by show _ = _; rw [HT.out, hh, if_neg (by simp), Nat.add_zero]
        clear hh HT
        go_wp2_with fail
        go_roundw
        case rel => exact ⟨k + 1, by omega, by go_num, by rw [HT2.out], B2⟩
        case measure => simp [intOf]; omega
      | true =>
        have HT2 : Hid (loadT (C.take (k + 1)) n0 = a + x.rules.length) := by show _ = _; rw [HT.out, hh, if_pos rfl]
        clear hh HT
        generalize x.rules.length = r at c28 HT2 hrl
        go_wp2_with fail
        go_roundw
        case rel => exact ⟨k + 1, by omega, by go_num, by rw [HT2.out]; go_num, B2⟩
        case measure => simp [intOf]; omega
    · have hlt' : ¬ (k : Int) < (n : Int) := by omega
      obtain rfl : n = k := by omega
      have HE : Hid (loadT (C.take n) n0 = RES) := by show _ = _; rw [HRES.out, HN.out, loadT_all]
      rw [HE.out]
      go_wp2_with fail
      go_ret
      exact ⟨rfl, HB.out⟩
set_option maxHeartbeats 8000000 in
set_option maxRecDepth 100000 in
theorem rload_any (C : List LeafM) (hn1 : C.length ≤ 1000) (hr1 : ∀ x ∈ C, x.rules.length ≤ 500) (n0 : Int) (vc : Value) (w : World) (hc : LeavesIn w vc C) :
    Calls Try.prog 23 #[vc, .int .i64 n0] w fun e w' => e = .returned (.int .i64 (loadT C n0 : Nat)) ∧ Below w.heap.size w w' := by
  have IT : Hid (∀ W, Below w.heap.size w W → Calls Try.prog 21 #[vc, .int .i64 n0] W fun e w' => (∃ v, e = .returned v ∧ SlotsOwn W.heap.size w' v (itemsT C n0)) ∧ Below W.heap.size W w') := fun W hb => ritems_any C hn1 hr1 n0 vc W (NSl.below LvR.below hc hb)
  have hlen : (itemsT C n0).length = C.length + loadT C n0 := seqS_len _ _
  have hle : loadT C n0 ≤ 500000 := by
    have h1 := rulesN_len C n0 500 hr1
    have h3 := Nat.mul_le_mul_right 500 hn1
    unfold loadT
    omega
  obtain ⟨oc, capc, rfl, hc1, hc2⟩ := NSl.slice hc
  unfold maxLen at hc2
  obtain ⟨IL, hIL⟩ : ∃ IL, IL = itemsT C n0 := ⟨_, rfl⟩
  rw [← hIL] at IT hlen
  clear hc hIL hr1
  generalize loadT C n0 = r at hlen hle ⊢
  generalize C.length = n at *
  have HLEN : Hid (IL.length = n + r) := hlen
  clear hlen
  go_enter Try.func23, Try.ntmps23
  go_wp2_with fail
  refine (IT.out _ (Below.refl _ _)).mono ?_
  rintro e w2 ⟨⟨v, rfl, hv⟩, hb2⟩
  have B2 : Hid (Below w.heap.size w w2) := hb2
  obtain ⟨o, cap, rfl⟩ := hv.slice
  rw [HLEN.out]
  clear hv hb2
  go_wp2_with fail
  go_ret
  exact ⟨by simp; omega, B2.out⟩
end Go.Proofs.Ytpbinkmeldkehaa
namespace Go.Proofs.Ytpbinkmeldkehaa
open Go Go.Lib Go.RowKit
set_option maxRecDepth 20000

/-! Whether leaves fit. -/
def okH (s : Stp) (x : LeafM) : Bool := inT x.one 1 s.au && inT x.two 0 s.au && !(x.one == x.two)
def stepF (H : Int) (D : List LeafM) (x : LeafM) : Bool := !decide ((loadT D x.one : Int) > H) && (x.two == 0 || !decide ((loadT D x.two : Int) > H))
def lenF (s : Stp) (C : List LeafM) : Bool := inT (C.length : Int) 1 (s.pa.tdiv 2)
/-- As the chapter says it: loads of all leaves. -/
def fitsT (s : Stp) (C : List LeafM) : Bool := lenF s C && C.all fun x => okH s x && stepF (s.ro.tdiv 2) C x
/-- As the program goes: loads as they grow. -/
def okK (s : Stp) (C : List LeafM) (k : Nat) : Prop := ∀ i x, i < k → C[i]? = some x → (okH s x && stepF (s.ro.tdiv 2) (C.take (i + 1)) x) = true
theorem loadT_mono (C : List LeafM) (m : Int) : ∀ k, loadT (C.take k) m ≤ loadT C m := fun k => by
  have e : C = C.take k ++ C.drop k := (List.take_append_drop k C).symm
  have h : loadT C m = loadT (C.take k) m + loadT (C.drop k) m := by
    unfold loadT rulesN
    rw [← List.length_append, ← List.flatMap_append, ← e]
  omega
theorem fit_last {s : Stp} {C : List LeafM} (h : okK s C C.length) (m : Int) (hm : 1 ≤ m) : ∀ j, j ≤ C.length → (∃ i x, i < j ∧ C[i]? = some x ∧ hasN x m = true) → (loadT (C.take j) m : Int) ≤ s.ro.tdiv 2
  | 0, _, ⟨i, x, hi, _⟩ => by omega
  | j + 1, hj, ⟨i, x, hi, hx, hn⟩ => by
    have hjx : C[j]? = some C[j] := List.getElem?_eq_getElem (by omega)
    by_cases hh : hasN C[j] m = true
    · have h1 := h j C[j] (by omega) hjx
      unfold stepF at h1
      simp only [Bool.and_eq_true, Bool.or_eq_true, Bool.not_eq_true', decide_eq_false_iff_not, beq_iff_eq] at h1
      unfold hasN at hh
      simp only [Bool.or_eq_true, beq_iff_eq] at hh
      rcases hh with hh | hh
      · have := h1.2.1
        rw [hh] at this
        omega
      · rcases h1.2.2 with h2 | h2
        · omega
        · rw [hh] at h2
          omega
    · rw [loadT_take m hjx, if_neg hh, Nat.add_zero]
      refine fit_last h m hm j (by omega) ⟨i, x, ?_, hx, hn⟩
      have : i ≠ j := fun e => by
        subst e
        rw [hx] at hjx
        cases hjx
        exact hh hn
      omega
theorem okH_one {s : Stp} {x : LeafM} (h : okH s x = true) : 1 ≤ x.one ∧ x.one ≤ s.au ∧ 0 ≤ x.two ∧ x.two ≤ s.au ∧ x.one ≠ x.two := by
  unfold okH inT at h
  simp at h
  omega
theorem fits_all {s : Stp} {C : List LeafM} : okK s C C.length ↔ (C.all fun x => okH s x && stepF (s.ro.tdiv 2) C x) = true := by
  rw [List.all_eq_true]
  constructor
  · intro h x hx
    obtain ⟨i, hi⟩ := List.mem_iff_getElem?.1 hx
    have hil := (List.getElem?_eq_some_iff.1 hi).1
    have h1 := h i x hil hi
    rw [Bool.and_eq_true] at h1
    obtain ⟨o1, o2, o3, o4, o5⟩ := okH_one h1.1
    rw [Bool.and_eq_true]
    refine ⟨h1.1, ?_⟩
    have l1 := fit_last h x.one o1 C.length (Nat.le_refl _) ⟨i, x, hil, hi, by unfold hasN; simp⟩
    rw [loadT_all] at l1
    unfold stepF
    simp only [Bool.and_eq_true, Bool.or_eq_true, Bool.not_eq_true', decide_eq_false_iff_not, beq_iff_eq]
    refine ⟨by omega, ?_⟩
    by_cases h0 : x.two = 0
    · exact .inl h0
    · right
      have l2 := fit_last h x.two (by omega) C.length (Nat.le_refl _) ⟨i, x, hil, hi, by unfold hasN; simp⟩
      rw [loadT_all] at l2
      omega
  · intro h i x hi hx
    have h1 := h x (List.mem_of_getElem? hx)
    rw [Bool.and_eq_true] at h1 ⊢
    refine ⟨h1.1, ?_⟩
    have h2 := h1.2
    have m1 := loadT_mono C x.one (i + 1)
    have m2 := loadT_mono C x.two (i + 1)
    unfold stepF at h2 ⊢
    simp only [Bool.and_eq_true, Bool.or_eq_true, Bool.not_eq_true', decide_eq_false_iff_not, beq_iff_eq] at h2 ⊢
    refine ⟨by omega, ?_⟩
    rcases h2.2 with h3 | h3
    · exact .inl h3
    · right; omega
theorem fits_yes {s : Stp} {C : List LeafM} (h1 : lenF s C = true) (h2 : okK s C C.length) : fitsT s C = true := by
  unfold fitsT
  rw [h1, fits_all.1 h2]
  rfl
theorem fits_no {s : Stp} {C : List LeafM} {i : Nat} {x : LeafM} (hx : C[i]? = some x) (h : (okH s x && stepF (s.ro.tdiv 2) (C.take (i + 1)) x) = false) : fitsT s C = false := by
  unfold fitsT
  cases hc : (C.all fun x => okH s x && stepF (s.ro.tdiv 2) C x) with
  | false => exact Bool.and_false _
  | true =>
    have := fits_all.2 hc i x (List.getElem?_eq_some_iff.1 hx).1 hx
    rw [h] at this
    cases this
theorem fits_nolen {s : Stp} {C : List LeafM} (h : lenF s C = false) : fitsT s C = false := by unfold fitsT; rw [h]; rfl
/-- A map of loads, with any keys. -/
def MapG (w : World) (g N : Nat) (ld : Int → Int) : Prop :=
  ∃ D : DataW Unit, w.ownsMap Try.prog 3 (plainElem Try.prog 3) g N D ∧ ∀ z : Int, -9223372036854775808 ≤ z → z ≤ 9223372036854775807 → D.atKey (.int .i64 z) (.lit (.int .i64 0)) = .lit (.int .i64 (ld z))
theorem MapG.new (w : World) : MapG (w.alloc (.map #[] 0)) w.heap.size 0 (fun _ => 0) :=
  ⟨.map [], World.ownsMap_made w _ _ _, fun _ _ _ => rfl⟩
theorem MapG.below {w w' : World} {g N : Nat} {ld : Int → Int} (h : MapG w g N ld) (hb : Below w.heap.size w w') : MapG w' g N ld := by
  obtain ⟨D, ⟨es, clock, h0, h1⟩, h2⟩ := h
  exact ⟨D, ⟨es, clock, (hb.block _ (Array.getElem?_eq_some_iff.1 h0).1).trans h0, h1⟩, h2⟩
theorem MapG.lt {w : World} {g N : Nat} {ld : Int → Int} (h : MapG w g N ld) : g < w.heap.size := by
  obtain ⟨D, h1, _⟩ := h
  exact h1.lt
theorem keyG {z : Int} (h1 : -9223372036854775808 ≤ z) (h2 : z ≤ 9223372036854775807) : keyOf Try.prog 3 (.int .i64 z) = some (.int .i64 z) := Maps.keyOf_int_mk Try.underlying3 (wfI h1 h2)
theorem MapG.get {w : World} {g N : Nat} {ld : Int → Int} (h : MapG w g N ld) (z : Int) (h1 : -9223372036854775808 ≤ z) (h2 : z ≤ 9223372036854775807) :
    (Instr.lookup 68 (.map (some g)) (.int .i64 z) false).run Try.prog w = .ok (.int .i64 (ld z)) w := by
  obtain ⟨D, ho, hd⟩ := h
  obtain ⟨c, hrun, hat, _⟩ := ho.lookup_int keyedI mapT Try.underlying3 (zeroI w) (keyG h1 h2)
  rw [hd z h1 h2] at hat
  simp only [DataW.lit.injEq, Lit.int.injEq, true_and] at hat
  rw [hrun, hat]
theorem MapG.put {w : World} {g N : Nat} {ld : Int → Int} (h : MapG w g N ld) (hN : N ≤ 100000) (z : Int) (h1 : -9223372036854775808 ≤ z) (h2 : z ≤ 9223372036854775807) (v : Int) (hv1 : -9223372036854775808 ≤ v) (hv2 : v ≤ 9223372036854775807) :
    ∃ w', (Instr.mapUpdate 68 (.map (some g)) (.int .i64 z) (.int .i64 v)).run Try.prog w = .ok () w' ∧ MapG w' g (N + 1) (fun m => if m = z then v else ld m) ∧ w.grownBy w' (some g) := by
  obtain ⟨D, ho, hd⟩ := h
  have hM := ho.isMap
  obtain ⟨w', hrun, h3, h4⟩ := ho.update keyedI mapT (by unfold maxLen; omega) (keyG h1 h2) (plainElem_int (H := Unit) Try.underlying3 (wfI hv1 hv2))
  refine ⟨w', hrun, ⟨D.put (.int .i64 z) (.lit (.int .i64 v)), h3, fun m m1 m2 => ?_⟩, h4⟩
  by_cases e : m = z
  · subst e
    rw [Maps.atKey_put_same hM (by simp [WideAt.IsKeyLit])]
    simp
  · rw [Maps.atKey_put_other (fun h => e (by simpa using h))]
    simp only [if_neg e]
    exact hd m m1 m2
end Go.Proofs.Ytpbinkmeldkehaa
