import Derived.Test.YthddlchkbnmcaaaGreatDoorJ35
import Derived.Maps.AppendAt
import Derived.Test.YthddlchkbnmcaaaGreatDoorJ19
import Derived.Test.YthddlchkbnmcaaaGreatDoorJ28
namespace Go.Proofs.YthddlchkbnmcaaaGreatDoor
open Go Go.RowKit
set_option maxRecDepth 20000

/-- The worlds that hold two blocks. -/
structure Keep (g1 : Nat) (o1 : Obj) (g2 : Nat) (o2 : Obj) where
  world : World
  k1 : world.heap[g1]? = some o1
  k2 : world.heap[g2]? = some o2

theorem qN' {C : World → Prop} {ops : Array Oper} {Q : Act → Prop} {rest : List Oper} {o : Oper} {a : Act} (hw : Region.wanted o (yielded ops a.tmps) = true) (x : Operand) (ho : o.op = .load 3 x)
    (g k : Nat) (hx : a.eval x = .pointer (some ⟨g, k, none⟩)) (cs : Array Value) (t : TypeId) (fr : Nat × Nat) (n : Int) (hg : ∀ w', C w' → w'.heap[g]? = some (.cells cs t fr)) (hc : cs[k]? = some (.int .i64 n))
    (h : wpQuiet Tryz.prog ops C Q rest (a.put o.dst (.int .i64 n))) : wpQuiet Tryz.prog ops C Q (o :: rest) a := by
  refine BigFrame.wpQuiet_want hw fun K hK => ⟨.int .i64 n, fun w hC => ?_, hK _ h⟩
  unfold Oper.quietAt execOp
  simp only [ho, hx, Instr.loadAt, Instr.sureAddr, Sem.run_bind, Sem.run_pure, Result.andThen_ok, load_num w g k cs t fr n (hg w hC) hc]
  exact ⟨rfl, rfl⟩
theorem qH' {C : World → Prop} {ops : Array Oper} {Q : Act → Prop} {rest : List Oper} {o : Oper} {a : Act} (hw : Region.wanted o (yielded ops a.tmps) = true) (x : Operand) (ho : o.op = .load 31 x)
    (g : Nat) (hx : a.eval x = .pointer (some ⟨g, 0, none⟩)) (L : List Int) (hg : ∀ w', C w' → w'.heap[g]? = some (.cells (hv L) 31 (0, 0))) (hL : L.length = 13)
    (h : wpQuiet Tryz.prog ops C Q rest (a.put o.dst (.agg (hv L)))) : wpQuiet Tryz.prog ops C Q (o :: rest) a :=
  q_load_row hw 31 x ho g hx 31 (hv L) (0, 0) _ hg Tryz.underlying31 rfl (size26 L hL) h
theorem wpOp_buildC {ops : Array Oper} {Q : Exit → Act → World → Prop} {i : Nat} {o : Oper} {K : Act → World → Prop} {a : Act} {w : World} (hi : ops[i]? = some o) (hw : Region.wanted o (yielded ops a.tmps) = true) (x : Operand) (ho : o.op = .buildSlice 49 1 #[(0, x)]) (V M : List Int) (hV : V.length = 13) (hM : M.length = 13) (hx : a.eval x = .agg (cv V M)) (d : Option Tmp) (hd : o.dst = d)
    (hK : K (a.put d (.slice (some ⟨w.heap.size, 0, none⟩) 1 1)) (w.alloc (.cells (cv V M) 37))) : wpOp Tryz.prog ops Q i K a w := by
  subst hd
  refine wpOp_wanted hi hw ?_
  obtain ⟨ie, hie, hz, hs, _⟩ := infoC
  refine wp_buildSlice 49 37 1 _ ho (cv V M) ie (.agg zeroC) Tryz.underlying49 hie hz (by rw [hs]; decide) (by rw [hs]; decide) ?_ hK
  have hsz := cv_size V M hV hM
  simp only [List.map_toArray, List.map_cons, List.map_nil, hx, Instr.fill, hs, Nat.zero_mul, Value.cells, hsz]
  rw [if_neg (by simp)]
  congr 1
  exact fold_all _ _ (by rw [hsz]; simp)
theorem wpOp_append1 {ops : Array Oper} {Q : Exit → Act → World → Prop} {i : Nat} {o : Oper} {K : Act → World → Prop} {a : Act} {w : World} (hi : ops[i]? = some o) (hw : Region.wanted o (yielded ops a.tmps) = true) (s x : Operand) (ho : o.op = .call { callee := .builtin .append, args := #[s, x], argTypes := #[49, 49] })
    (base : Nat) (v : Value) (C : List (List Int × List Int)) (V M : List Int) (hV : V.length = 13) (hM : M.length = 13) (hs : a.eval s = v) (hown : w.ownsRow base 37 26 v C.length (ccells C)) (g cap : Nat) (hx : a.eval x = .slice (some ⟨g, 0, none⟩) 1 cap) (hg : w.heap[g]? = some (.cells (cv V M) 37 (0, 0)))
    (hn : C.length ≤ 1000000) (hbase : base ≤ w.heap.size) (d : Option Tmp) (hd : o.dst = d)
    (hK : ∀ v' w', w'.ownsRow base 37 26 v' (C ++ [(V, M)]).length (ccells (C ++ [(V, M)])) → w.grownBy w' v.ownBlock → K (a.put d v') w') : wpOp Tryz.prog ops Q i K a w := by
  subst hd
  refine wpOp_wanted hi hw ?_
  obtain ⟨i0, hi0, hz0, hz1, hz2⟩ := infoC
  have hsz := cv_size V M hV hM
  obtain ⟨v', w', hr, h2, h3, _, _⟩ := run_append_own_at (P := Tryz.prog) w base 49 o.type 37 i0 (.agg zeroC) 26 26 Tryz.underlying49 hi0 hz0 hz1 hz2 rfl (by decide) v _ _ hown ⟨g, 0, none⟩ 1 cap (cv V M).toList (by simp [hsz]) (fun j y hy => by
      have hadd : (⟨g, 0, none⟩ : Addr).add j = ⟨g, j, none⟩ := by unfold Addr.add; split <;> simp_all
      rw [hadd, cell_of_row w g j _ _ _ hg, ← hy]
      simp) (fun u hu => (Array.all_eq_true_iff_forall_mem.1 (cv_one V M)) u (by simpa using hu)) (by unfold maxLen; omega) (by omega) hbase
  unfold Oper.wp execOp
  simp only [ho, resolve, invoke, builtin, Sem.run_bind, Sem.run_pure, Result.andThen_ok, List.map_toArray, List.map_cons, List.map_nil, hs, hx, hr]
  refine hK v' w' ?_ h3
  rw [List.length_append, ccells_append, ccells_one]; exact h2

set_option maxHeartbeats 4000000 in
theorem rports_ok (f l h : Int) (hf : f = 2 ∨ f = 3) (w : World) :
    Calls Tryz.prog 36 #[.int .i64 f, .int .i64 l, .int .i64 h] w fun e w' => ∃ u, e = .returned (.tuple #[u, .int .i64 (ranE l h)]) ∧ w'.ownsRow w.heap.size 37 26 u (portC f (ran l h)).length (ccells (portC f (ran l h))) ∧ Below w.heap.size w w' := by
  have hs := size_23 f hf
  have R1 : Hid (∀ W, Calls Tryz.prog 33 #[.int .i64 l, .int .i64 h] W fun e w' => ∃ u, e = .returned (.tuple #[u, .int .i64 (ranE l h)]) ∧ w'.ownsRow W.heap.size 102 2 u (ran l h).length (pcells (ran l h)) ∧ Below W.heap.size W w') := rrange_any l h
  have HM : Hid (∀ (k : Nat) (p : Nat × Nat), (ran l h)[k]? = some p → p.2 ≤ 16 ∧ p.1 ≤ 65535) := fun k p => ran_mem
  have RWA : Hid (∀ a : Nat, a ≤ 65535 → ∀ W, Calls Tryz.prog 58 #[.agg zero26, .int .i64 f, .int .u32 (a : Int)] W fun e w' => e = .returned (.tuple #[.agg (hv (fh f (a : Int))), .int .i64 0]) ∧ Below W.heap.size W w') := fun a ha W => rwith_at f a W (by omega) (by omega) (by rw [hs]; exact Nat.lt_of_le_of_lt ha (by decide))
  have FRA : Hid (∀ a b : Nat, b ≤ 16 → ∀ W, Calls Tryz.prog 59 #[.agg (hv (fh f (a : Int))), .int .i64 f, .int .i64 (b : Int)] W fun e w' => e = .returned (.agg (cv (pxV f a b) (pxM f b))) ∧ Below W.heap.size W w') := fun a b hb W => front_at f a b W (by omega) (by omega) (by omega)
  have hfew := ran_few l h
  obtain ⟨P, hPp⟩ : ∃ P, P = ran l h := ⟨_, rfl⟩
  obtain ⟨E, hE⟩ : ∃ E, E = ranE l h := ⟨_, rfl⟩
  rw [← hPp] at R1 HM hfew ⊢
  rw [← hE] at R1 ⊢
  obtain ⟨n, hn⟩ : ∃ n, n = P.length := ⟨_, rfl⟩
  have HN : Hid (n = P.length) := hn
  clear hPp hs hE
  rcases hf with rfl | rfl
  · go_enter Tryz.func36, Tryz.ntmps36
    go_wp2_with fail
    refine (R1.out _).mono ?_
    rintro e w3 ⟨u, rfl, ho3, hb3⟩
    have S3 := sp_of ho3
    obtain ⟨o, cap, rfl, _, hcap⟩ := S3.slice
    rw [← hn] at S3 hfew ⊢
    have HS3 : Hid (Sp w3 (.slice o n cap) P) := S3
    have n0 := heap_new w3 (.cells #[] 37) _ rfl
    clear S3 ho3 hn
    go_wp2_with fail
    go_loopw [10, 11] (fun out i wr => ∃ k : Nat, k ≤ n ∧ i = .int .i64 (k : Int) ∧ ∃ D, D = portC 2 (P.take k) ∧ D.length ≤ k ∧ wr.ownsRow w3.heap.size 37 26 out D.length (ccells D) ∧ Below w3.heap.size w3 wr) (fun _ i _ => n - (intOf i).toNat)
    case atStart => exact ⟨0, Nat.zero_le _, rfl, [], rfl, Nat.le_refl _, ⟨rfl, Or.inr ⟨w3.heap.size, 0, #[], rfl, Nat.le_refl _, n0, Nat.le_refl _, by decide, rfl, rfl⟩⟩, (Below.refl _ _).alloc (Nat.le_refl _) _⟩
    case round =>
      clear n0
      obtain ⟨k, hk, rfl, D, hD, hDl, hown, hb⟩ := hrel
      have HD : Hid (D = portC 2 (P.take k)) := hD
      have OWN : Hid (wr.ownsRow w3.heap.size 37 26 u10 D.length (ccells D)) := hown
      have B1 := hb3.trans (hb.mono hb3.size)
      have hz := hb.size
      clear hD hown
      by_cases hlt : k < n
      · obtain ⟨g, off, cur, t, fr, p, rfl, hg, hc, hpk⟩ := HS3.out.at k hlt
        have hp2 := HM.out k p hpk
        have hg3 := (Array.getElem?_eq_some_iff.1 hg).1
        have k1 : wr.heap[g]? = some (.cells cur t fr) := (hb.block g hg3).trans hg
        have HT : Hid (portC 2 (P.take (k + 1)) = portC 2 (P.take k) ++ [(pxV 2 p.1 p.2, pxM 2 p.2)]) := portC_take hpk
        obtain ⟨a, b⟩ := p
        simp only at hp2 hc HT
        have hc0 : cur[off + k * 2]? = some (.int .i64 (a : Int)) := hc 0 (by decide)
        have hc1 : cur[off + k * 2 + 1]? = some (.int .i64 (b : Int)) := hc 1 (by decide)
        have HC1 : Hid (cur[off + k * 2 + 1]? = some (.int .i64 (b : Int))) := hc1
        have x0 : wr.cell? ⟨g, off + k * 2, none⟩ = some (.int .i64 (a : Int)) := by rw [cell_of_row _ _ _ _ _ _ k1]; exact hc0
        have RW : Hid (∀ W, Calls Tryz.prog 58 #[.agg zero26, .int .i64 2, .int .u32 (a : Int)] W fun e w' => e = .returned (.tuple #[.agg (hv (fh 2 (a : Int))), .int .i64 0]) ∧ Below W.heap.size W w') := RWA.out a hp2.2
        have FR : Hid (∀ W, Calls Tryz.prog 59 #[.agg (hv (fh 2 (a : Int))), .int .i64 2, .int .i64 (b : Int)] W fun e w' => e = .returned (.agg (cv (pxV 2 a b) (pxM 2 b))) ∧ Below W.heap.size W w') := FRA.out a b hp2.1
        have hLl := (fh_byt 2 (a : Int) (by omega) (by omega)).1
        have hVl := (pxV_byt 2 a b).1
        have hMl := (pxM_byt 2 b).1
        obtain ⟨L, hL⟩ : ∃ L, L = fh 2 (a : Int) := ⟨_, rfl⟩
        obtain ⟨V, hV⟩ : ∃ V, V = pxV 2 a b := ⟨_, rfl⟩
        obtain ⟨M, hM⟩ : ∃ M, M = pxM 2 b := ⟨_, rfl⟩
        rw [← hL] at RW FR hLl
        rw [← hV] at FR HT hVl
        rw [← hM] at FR HT hMl
        obtain ⟨ha1, ha2⟩ := hp2
        clear hg hc hpk hV hM hL hc0 hc1
        go_wp2_with fail
        refine (RW.out _).mono ?_
        rintro e w5 ⟨rfl, hb5⟩
        have hb6 := hb.trans (hb5.mono hb.size)
        have k5 : w5.heap[g]? = some (.cells cur t fr) := (hb5.block g (Array.getElem?_eq_some_iff.1 k1).1).trans k1
        have k6 := heap_past w5 (.cells (hv L) 31) _ _ k5
        have l6 := heap_new w5 (.cells (hv L) 31) _ rfl
        have hb7 := hb6.alloc hb6.size (.cells (hv L) 31)
        have OWN5 : Hid ((w5.alloc (.cells (hv L) 31)).ownsRow w3.heap.size 37 26 u10 D.length (ccells D)) := (own_below OWN.out hb5).alloc _
        have HNB : Hid (∀ q, u10.ownBlock = some q → w3.heap.size ≤ q ∧ q < wr.heap.size) := fun q hq => OWN.out.lt q hq
        have hz5 : wr.heap.size ≤ w5.heap.size := hb5.size
        go_wp2_with (first
          | (refine wl_store26 rfl _ _ rfl w5.heap.size L rfl rfl _ (heap_new _ _ _ rfl) rfl hLl _ (setRow_new _ _ _ _ _ rfl) ?_))
        have hzq : w5.heap.size < (w5.alloc (.cells (hv L) 31)).heap.size := by simp
        obtain ⟨wq, hwq⟩ : ∃ wq, wq = w5.alloc (.cells (hv L) 31) := ⟨_, rfl⟩
        rw [← hwq] at k6 l6 hb7 OWN5 hzq ⊢
        have hz7 := hb7.size
        clear hwq hb5 hb6 k5 k1 x0 RW OWN hb
        refine region_cut (fun a a' w' => ∃ v' y45 y46 y47 y48 y49 y50 y51 y52 y53 y54 y55, a' = ((((((((((((a.put (some 10) v').put (some 45) y45).put (some 46) y46).put (some 47) y47).put (some 48) y48).put (some 49) y49).put (some 50) y50).put (some 51) y51).put (some 52) y52).put (some 53) y53).put (some 54) y54).put (some 55) y55) ∧ w'.ownsRow w3.heap.size 37 26 v' (D ++ [(V, M)]).length (ccells (D ++ [(V, M)])) ∧ Below w3.heap.size w3 w') ?_ ?_
        · have ne1 : Nonempty (Keep w5.heap.size (.cells (hv L) 31) g (.cells cur t fr)) := ⟨⟨wq, l6, k6⟩⟩
          refine region_beginS (fun w' => ∃ z : Keep w5.heap.size (.cells (hv L) 31) g (.cells cur t fr), w' = z.world) 12 rfl (by kernel_rfl) ?_
          refine region_reads 0 8 4 rfl (by kernel_rfl) (by kernel_rfl) (by kernel_rfl) (by intro d v c a w h; exact absurd h.1 (by simp)) ⟨⟨wq.drew, l6, k6⟩, rfl⟩ ?_
          simp only [List.drop_zero, List.take_succ_cons, List.take_zero]
          go_big_quiet_step (fail)
          refine qH' rfl _ rfl w5.heap.size rfl L (by rintro w' ⟨z, rfl⟩; exact z.k1) hLl ?_
          simp only [Act.put, List.setIfInBounds_toArray, List.set_cons_succ, List.set_cons_zero]
          go_big_quiet_step (fail)
          go_big_quiet_step (fail)
          go_big_quiet_step (fail)
          go_big_quiet_step (fail)
          go_big_quiet_step (fail)
          refine qN' rfl _ rfl g (off + k * 2 + 1) rfl cur t fr (b : Int) (by rintro w' ⟨z, rfl⟩; exact z.k2) HC1.out ?_
          simp only [Act.put, List.setIfInBounds_toArray, List.set_cons_succ, List.set_cons_zero]
          refine wpQuiet_nil ?_
          refine wpAnyH_all (rs := [8]) (by kernel_rfl) (by decide) ?_
          intro i hi
          obtain rfl := List.mem_singleton.1 hi
          refine wpOp_call rfl rfl 59 #[.tmp 46, .tmp 47, .tmp 52] (by intro b w; have hf := Tryz.func59; simp [go_sem]) #[.agg (hv L), .int .i64 2, .int .i64 (b : Int)] rfl (fun v w' => v = .agg (cv V M) ∧ Below wq.drew.heap.size wq.drew w') ((FR.out _).mono fun e w' h => ⟨_, h.1, rfl, h.2⟩) (some 53) rfl ?_
          rintro v w6 ⟨rfl, hb6⟩
          have hW6 : Below wq.heap.size wq w6 := (Below.refl _ _).drew.trans hb6
          have l7 : w6.heap[w5.heap.size]? = some (.cells (hv L) 31 (0, 0)) := (hW6.block _ (by omega)).trans l6
          have k7 : w6.heap[g]? = some (.cells cur t fr) := (hW6.block _ (by omega)).trans k6
          have hb8 := hb7.trans (hW6.mono hb7.size)
          have hz6 := hW6.size
          refine ⟨⟨⟨w6, l7, k7⟩, rfl⟩, ?_⟩
          simp only [Act.put, List.setIfInBounds_toArray, List.set_cons_succ, List.set_cons_zero]
          refine wpAnyH_all (rs := [9]) (by kernel_rfl) (by decide) ?_
          intro i hi
          obtain rfl := List.mem_singleton.1 hi
          refine wpOp_buildC rfl rfl _ rfl V M hVl hMl rfl (some 54) rfl ?_
          have l8 := heap_past w6 (.cells (cv V M) 37) _ _ l7
          have k8 := heap_past w6 (.cells (cv V M) 37) _ _ k7
          have c8 := heap_new w6 (.cells (cv V M) 37) _ rfl
          have hb9 := hb8.alloc hb8.size (.cells (cv V M) 37)
          have OWN8 := (own_below OWN5.out hW6).alloc (.cells (cv V M) 37)
          refine ⟨⟨⟨_, l8, k8⟩, rfl⟩, ?_⟩
          simp only [Act.put, List.setIfInBounds_toArray, List.set_cons_succ, List.set_cons_zero]
          refine wpAnyH_all (rs := [10]) (by kernel_rfl) (by decide) ?_
          intro i hi
          obtain rfl := List.mem_singleton.1 hi
          refine wpOp_append1 rfl rfl _ _ rfl w3.heap.size _ D V M hVl hMl rfl OWN8 _ 1 rfl c8 (by omega) (by simp; omega) (some 55) rfl ?_
          intro v' w9 hown9 hgr
          have l9 : w9.heap[w5.heap.size]? = some (.cells (hv L) 31 (0, 0)) := by
            rw [hgr.block _ (by simp; omega) (fun hq => by have := HNB.out _ hq.symm; omega)]; exact l8
          have k9 : w9.heap[g]? = some (.cells cur t fr) := by
            rw [hgr.block _ (by simp; omega) (fun hq => by have := HNB.out _ hq.symm; omega)]; exact k8
          have hb10 : Below w3.heap.size w3 w9 := hb9.grown hgr (by simp; omega) (fun q hq => (HNB.out q hq).1)
          refine ⟨⟨⟨w9, l9, k9⟩, rfl⟩, ?_⟩
          simp only [Act.put, List.setIfInBounds_toArray, List.set_cons_succ, List.set_cons_zero]
          refine wpAnyH_all (rs := [11]) (by kernel_rfl) (by decide) ?_
          intro i hi
          obtain rfl := List.mem_singleton.1 hi
          refine wpOp_assign rfl rfl _ rfl v' rfl (some 10) rfl ?_
          refine ⟨⟨⟨w9, l9, k9⟩, rfl⟩, ?_⟩
          refine wpAnyH_done (by kernel_rfl) ?_ _
          exact ⟨rfl, v', _, _, _, _, _, _, _, _, _, _, _, rfl, hown9, hb10⟩
        · rintro a' w' ⟨v', y45, y46, y47, y48, y49, y50, y51, y52, y53, y54, y55, rfl, hown9, hb10⟩
          simp only [Act.put, List.setIfInBounds_toArray, List.set_cons_succ, List.set_cons_zero]
          have HD8 : Hid (D ++ [(V, M)] = portC 2 (P.take (k + 1))) := by
            show _ = _
            rw [HT.out, HD.out]
          have OWN8 : Hid (w'.ownsRow w3.heap.size 37 26 v' (D ++ [(V, M)]).length (ccells (D ++ [(V, M)]))) := hown9
          have HL8 : Hid ((D ++ [(V, M)]).length ≤ k + 1) := by
            show _ ≤ _
            rw [List.length_append]; simpa using hDl
          clear hown9 OWN5 hb7 k6 l6
          go_wp2_with fail
          go_roundw
          case rel => exact ⟨k + 1, by omega, by go_num, D ++ [(V, M)], HD8.out, HL8.out, OWN8.out, hb10⟩
          case measure => simp [intOf]; omega
      · obtain rfl : k = n := by omega
        have HE : Hid (D = portC 2 P) := by
          show _ = _
          rw [HD.out, HN.out, List.take_length]
        go_wp2_with fail
        go_ret2
        refine ⟨u10, rfl, ?_, B1⟩
        rw [← HE.out]
        exact own_base OWN.out hb3.size
  · go_enter Tryz.func36, Tryz.ntmps36
    go_wp2_with fail
    refine (R1.out _).mono ?_
    rintro e w3 ⟨u, rfl, ho3, hb3⟩
    have S3 := sp_of ho3
    obtain ⟨o, cap, rfl, _, hcap⟩ := S3.slice
    rw [← hn] at S3 hfew ⊢
    have HS3 : Hid (Sp w3 (.slice o n cap) P) := S3
    have n0 := heap_new w3 (.cells #[] 37) _ rfl
    clear S3 ho3 hn
    go_wp2_with fail
    go_loopw [10, 11] (fun out i wr => ∃ k : Nat, k ≤ n ∧ i = .int .i64 (k : Int) ∧ ∃ D, D = portC 3 (P.take k) ∧ D.length ≤ k ∧ wr.ownsRow w3.heap.size 37 26 out D.length (ccells D) ∧ Below w3.heap.size w3 wr) (fun _ i _ => n - (intOf i).toNat)
    case atStart => exact ⟨0, Nat.zero_le _, rfl, [], rfl, Nat.le_refl _, ⟨rfl, Or.inr ⟨w3.heap.size, 0, #[], rfl, Nat.le_refl _, n0, Nat.le_refl _, by decide, rfl, rfl⟩⟩, (Below.refl _ _).alloc (Nat.le_refl _) _⟩
    case round =>
      clear n0
      obtain ⟨k, hk, rfl, D, hD, hDl, hown, hb⟩ := hrel
      have HD : Hid (D = portC 3 (P.take k)) := hD
      have OWN : Hid (wr.ownsRow w3.heap.size 37 26 u10 D.length (ccells D)) := hown
      have B1 := hb3.trans (hb.mono hb3.size)
      have hz := hb.size
      clear hD hown
      by_cases hlt : k < n
      · obtain ⟨g, off, cur, t, fr, p, rfl, hg, hc, hpk⟩ := HS3.out.at k hlt
        have hp2 := HM.out k p hpk
        have hg3 := (Array.getElem?_eq_some_iff.1 hg).1
        have k1 : wr.heap[g]? = some (.cells cur t fr) := (hb.block g hg3).trans hg
        have HT : Hid (portC 3 (P.take (k + 1)) = portC 3 (P.take k) ++ [(pxV 3 p.1 p.2, pxM 3 p.2)]) := portC_take hpk
        obtain ⟨a, b⟩ := p
        simp only at hp2 hc HT
        have hc0 : cur[off + k * 2]? = some (.int .i64 (a : Int)) := hc 0 (by decide)
        have hc1 : cur[off + k * 2 + 1]? = some (.int .i64 (b : Int)) := hc 1 (by decide)
        have HC1 : Hid (cur[off + k * 2 + 1]? = some (.int .i64 (b : Int))) := hc1
        have x0 : wr.cell? ⟨g, off + k * 2, none⟩ = some (.int .i64 (a : Int)) := by rw [cell_of_row _ _ _ _ _ _ k1]; exact hc0
        have RW : Hid (∀ W, Calls Tryz.prog 58 #[.agg zero26, .int .i64 3, .int .u32 (a : Int)] W fun e w' => e = .returned (.tuple #[.agg (hv (fh 3 (a : Int))), .int .i64 0]) ∧ Below W.heap.size W w') := RWA.out a hp2.2
        have FR : Hid (∀ W, Calls Tryz.prog 59 #[.agg (hv (fh 3 (a : Int))), .int .i64 3, .int .i64 (b : Int)] W fun e w' => e = .returned (.agg (cv (pxV 3 a b) (pxM 3 b))) ∧ Below W.heap.size W w') := FRA.out a b hp2.1
        have hLl := (fh_byt 3 (a : Int) (by omega) (by omega)).1
        have hVl := (pxV_byt 3 a b).1
        have hMl := (pxM_byt 3 b).1
        obtain ⟨L, hL⟩ : ∃ L, L = fh 3 (a : Int) := ⟨_, rfl⟩
        obtain ⟨V, hV⟩ : ∃ V, V = pxV 3 a b := ⟨_, rfl⟩
        obtain ⟨M, hM⟩ : ∃ M, M = pxM 3 b := ⟨_, rfl⟩
        rw [← hL] at RW FR hLl
        rw [← hV] at FR HT hVl
        rw [← hM] at FR HT hMl
        obtain ⟨ha1, ha2⟩ := hp2
        clear hg hc hpk hV hM hL hc0 hc1
        go_wp2_with fail
        refine (RW.out _).mono ?_
        rintro e w5 ⟨rfl, hb5⟩
        have hb6 := hb.trans (hb5.mono hb.size)
        have k5 : w5.heap[g]? = some (.cells cur t fr) := (hb5.block g (Array.getElem?_eq_some_iff.1 k1).1).trans k1
        have k6 := heap_past w5 (.cells (hv L) 31) _ _ k5
        have l6 := heap_new w5 (.cells (hv L) 31) _ rfl
        have hb7 := hb6.alloc hb6.size (.cells (hv L) 31)
        have OWN5 : Hid ((w5.alloc (.cells (hv L) 31)).ownsRow w3.heap.size 37 26 u10 D.length (ccells D)) := (own_below OWN.out hb5).alloc _
        have HNB : Hid (∀ q, u10.ownBlock = some q → w3.heap.size ≤ q ∧ q < wr.heap.size) := fun q hq => OWN.out.lt q hq
        have hz5 : wr.heap.size ≤ w5.heap.size := hb5.size
        go_wp2_with (first
          | (refine wl_store26 rfl _ _ rfl w5.heap.size L rfl rfl _ (heap_new _ _ _ rfl) rfl hLl _ (setRow_new _ _ _ _ _ rfl) ?_))
        have hzq : w5.heap.size < (w5.alloc (.cells (hv L) 31)).heap.size := by simp
        obtain ⟨wq, hwq⟩ : ∃ wq, wq = w5.alloc (.cells (hv L) 31) := ⟨_, rfl⟩
        rw [← hwq] at k6 l6 hb7 OWN5 hzq ⊢
        have hz7 := hb7.size
        clear hwq hb5 hb6 k5 k1 x0 RW OWN hb
        refine region_cut (fun a a' w' => ∃ v' y45 y46 y47 y48 y49 y50 y51 y52 y53 y54 y55, a' = ((((((((((((a.put (some 10) v').put (some 45) y45).put (some 46) y46).put (some 47) y47).put (some 48) y48).put (some 49) y49).put (some 50) y50).put (some 51) y51).put (some 52) y52).put (some 53) y53).put (some 54) y54).put (some 55) y55) ∧ w'.ownsRow w3.heap.size 37 26 v' (D ++ [(V, M)]).length (ccells (D ++ [(V, M)])) ∧ Below w3.heap.size w3 w') ?_ ?_
        · have ne1 : Nonempty (Keep w5.heap.size (.cells (hv L) 31) g (.cells cur t fr)) := ⟨⟨wq, l6, k6⟩⟩
          refine region_beginS (fun w' => ∃ z : Keep w5.heap.size (.cells (hv L) 31) g (.cells cur t fr), w' = z.world) 12 rfl (by kernel_rfl) ?_
          refine region_reads 0 8 4 rfl (by kernel_rfl) (by kernel_rfl) (by kernel_rfl) (by intro d v c a w h; exact absurd h.1 (by simp)) ⟨⟨wq.drew, l6, k6⟩, rfl⟩ ?_
          simp only [List.drop_zero, List.take_succ_cons, List.take_zero]
          go_big_quiet_step (fail)
          refine qH' rfl _ rfl w5.heap.size rfl L (by rintro w' ⟨z, rfl⟩; exact z.k1) hLl ?_
          simp only [Act.put, List.setIfInBounds_toArray, List.set_cons_succ, List.set_cons_zero]
          go_big_quiet_step (fail)
          go_big_quiet_step (fail)
          go_big_quiet_step (fail)
          go_big_quiet_step (fail)
          go_big_quiet_step (fail)
          refine qN' rfl _ rfl g (off + k * 2 + 1) rfl cur t fr (b : Int) (by rintro w' ⟨z, rfl⟩; exact z.k2) HC1.out ?_
          simp only [Act.put, List.setIfInBounds_toArray, List.set_cons_succ, List.set_cons_zero]
          refine wpQuiet_nil ?_
          refine wpAnyH_all (rs := [8]) (by kernel_rfl) (by decide) ?_
          intro i hi
          obtain rfl := List.mem_singleton.1 hi
          refine wpOp_call rfl rfl 59 #[.tmp 46, .tmp 47, .tmp 52] (by intro b w; have hf := Tryz.func59; simp [go_sem]) #[.agg (hv L), .int .i64 3, .int .i64 (b : Int)] rfl (fun v w' => v = .agg (cv V M) ∧ Below wq.drew.heap.size wq.drew w') ((FR.out _).mono fun e w' h => ⟨_, h.1, rfl, h.2⟩) (some 53) rfl ?_
          rintro v w6 ⟨rfl, hb6⟩
          have hW6 : Below wq.heap.size wq w6 := (Below.refl _ _).drew.trans hb6
          have l7 : w6.heap[w5.heap.size]? = some (.cells (hv L) 31 (0, 0)) := (hW6.block _ (by omega)).trans l6
          have k7 : w6.heap[g]? = some (.cells cur t fr) := (hW6.block _ (by omega)).trans k6
          have hb8 := hb7.trans (hW6.mono hb7.size)
          have hz6 := hW6.size
          refine ⟨⟨⟨w6, l7, k7⟩, rfl⟩, ?_⟩
          simp only [Act.put, List.setIfInBounds_toArray, List.set_cons_succ, List.set_cons_zero]
          refine wpAnyH_all (rs := [9]) (by kernel_rfl) (by decide) ?_
          intro i hi
          obtain rfl := List.mem_singleton.1 hi
          refine wpOp_buildC rfl rfl _ rfl V M hVl hMl rfl (some 54) rfl ?_
          have l8 := heap_past w6 (.cells (cv V M) 37) _ _ l7
          have k8 := heap_past w6 (.cells (cv V M) 37) _ _ k7
          have c8 := heap_new w6 (.cells (cv V M) 37) _ rfl
          have hb9 := hb8.alloc hb8.size (.cells (cv V M) 37)
          have OWN8 := (own_below OWN5.out hW6).alloc (.cells (cv V M) 37)
          refine ⟨⟨⟨_, l8, k8⟩, rfl⟩, ?_⟩
          simp only [Act.put, List.setIfInBounds_toArray, List.set_cons_succ, List.set_cons_zero]
          refine wpAnyH_all (rs := [10]) (by kernel_rfl) (by decide) ?_
          intro i hi
          obtain rfl := List.mem_singleton.1 hi
          refine wpOp_append1 rfl rfl _ _ rfl w3.heap.size _ D V M hVl hMl rfl OWN8 _ 1 rfl c8 (by omega) (by simp; omega) (some 55) rfl ?_
          intro v' w9 hown9 hgr
          have l9 : w9.heap[w5.heap.size]? = some (.cells (hv L) 31 (0, 0)) := by
            rw [hgr.block _ (by simp; omega) (fun hq => by have := HNB.out _ hq.symm; omega)]; exact l8
          have k9 : w9.heap[g]? = some (.cells cur t fr) := by
            rw [hgr.block _ (by simp; omega) (fun hq => by have := HNB.out _ hq.symm; omega)]; exact k8
          have hb10 : Below w3.heap.size w3 w9 := hb9.grown hgr (by simp; omega) (fun q hq => (HNB.out q hq).1)
          refine ⟨⟨⟨w9, l9, k9⟩, rfl⟩, ?_⟩
          simp only [Act.put, List.setIfInBounds_toArray, List.set_cons_succ, List.set_cons_zero]
          refine wpAnyH_all (rs := [11]) (by kernel_rfl) (by decide) ?_
          intro i hi
          obtain rfl := List.mem_singleton.1 hi
          refine wpOp_assign rfl rfl _ rfl v' rfl (some 10) rfl ?_
          refine ⟨⟨⟨w9, l9, k9⟩, rfl⟩, ?_⟩
          refine wpAnyH_done (by kernel_rfl) ?_ _
          exact ⟨rfl, v', _, _, _, _, _, _, _, _, _, _, _, rfl, hown9, hb10⟩
        · rintro a' w' ⟨v', y45, y46, y47, y48, y49, y50, y51, y52, y53, y54, y55, rfl, hown9, hb10⟩
          simp only [Act.put, List.setIfInBounds_toArray, List.set_cons_succ, List.set_cons_zero]
          have HD8 : Hid (D ++ [(V, M)] = portC 3 (P.take (k + 1))) := by
            show _ = _
            rw [HT.out, HD.out]
          have OWN8 : Hid (w'.ownsRow w3.heap.size 37 26 v' (D ++ [(V, M)]).length (ccells (D ++ [(V, M)]))) := hown9
          have HL8 : Hid ((D ++ [(V, M)]).length ≤ k + 1) := by
            show _ ≤ _
            rw [List.length_append]; simpa using hDl
          clear hown9 OWN5 hb7 k6 l6
          go_wp2_with fail
          go_roundw
          case rel => exact ⟨k + 1, by omega, by go_num, D ++ [(V, M)], HD8.out, HL8.out, OWN8.out, hb10⟩
          case measure => simp [intOf]; omega
      · obtain rfl : k = n := by omega
        have HE : Hid (D = portC 3 P) := by
          show _ = _
          rw [HD.out, HN.out, List.take_length]
        go_wp2_with fail
        go_ret2
        refine ⟨u10, rfl, ?_, B1⟩
        rw [← HE.out]
        exact own_base OWN.out hb3.size

set_option maxHeartbeats 1000000 in
theorem rports_field (f l h : Int) (hf : ¬ (f = 2 ∨ f = 3)) (w : World) :
    Calls Tryz.prog 36 #[.int .i64 f, .int .i64 l, .int .i64 h] w fun e w' => e = .returned (.tuple #[.slice none 0 0, .int .i64 1]) ∧ w' = w := by
  have n2 : (f != 2) = true := by simp; omega
  have n3 : (f != 3) = true := by simp; omega
  clear hf
  go_enter Tryz.func36, Tryz.ntmps36
  go_wp2_with fail
  go_ret2
  exact ⟨rfl, rfl⟩

theorem rports_any (f l h : Int) (w : World) :
    Calls Tryz.prog 36 #[.int .i64 f, .int .i64 l, .int .i64 h] w fun e w' => ∃ u, e = .returned (.tuple #[u, .int .i64 (portE f l h)]) ∧ Sl w' u (portP f l h) ∧ Below w.heap.size w w' := by
  have none0 : ∀ w' : World, Sl w' (.slice none 0 0) [] := fun w' => sl_of (C := []) (World.ownsRow_nil w' w.heap.size _ _) (fun c hc => absurd hc (by simp))
  by_cases hf : f = 2 ∨ f = 3
  · refine (rports_ok f l h hf w).mono ?_
    rintro e w' ⟨u, rfl, ho, hb⟩
    have e1 : portE f l h = ranE l h := by unfold portE ranE; rw [decide_eq_true hf, if_pos rfl]
    have e2 : portP f l h = portC f (ran l h) := by
      unfold portP ran
      rw [decide_eq_true hf, Bool.true_and]
      cases isR l h <;> rfl
    rw [e1, e2]
    exact ⟨u, rfl, sl_of ho (byts_portC _ _), hb⟩
  · refine (rports_field f l h hf w).mono ?_
    rintro e w' ⟨rfl, rfl⟩
    unfold portP portE
    rw [decide_eq_false hf, if_neg (by simp), Bool.false_and]
    exact ⟨_, rfl, none0 _, Below.refl _ _⟩
end Go.Proofs.YthddlchkbnmcaaaGreatDoor
namespace Go.Proofs.YthddlchkbnmcaaaGreatDoor
open Go Go.RowKit
set_option maxRecDepth 20000

/-- A piece's cube has the headers whose port is one of its numbers. -/
theorem has_port (H : List Int) (hH : Byt H) (f : Int) (hf : f = 2 ∨ f = 3) (a b : Nat) (ha : a ≤ 65535) (hb : b ≤ 16) (hm : a % sz b = 0) : has (pxV f a b) (pxM f b) H = inP (a, b) (fld H f) := by
  have hs := size_23 f hf
  have h := has_field H hH f a b (by omega) (by omega) (by rw [hs]; exact Nat.lt_of_le_of_lt ha (by decide)) (by omega)
  rw [hs] at h
  rw [show has (pxV f a b) (pxM f b) H = _ from h]
  unfold inP
  rw [show 8 * 2 - b = 16 - b by omega]
  show decide (a / sz b = fld H f / sz b) = (decide (a ≤ fld H f) && decide (fld H f < a + sz b))
  have hp := sz_pos b
  generalize fld H f = g
  generalize sz b = s at hm hp
  rw [Bool.eq_iff_iff, decide_eq_true_eq, Bool.and_eq_true, decide_eq_true_eq, decide_eq_true_eq]
  have h1 := Nat.div_add_mod a s
  have h2 := Nat.div_add_mod g s
  have h3 := Nat.mod_lt g hp
  rw [hm, Nat.add_zero] at h1
  constructor
  · intro e
    rw [e] at h1
    omega
  · rintro ⟨h4, h5⟩
    have h6 : a / s ≤ g / s := Nat.div_le_div_right h4
    have h7 : g / s < a / s + 1 := by
      rw [Nat.div_lt_iff_lt_mul hp, Nat.add_mul, Nat.one_mul, Nat.mul_comm, h1]
      exact h5
    omega
theorem rng_mod {h n : Nat} {p : Nat × Nat} (hp : p ∈ rng h n) : p.1 % sz p.2 = 0 ∧ p.1 + sz p.2 ≤ h + 1 := by
  obtain ⟨_, h2, h3⟩ := rng_mem h n p hp
  rw [h3]
  exact (okP_iff _ _ _).1 (gr_is _ _ h2).2.1
theorem hasL_ports (H : List Int) (hH : Byt H) (f l h : Int) (hf : f = 2 ∨ f = 3) (c : isR l h = true) : hasL (portC f (ran l h)) H = decide (l ≤ (fld H f : Int) ∧ (fld H f : Int) ≤ h) := by
  have hc := (isR_iff l h).1 c
  have hran : ran l h = rng h.toNat l.toNat := by rw [ran, if_pos c]
  rw [Bool.eq_iff_iff, decide_eq_true_eq]
  have hcn := cnt_rng h.toNat (fld H f) l.toNat
  unfold hasL portC
  rw [List.any_eq_true, hran]
  constructor
  · rintro ⟨x, hx, h1⟩
    rw [List.mem_map] at hx
    obtain ⟨p, hp, rfl⟩ := hx
    have hm := rng_mod hp
    have hmm := rng_mem _ _ _ hp
    rw [has_port H hH f hf p.1 p.2 (by omega) (rng_bits hp) hm.1] at h1
    unfold inP at h1
    rw [Bool.and_eq_true, decide_eq_true_eq, decide_eq_true_eq] at h1
    simp only at h1
    omega
  · intro h1
    rw [if_pos (by omega)] at hcn
    obtain ⟨p, hp⟩ := List.exists_mem_of_length_pos (by rw [hcn]; decide : 0 < ((rng h.toNat l.toNat).filter fun p => inP p (fld H f)).length)
    rw [List.mem_filter] at hp
    have hmm := rng_mem _ _ _ hp.1
    refine ⟨_, List.mem_map.2 ⟨p, hp.1, rfl⟩, ?_⟩
    rw [has_port H hH f hf p.1 p.2 (by omega) (rng_bits hp.1) (rng_mod hp.1).1]
    exact hp.2

end Go.Proofs.YthddlchkbnmcaaaGreatDoor
