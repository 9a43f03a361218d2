import Derived.Test.YtplnlmkmaapbaaaDoorJ10
import Derived.Maps.AppendAt
import Derived.Test.YtplnlmkmaapbaaaDoorJ6
namespace Go.Proofs.YtplnlmkmaapbaaaDoor
open Go Go.RowKit

/-- The worlds that hold two blocks. -/
structure Keep (g1 : Nat) (o1 : Obj) (g2 : Nat) (o2 : Obj) where
  world : World
  k1 : world.heap[g1]? = some o1
  k2 : world.heap[g2]? = some o2

theorem qN' {C : World → Prop} {ops : Array Oper} {Q : Act → Prop} {rest : List Oper} {o : Oper} {a : Act} (hw : Region.wanted o (yielded ops a.tmps) = true) (x : Operand) (ho : o.op = .load 3 x)
    (g k : Nat) (hx : a.eval x = .pointer (some ⟨g, k, none⟩)) (cs : Array Value) (t : TypeId) (fr : Nat × Nat) (n : Int) (hg : ∀ w', C w' → w'.heap[g]? = some (.cells cs t fr)) (hc : cs[k]? = some (.int .i64 n))
    (h : wpQuiet Tryd.prog ops C Q rest (a.put o.dst (.int .i64 n))) : wpQuiet Tryd.prog ops C Q (o :: rest) a := by
  refine BigFrame.wpQuiet_want hw fun K hK => ⟨.int .i64 n, fun w hC => ?_, hK _ h⟩
  unfold Oper.quietAt execOp
  simp only [ho, hx, Instr.loadAt, Instr.sureAddr, Sem.run_bind, Sem.run_pure, Result.andThen_ok, load_num w g k cs t fr n (hg w hC) hc]
  exact ⟨rfl, rfl⟩
theorem qH' {C : World → Prop} {ops : Array Oper} {Q : Act → Prop} {rest : List Oper} {o : Oper} {a : Act} (hw : Region.wanted o (yielded ops a.tmps) = true) (x : Operand) (ho : o.op = .load 23 x)
    (g : Nat) (hx : a.eval x = .pointer (some ⟨g, 0, none⟩)) (L : List Int) (hg : ∀ w', C w' → w'.heap[g]? = some (.cells (hv L) 23 (0, 0))) (hL : L.length = 13)
    (h : wpQuiet Tryd.prog ops C Q rest (a.put o.dst (.agg (hv L)))) : wpQuiet Tryd.prog ops C Q (o :: rest) a :=
  q_load_row hw 23 x ho g hx 23 (hv L) (0, 0) _ hg Tryd.underlying23 rfl (size26 L hL) h
theorem wpOp_buildC {ops : Array Oper} {Q : Exit → Act → World → Prop} {i : Nat} {o : Oper} {K : Act → World → Prop} {a : Act} {w : World} (hi : ops[i]? = some o) (hw : Region.wanted o (yielded ops a.tmps) = true) (x : Operand) (ho : o.op = .buildSlice 25 1 #[(0, x)]) (V M : List Int) (hV : V.length = 13) (hM : M.length = 13) (hx : a.eval x = .agg (cv V M)) (d : Option Tmp) (hd : o.dst = d)
    (hK : K (a.put d (.slice (some ⟨w.heap.size, 0, none⟩) 1 1)) (w.alloc (.cells (cv V M) 37))) : wpOp Tryd.prog ops Q i K a w := by
  subst hd
  refine wpOp_wanted hi hw ?_
  obtain ⟨ie, hie, hz, hs, _⟩ := infoC
  refine wp_buildSlice 25 37 1 _ ho (cv V M) ie (.agg zeroC) Tryd.underlying25 hie hz (by rw [hs]; decide) (by rw [hs]; decide) ?_ hK
  have hsz := cv_size V M hV hM
  simp only [List.map_toArray, List.map_cons, List.map_nil, hx, Instr.fill, hs, Nat.zero_mul, Value.cells, hsz]
  rw [if_neg (by simp)]
  congr 1
  exact fold_all _ _ (by rw [hsz]; simp)
theorem wpOp_append1 {ops : Array Oper} {Q : Exit → Act → World → Prop} {i : Nat} {o : Oper} {K : Act → World → Prop} {a : Act} {w : World} (hi : ops[i]? = some o) (hw : Region.wanted o (yielded ops a.tmps) = true) (s x : Operand) (ho : o.op = .call { callee := .builtin .append, args := #[s, x], argTypes := #[25, 25] })
    (base : Nat) (v : Value) (C : List (List Int × List Int)) (V M : List Int) (hV : V.length = 13) (hM : M.length = 13) (hs : a.eval s = v) (hown : w.ownsRow base 37 26 v C.length (ccells C)) (g cap : Nat) (hx : a.eval x = .slice (some ⟨g, 0, none⟩) 1 cap) (hg : w.heap[g]? = some (.cells (cv V M) 37 (0, 0)))
    (hn : C.length ≤ 1000000) (hbase : base ≤ w.heap.size) (d : Option Tmp) (hd : o.dst = d)
    (hK : ∀ v' w', w'.ownsRow base 37 26 v' (C ++ [(V, M)]).length (ccells (C ++ [(V, M)])) → w.grownBy w' v.ownBlock → K (a.put d v') w') : wpOp Tryd.prog ops Q i K a w := by
  subst hd
  refine wpOp_wanted hi hw ?_
  obtain ⟨i0, hi0, hz0, hz1, hz2⟩ := infoC
  have hsz := cv_size V M hV hM
  obtain ⟨v', w', hr, h2, h3, _, _⟩ := run_append_own_at (P := Tryd.prog) w base 25 o.type 37 i0 (.agg zeroC) 26 26 Tryd.underlying25 hi0 hz0 hz1 hz2 rfl (by decide) v _ _ hown ⟨g, 0, none⟩ 1 cap (cv V M).toList (by simp [hsz]) (fun j y hy => by
      have hadd : (⟨g, 0, none⟩ : Addr).add j = ⟨g, j, none⟩ := by unfold Addr.add; split <;> simp_all
      rw [hadd, cell_of_row w g j _ _ _ hg, ← hy]
      simp) (fun u hu => (Array.all_eq_true_iff_forall_mem.1 (cv_one V M)) u (by simpa using hu)) (by unfold maxLen; omega) (by omega) hbase
  unfold Oper.wp execOp
  simp only [ho, resolve, invoke, builtin, Sem.run_bind, Sem.run_pure, Result.andThen_ok, List.map_toArray, List.map_cons, List.map_nil, hs, hx, hr]
  refine hK v' w' ?_ h3
  rw [List.length_append, ccells_append, ccells_one]; exact h2

set_option maxHeartbeats 4000000 in
theorem rports_ok (f l h : Int) (hf : f = 2 ∨ f = 3) (w : World) :
    Calls Tryd.prog 8 #[.int .i64 f, .int .i64 l, .int .i64 h] w fun e w' => ∃ u, e = .returned (.tuple #[u, .int .i64 (ranE l h)]) ∧ w'.ownsRow w.heap.size 37 26 u (portC f (ran l h)).length (ccells (portC f (ran l h))) ∧ Below w.heap.size w w' := by
  have hs := size_23 f hf
  have R1 : Hid (∀ W, Calls Tryd.prog 21 #[.int .i64 l, .int .i64 h] W fun e w' => ∃ u, e = .returned (.tuple #[u, .int .i64 (ranE l h)]) ∧ w'.ownsRow W.heap.size 50 2 u (ran l h).length (pcells (ran l h)) ∧ Below W.heap.size W w') := rrange_any l h
  have HM : Hid (∀ (k : Nat) (p : Nat × Nat), (ran l h)[k]? = some p → p.2 ≤ 16 ∧ p.1 ≤ 65535) := fun k p => ran_mem
  have RWA : Hid (∀ a : Nat, a ≤ 65535 → ∀ W, Calls Tryd.prog 22 #[.agg zero26, .int .i64 f, .int .u32 (a : Int)] W fun e w' => e = .returned (.tuple #[.agg (hv (fh f (a : Int))), .int .i64 0]) ∧ Below W.heap.size W w') := fun a ha W => rwith_at f a W (by omega) (by omega) (by rw [hs]; exact Nat.lt_of_le_of_lt ha (by decide))
  have FRA : Hid (∀ a b : Nat, b ≤ 16 → ∀ W, Calls Tryd.prog 23 #[.agg (hv (fh f (a : Int))), .int .i64 f, .int .i64 (b : Int)] W fun e w' => e = .returned (.agg (cv (pxV f a b) (pxM f b))) ∧ Below W.heap.size W w') := fun a b hb W => front_at f a b W (by omega) (by omega) (by omega)
  have hfew := ran_few l h
  obtain ⟨P, hPp⟩ : ∃ P, P = ran l h := ⟨_, rfl⟩
  obtain ⟨E, hE⟩ : ∃ E, E = ranE l h := ⟨_, rfl⟩
  rw [← hPp] at R1 HM hfew ⊢
  rw [← hE] at R1 ⊢
  obtain ⟨n, hn⟩ : ∃ n, n = P.length := ⟨_, rfl⟩
  have HN : Hid (n = P.length) := hn
  clear hPp hs hE
  rcases hf with rfl | rfl
  · go_enter Tryd.func8, Tryd.ntmps8
    go_wp2_with fail
    refine (R1.out _).mono ?_
    rintro e w3 ⟨u, rfl, ho3, hb3⟩
    have S3 := sp_of ho3
    obtain ⟨o, cap, rfl, _, hcap⟩ := S3.slice
    rw [← hn] at S3 hfew ⊢
    have HS3 : Hid (Sp w3 (.slice o n cap) P) := S3
    have n0 := heap_new w3 (.cells #[] 37) _ rfl
    clear S3 ho3 hn
    go_wp2_with fail
    go_loopw [10, 11] (fun out i wr => ∃ k : Nat, k ≤ n ∧ i = .int .i64 (k : Int) ∧ ∃ D, D = portC 2 (P.take k) ∧ D.length ≤ k ∧ wr.ownsRow w3.heap.size 37 26 out D.length (ccells D) ∧ Below w3.heap.size w3 wr) (fun _ i _ => n - (intOf i).toNat)
    case atStart => exact ⟨0, Nat.zero_le _, rfl, [], rfl, Nat.le_refl _, ⟨rfl, Or.inr ⟨w3.heap.size, 0, #[], rfl, Nat.le_refl _, n0, Nat.le_refl _, by decide, rfl, rfl⟩⟩, (Below.refl _ _).alloc (Nat.le_refl _) _⟩
    case round =>
      clear n0
      obtain ⟨k, hk, rfl, D, hD, hDl, hown, hb⟩ := hrel
      have HD : Hid (D = portC 2 (P.take k)) := hD
      have OWN : Hid (wr.ownsRow w3.heap.size 37 26 u10 D.length (ccells D)) := hown
      have B1 := hb3.trans (hb.mono hb3.size)
      have hz := hb.size
      clear hD hown
      by_cases hlt : k < n
      · obtain ⟨g, off, cur, t, fr, p, rfl, hg, hc, hpk⟩ := HS3.out.at k hlt
        have hp2 := HM.out k p hpk
        have hg3 := (Array.getElem?_eq_some_iff.1 hg).1
        have k1 : wr.heap[g]? = some (.cells cur t fr) := (hb.block g hg3).trans hg
        have HT : Hid (portC 2 (P.take (k + 1)) = portC 2 (P.take k) ++ [(pxV 2 p.1 p.2, pxM 2 p.2)]) := portC_take hpk
        obtain ⟨a, b⟩ := p
        simp only at hp2 hc HT
        have hc0 : cur[off + k * 2]? = some (.int .i64 (a : Int)) := hc 0 (by decide)
        have hc1 : cur[off + k * 2 + 1]? = some (.int .i64 (b : Int)) := hc 1 (by decide)
        have HC1 : Hid (cur[off + k * 2 + 1]? = some (.int .i64 (b : Int))) := hc1
        have x0 : wr.cell? ⟨g, off + k * 2, none⟩ = some (.int .i64 (a : Int)) := by rw [cell_of_row _ _ _ _ _ _ k1]; exact hc0
        have RW : Hid (∀ W, Calls Tryd.prog 22 #[.agg zero26, .int .i64 2, .int .u32 (a : Int)] W fun e w' => e = .returned (.tuple #[.agg (hv (fh 2 (a : Int))), .int .i64 0]) ∧ Below W.heap.size W w') := RWA.out a hp2.2
        have FR : Hid (∀ W, Calls Tryd.prog 23 #[.agg (hv (fh 2 (a : Int))), .int .i64 2, .int .i64 (b : Int)] W fun e w' => e = .returned (.agg (cv (pxV 2 a b) (pxM 2 b))) ∧ Below W.heap.size W w') := FRA.out a b hp2.1
        have hLl := (fh_byt 2 (a : Int) (by omega) (by omega)).1
        have hVl := (pxV_byt 2 a b).1
        have hMl := (pxM_byt 2 b).1
        obtain ⟨L, hL⟩ : ∃ L, L = fh 2 (a : Int) := ⟨_, rfl⟩
        obtain ⟨V, hV⟩ : ∃ V, V = pxV 2 a b := ⟨_, rfl⟩
        obtain ⟨M, hM⟩ : ∃ M, M = pxM 2 b := ⟨_, rfl⟩
        rw [← hL] at RW FR hLl
        rw [← hV] at FR HT hVl
        rw [← hM] at FR HT hMl
        obtain ⟨ha1, ha2⟩ := hp2
        clear hg hc hpk hV hM hL hc0 hc1
        go_wp2_with fail
        refine (RW.out _).mono ?_
        rintro e w5 ⟨rfl, hb5⟩
        have hb6 := hb.trans (hb5.mono hb.size)
        have k5 : w5.heap[g]? = some (.cells cur t fr) := (hb5.block g (Array.getElem?_eq_some_iff.1 k1).1).trans k1
        have k6 := heap_past w5 (.cells (hv L) 23) _ _ k5
        have l6 := heap_new w5 (.cells (hv L) 23) _ rfl
        have hb7 := hb6.alloc hb6.size (.cells (hv L) 23)
        have OWN5 : Hid ((w5.alloc (.cells (hv L) 23)).ownsRow w3.heap.size 37 26 u10 D.length (ccells D)) := (own_below OWN.out hb5).alloc _
        have HNB : Hid (∀ q, u10.ownBlock = some q → w3.heap.size ≤ q ∧ q < wr.heap.size) := fun q hq => OWN.out.lt q hq
        have hz5 : wr.heap.size ≤ w5.heap.size := hb5.size
        go_wp2_with (first
          | (refine wl_store26 rfl _ _ rfl w5.heap.size L rfl rfl _ (heap_new _ _ _ rfl) rfl hLl _ (setRow_new _ _ _ _ _ rfl) ?_))
        have hzq : w5.heap.size < (w5.alloc (.cells (hv L) 23)).heap.size := by simp
        obtain ⟨wq, hwq⟩ : ∃ wq, wq = w5.alloc (.cells (hv L) 23) := ⟨_, rfl⟩
        rw [← hwq] at k6 l6 hb7 OWN5 hzq ⊢
        have hz7 := hb7.size
        clear hwq hb5 hb6 k5 k1 x0 RW OWN hb
        refine region_cut (fun a a' w' => ∃ v' y45 y46 y47 y48 y49 y50 y51 y52 y53 y54 y55, a' = ((((((((((((a.put (some 10) v').put (some 45) y45).put (some 46) y46).put (some 47) y47).put (some 48) y48).put (some 49) y49).put (some 50) y50).put (some 51) y51).put (some 52) y52).put (some 53) y53).put (some 54) y54).put (some 55) y55) ∧ w'.ownsRow w3.heap.size 37 26 v' (D ++ [(V, M)]).length (ccells (D ++ [(V, M)])) ∧ Below w3.heap.size w3 w') ?_ ?_
        · have ne1 : Nonempty (Keep w5.heap.size (.cells (hv L) 23) g (.cells cur t fr)) := ⟨⟨wq, l6, k6⟩⟩
          refine region_beginS (fun w' => ∃ z : Keep w5.heap.size (.cells (hv L) 23) g (.cells cur t fr), w' = z.world) 12 rfl (by kernel_rfl) ?_
          refine region_reads 0 8 4 rfl (by kernel_rfl) (by kernel_rfl) (by kernel_rfl) (by intro d v c a w h; exact absurd h.1 (by simp)) ⟨⟨wq.drew, l6, k6⟩, rfl⟩ ?_
          simp only [List.drop_zero, List.take_succ_cons, List.take_zero]
          go_big_quiet_step (fail)
          refine qH' rfl _ rfl w5.heap.size rfl L (by rintro w' ⟨z, rfl⟩; exact z.k1) hLl ?_
          simp only [Act.put, List.setIfInBounds_toArray, List.set_cons_succ, List.set_cons_zero]
          go_big_quiet_step (fail)
          go_big_quiet_step (fail)
          go_big_quiet_step (fail)
          go_big_quiet_step (fail)
          go_big_quiet_step (fail)
          refine qN' rfl _ rfl g (off + k * 2 + 1) rfl cur t fr (b : Int) (by rintro w' ⟨z, rfl⟩; exact z.k2) HC1.out ?_
          simp only [Act.put, List.setIfInBounds_toArray, List.set_cons_succ, List.set_cons_zero]
          refine wpQuiet_nil ?_
          refine wpAnyH_all (rs := [8]) (by kernel_rfl) (by decide) ?_
          intro i hi
          obtain rfl := List.mem_singleton.1 hi
          refine wpOp_call rfl rfl 23 #[.tmp 46, .tmp 47, .tmp 52] (by intro b w; have hf := Tryd.func23; simp [go_sem]) #[.agg (hv L), .int .i64 2, .int .i64 (b : Int)] rfl (fun v w' => v = .agg (cv V M) ∧ Below wq.drew.heap.size wq.drew w') ((FR.out _).mono fun e w' h => ⟨_, h.1, rfl, h.2⟩) (some 53) rfl ?_
          rintro v w6 ⟨rfl, hb6⟩
          have hW6 : Below wq.heap.size wq w6 := (Below.refl _ _).drew.trans hb6
          have l7 : w6.heap[w5.heap.size]? = some (.cells (hv L) 23 (0, 0)) := (hW6.block _ (by omega)).trans l6
          have k7 : w6.heap[g]? = some (.cells cur t fr) := (hW6.block _ (by omega)).trans k6
          have hb8 := hb7.trans (hW6.mono hb7.size)
          have hz6 := hW6.size
          refine ⟨⟨⟨w6, l7, k7⟩, rfl⟩, ?_⟩
          simp only [Act.put, List.setIfInBounds_toArray, List.set_cons_succ, List.set_cons_zero]
          refine wpAnyH_all (rs := [9]) (by kernel_rfl) (by decide) ?_
          intro i hi
          obtain rfl := List.mem_singleton.1 hi
          refine wpOp_buildC rfl rfl _ rfl V M hVl hMl rfl (some 54) rfl ?_
          have l8 := heap_past w6 (.cells (cv V M) 37) _ _ l7
          have k8 := heap_past w6 (.cells (cv V M) 37) _ _ k7
          have c8 := heap_new w6 (.cells (cv V M) 37) _ rfl
          have hb9 := hb8.alloc hb8.size (.cells (cv V M) 37)
          have OWN8 := (own_below OWN5.out hW6).alloc (.cells (cv V M) 37)
          refine ⟨⟨⟨_, l8, k8⟩, rfl⟩, ?_⟩
          simp only [Act.put, List.setIfInBounds_toArray, List.set_cons_succ, List.set_cons_zero]
          refine wpAnyH_all (rs := [10]) (by kernel_rfl) (by decide) ?_
          intro i hi
          obtain rfl := List.mem_singleton.1 hi
          refine wpOp_append1 rfl rfl _ _ rfl w3.heap.size _ D V M hVl hMl rfl OWN8 _ 1 rfl c8 (by omega) (by simp; omega) (some 55) rfl ?_
          intro v' w9 hown9 hgr
          have l9 : w9.heap[w5.heap.size]? = some (.cells (hv L) 23 (0, 0)) := by
            rw [hgr.block _ (by simp; omega) (fun hq => by have := HNB.out _ hq.symm; omega)]; exact l8
          have k9 : w9.heap[g]? = some (.cells cur t fr) := by
            rw [hgr.block _ (by simp; omega) (fun hq => by have := HNB.out _ hq.symm; omega)]; exact k8
          have hb10 : Below w3.heap.size w3 w9 := hb9.grown hgr (by simp; omega) (fun q hq => (HNB.out q hq).1)
          refine ⟨⟨⟨w9, l9, k9⟩, rfl⟩, ?_⟩
          simp only [Act.put, List.setIfInBounds_toArray, List.set_cons_succ, List.set_cons_zero]
          refine wpAnyH_all (rs := [11]) (by kernel_rfl) (by decide) ?_
          intro i hi
          obtain rfl := List.mem_singleton.1 hi
          refine wpOp_assign rfl rfl _ rfl v' rfl (some 10) rfl ?_
          refine ⟨⟨⟨w9, l9, k9⟩, rfl⟩, ?_⟩
          refine wpAnyH_done (by kernel_rfl) ?_ _
          exact ⟨rfl, v', _, _, _, _, _, _, _, _, _, _, _, rfl, hown9, hb10⟩
        · rintro a' w' ⟨v', y45, y46, y47, y48, y49, y50, y51, y52, y53, y54, y55, rfl, hown9, hb10⟩
          simp only [Act.put, List.setIfInBounds_toArray, List.set_cons_succ, List.set_cons_zero]
          have HD8 : Hid (D ++ [(V, M)] = portC 2 (P.take (k + 1))) := by
            show _ = _
            rw [HT.out, HD.out]
          have OWN8 : Hid (w'.ownsRow w3.heap.size 37 26 v' (D ++ [(V, M)]).length (ccells (D ++ [(V, M)]))) := hown9
          have HL8 : Hid ((D ++ [(V, M)]).length ≤ k + 1) := by
            show _ ≤ _
            rw [List.length_append]; simpa using hDl
          clear hown9 OWN5 hb7 k6 l6
          go_wp2_with fail
          go_roundw
          case rel => exact ⟨k + 1, by omega, by go_num, D ++ [(V, M)], HD8.out, HL8.out, OWN8.out, hb10⟩
          case measure => simp [intOf]; omega
      · obtain rfl : k = n := by omega
        have HE : Hid (D = portC 2 P) := by
          show _ = _
          rw [HD.out, HN.out, List.take_length]
        go_wp2_with fail
        go_ret2
        refine ⟨u10, rfl, ?_, B1⟩
        rw [← HE.out]
        exact own_base OWN.out hb3.size
  · go_enter Tryd.func8, Tryd.ntmps8
    go_wp2_with fail
    refine (R1.out _).mono ?_
    rintro e w3 ⟨u, rfl, ho3, hb3⟩
    have S3 := sp_of ho3
    obtain ⟨o, cap, rfl, _, hcap⟩ := S3.slice
    rw [← hn] at S3 hfew ⊢
    have HS3 : Hid (Sp w3 (.slice o n cap) P) := S3
    have n0 := heap_new w3 (.cells #[] 37) _ rfl
    clear S3 ho3 hn
    go_wp2_with fail
    go_loopw [10, 11] (fun out i wr => ∃ k : Nat, k ≤ n ∧ i = .int .i64 (k : Int) ∧ ∃ D, D = portC 3 (P.take k) ∧ D.length ≤ k ∧ wr.ownsRow w3.heap.size 37 26 out D.length (ccells D) ∧ Below w3.heap.size w3 wr) (fun _ i _ => n - (intOf i).toNat)
    case atStart => exact ⟨0, Nat.zero_le _, rfl, [], rfl, Nat.le_refl _, ⟨rfl, Or.inr ⟨w3.heap.size, 0, #[], rfl, Nat.le_refl _, n0, Nat.le_refl _, by decide, rfl, rfl⟩⟩, (Below.refl _ _).alloc (Nat.le_refl _) _⟩
    case round =>
      clear n0
      obtain ⟨k, hk, rfl, D, hD, hDl, hown, hb⟩ := hrel
      have HD : Hid (D = portC 3 (P.take k)) := hD
      have OWN : Hid (wr.ownsRow w3.heap.size 37 26 u10 D.length (ccells D)) := hown
      have B1 := hb3.trans (hb.mono hb3.size)
      have hz := hb.size
      clear hD hown
      by_cases hlt : k < n
      · obtain ⟨g, off, cur, t, fr, p, rfl, hg, hc, hpk⟩ := HS3.out.at k hlt
        have hp2 := HM.out k p hpk
        have hg3 := (Array.getElem?_eq_some_iff.1 hg).1
        have k1 : wr.heap[g]? = some (.cells cur t fr) := (hb.block g hg3).trans hg
        have HT : Hid (portC 3 (P.take (k + 1)) = portC 3 (P.take k) ++ [(pxV 3 p.1 p.2, pxM 3 p.2)]) := portC_take hpk
        obtain ⟨a, b⟩ := p
        simp only at hp2 hc HT
        have hc0 : cur[off + k * 2]? = some (.int .i64 (a : Int)) := hc 0 (by decide)
        have hc1 : cur[off + k * 2 + 1]? = some (.int .i64 (b : Int)) := hc 1 (by decide)
        have HC1 : Hid (cur[off + k * 2 + 1]? = some (.int .i64 (b : Int))) := hc1
        have x0 : wr.cell? ⟨g, off + k * 2, none⟩ = some (.int .i64 (a : Int)) := by rw [cell_of_row _ _ _ _ _ _ k1]; exact hc0
        have RW : Hid (∀ W, Calls Tryd.prog 22 #[.agg zero26, .int .i64 3, .int .u32 (a : Int)] W fun e w' => e = .returned (.tuple #[.agg (hv (fh 3 (a : Int))), .int .i64 0]) ∧ Below W.heap.size W w') := RWA.out a hp2.2
        have FR : Hid (∀ W, Calls Tryd.prog 23 #[.agg (hv (fh 3 (a : Int))), .int .i64 3, .int .i64 (b : Int)] W fun e w' => e = .returned (.agg (cv (pxV 3 a b) (pxM 3 b))) ∧ Below W.heap.size W w') := FRA.out a b hp2.1
        have hLl := (fh_byt 3 (a : Int) (by omega) (by omega)).1
        have hVl := (pxV_byt 3 a b).1
        have hMl := (pxM_byt 3 b).1
        obtain ⟨L, hL⟩ : ∃ L, L = fh 3 (a : Int) := ⟨_, rfl⟩
        obtain ⟨V, hV⟩ : ∃ V, V = pxV 3 a b := ⟨_, rfl⟩
        obtain ⟨M, hM⟩ : ∃ M, M = pxM 3 b := ⟨_, rfl⟩
        rw [← hL] at RW FR hLl
        rw [← hV] at FR HT hVl
        rw [← hM] at FR HT hMl
        obtain ⟨ha1, ha2⟩ := hp2
        clear hg hc hpk hV hM hL hc0 hc1
        go_wp2_with fail
        refine (RW.out _).mono ?_
        rintro e w5 ⟨rfl, hb5⟩
        have hb6 := hb.trans (hb5.mono hb.size)
        have k5 : w5.heap[g]? = some (.cells cur t fr) := (hb5.block g (Array.getElem?_eq_some_iff.1 k1).1).trans k1
        have k6 := heap_past w5 (.cells (hv L) 23) _ _ k5
        have l6 := heap_new w5 (.cells (hv L) 23) _ rfl
        have hb7 := hb6.alloc hb6.size (.cells (hv L) 23)
        have OWN5 : Hid ((w5.alloc (.cells (hv L) 23)).ownsRow w3.heap.size 37 26 u10 D.length (ccells D)) := (own_below OWN.out hb5).alloc _
        have HNB : Hid (∀ q, u10.ownBlock = some q → w3.heap.size ≤ q ∧ q < wr.heap.size) := fun q hq => OWN.out.lt q hq
        have hz5 : wr.heap.size ≤ w5.heap.size := hb5.size
        go_wp2_with (first
          | (refine wl_store26 rfl _ _ rfl w5.heap.size L rfl rfl _ (heap_new _ _ _ rfl) rfl hLl _ (setRow_new _ _ _ _ _ rfl) ?_))
        have hzq : w5.heap.size < (w5.alloc (.cells (hv L) 23)).heap.size := by simp
        obtain ⟨wq, hwq⟩ : ∃ wq, wq = w5.alloc (.cells (hv L) 23) := ⟨_, rfl⟩
        rw [← hwq] at k6 l6 hb7 OWN5 hzq ⊢
        have hz7 := hb7.size
        clear hwq hb5 hb6 k5 k1 x0 RW OWN hb
        refine region_cut (fun a a' w' => ∃ v' y45 y46 y47 y48 y49 y50 y51 y52 y53 y54 y55, a' = ((((((((((((a.put (some 10) v').put (some 45) y45).put (some 46) y46).put (some 47) y47).put (some 48) y48).put (some 49) y49).put (some 50) y50).put (some 51) y51).put (some 52) y52).put (some 53) y53).put (some 54) y54).put (some 55) y55) ∧ w'.ownsRow w3.heap.size 37 26 v' (D ++ [(V, M)]).length (ccells (D ++ [(V, M)])) ∧ Below w3.heap.size w3 w') ?_ ?_
        · have ne1 : Nonempty (Keep w5.heap.size (.cells (hv L) 23) g (.cells cur t fr)) := ⟨⟨wq, l6, k6⟩⟩
          refine region_beginS (fun w' => ∃ z : Keep w5.heap.size (.cells (hv L) 23) g (.cells cur t fr), w' = z.world) 12 rfl (by kernel_rfl) ?_
          refine region_reads 0 8 4 rfl (by kernel_rfl) (by kernel_rfl) (by kernel_rfl) (by intro d v c a w h; exact absurd h.1 (by simp)) ⟨⟨wq.drew, l6, k6⟩, rfl⟩ ?_
          simp only [List.drop_zero, List.take_succ_cons, List.take_zero]
          go_big_quiet_step (fail)
          refine qH' rfl _ rfl w5.heap.size rfl L (by rintro w' ⟨z, rfl⟩; exact z.k1) hLl ?_
          simp only [Act.put, List.setIfInBounds_toArray, List.set_cons_succ, List.set_cons_zero]
          go_big_quiet_step (fail)
          go_big_quiet_step (fail)
          go_big_quiet_step (fail)
          go_big_quiet_step (fail)
          go_big_quiet_step (fail)
          refine qN' rfl _ rfl g (off + k * 2 + 1) rfl cur t fr (b : Int) (by rintro w' ⟨z, rfl⟩; exact z.k2) HC1.out ?_
          simp only [Act.put, List.setIfInBounds_toArray, List.set_cons_succ, List.set_cons_zero]
          refine wpQuiet_nil ?_
          refine wpAnyH_all (rs := [8]) (by kernel_rfl) (by decide) ?_
          intro i hi
          obtain rfl := List.mem_singleton.1 hi
          refine wpOp_call rfl rfl 23 #[.tmp 46, .tmp 47, .tmp 52] (by intro b w; have hf := Tryd.func23; simp [go_sem]) #[.agg (hv L), .int .i64 3, .int .i64 (b : Int)] rfl (fun v w' => v = .agg (cv V M) ∧ Below wq.drew.heap.size wq.drew w') ((FR.out _).mono fun e w' h => ⟨_, h.1, rfl, h.2⟩) (some 53) rfl ?_
          rintro v w6 ⟨rfl, hb6⟩
          have hW6 : Below wq.heap.size wq w6 := (Below.refl _ _).drew.trans hb6
          have l7 : w6.heap[w5.heap.size]? = some (.cells (hv L) 23 (0, 0)) := (hW6.block _ (by omega)).trans l6
          have k7 : w6.heap[g]? = some (.cells cur t fr) := (hW6.block _ (by omega)).trans k6
          have hb8 := hb7.trans (hW6.mono hb7.size)
          have hz6 := hW6.size
          refine ⟨⟨⟨w6, l7, k7⟩, rfl⟩, ?_⟩
          simp only [Act.put, List.setIfInBounds_toArray, List.set_cons_succ, List.set_cons_zero]
          refine wpAnyH_all (rs := [9]) (by kernel_rfl) (by decide) ?_
          intro i hi
          obtain rfl := List.mem_singleton.1 hi
          refine wpOp_buildC rfl rfl _ rfl V M hVl hMl rfl (some 54) rfl ?_
          have l8 := heap_past w6 (.cells (cv V M) 37) _ _ l7
          have k8 := heap_past w6 (.cells (cv V M) 37) _ _ k7
          have c8 := heap_new w6 (.cells (cv V M) 37) _ rfl
          have hb9 := hb8.alloc hb8.size (.cells (cv V M) 37)
          have OWN8 := (own_below OWN5.out hW6).alloc (.cells (cv V M) 37)
          refine ⟨⟨⟨_, l8, k8⟩, rfl⟩, ?_⟩
          simp only [Act.put, List.setIfInBounds_toArray, List.set_cons_succ, List.set_cons_zero]
          refine wpAnyH_all (rs := [10]) (by kernel_rfl) (by decide) ?_
          intro i hi
          obtain rfl := List.mem_singleton.1 hi
          refine wpOp_append1 rfl rfl _ _ rfl w3.heap.size _ D V M hVl hMl rfl OWN8 _ 1 rfl c8 (by omega) (by simp; omega) (some 55) rfl ?_
          intro v' w9 hown9 hgr
          have l9 : w9.heap[w5.heap.size]? = some (.cells (hv L) 23 (0, 0)) := by
            rw [hgr.block _ (by simp; omega) (fun hq => by have := HNB.out _ hq.symm; omega)]; exact l8
          have k9 : w9.heap[g]? = some (.cells cur t fr) := by
            rw [hgr.block _ (by simp; omega) (fun hq => by have := HNB.out _ hq.symm; omega)]; exact k8
          have hb10 : Below w3.heap.size w3 w9 := hb9.grown hgr (by simp; omega) (fun q hq => (HNB.out q hq).1)
          refine ⟨⟨⟨w9, l9, k9⟩, rfl⟩, ?_⟩
          simp only [Act.put, List.setIfInBounds_toArray, List.set_cons_succ, List.set_cons_zero]
          refine wpAnyH_all (rs := [11]) (by kernel_rfl) (by decide) ?_
          intro i hi
          obtain rfl := List.mem_singleton.1 hi
          refine wpOp_assign rfl rfl _ rfl v' rfl (some 10) rfl ?_
          refine ⟨⟨⟨w9, l9, k9⟩, rfl⟩, ?_⟩
          refine wpAnyH_done (by kernel_rfl) ?_ _
          exact ⟨rfl, v', _, _, _, _, _, _, _, _, _, _, _, rfl, hown9, hb10⟩
        · rintro a' w' ⟨v', y45, y46, y47, y48, y49, y50, y51, y52, y53, y54, y55, rfl, hown9, hb10⟩
          simp only [Act.put, List.setIfInBounds_toArray, List.set_cons_succ, List.set_cons_zero]
          have HD8 : Hid (D ++ [(V, M)] = portC 3 (P.take (k + 1))) := by
            show _ = _
            rw [HT.out, HD.out]
          have OWN8 : Hid (w'.ownsRow w3.heap.size 37 26 v' (D ++ [(V, M)]).length (ccells (D ++ [(V, M)]))) := hown9
          have HL8 : Hid ((D ++ [(V, M)]).length ≤ k + 1) := by
            show _ ≤ _
            rw [List.length_append]; simpa using hDl
          clear hown9 OWN5 hb7 k6 l6
          go_wp2_with fail
          go_roundw
          case rel => exact ⟨k + 1, by omega, by go_num, D ++ [(V, M)], HD8.out, HL8.out, OWN8.out, hb10⟩
          case measure => simp [intOf]; omega
      · obtain rfl : k = n := by omega
        have HE : Hid (D = portC 3 P) := by
          show _ = _
          rw [HD.out, HN.out, List.take_length]
        go_wp2_with fail
        go_ret2
        refine ⟨u10, rfl, ?_, B1⟩
        rw [← HE.out]
        exact own_base OWN.out hb3.size

set_option maxHeartbeats 1000000 in
theorem rports_field (f l h : Int) (hf : ¬ (f = 2 ∨ f = 3)) (w : World) :
    Calls Tryd.prog 8 #[.int .i64 f, .int .i64 l, .int .i64 h] w fun e w' => e = .returned (.tuple #[.slice none 0 0, .int .i64 1]) ∧ w' = w := by
  have n2 : (f != 2) = true := by simp; omega
  have n3 : (f != 3) = true := by simp; omega
  clear hf
  go_enter Tryd.func8, Tryd.ntmps8
  go_wp2_with fail
  go_ret2
  exact ⟨rfl, rfl⟩

theorem rports_any (f l h : Int) (w : World) :
    Calls Tryd.prog 8 #[.int .i64 f, .int .i64 l, .int .i64 h] w fun e w' => ∃ u, e = .returned (.tuple #[u, .int .i64 (portE f l h)]) ∧ Sl w' u (portP f l h) ∧ Below w.heap.size w w' := by
  have none0 : ∀ w' : World, Sl w' (.slice none 0 0) [] := fun w' => sl_of (C := []) (World.ownsRow_nil w' w.heap.size _ _) (fun c hc => absurd hc (by simp))
  by_cases hf : f = 2 ∨ f = 3
  · refine (rports_ok f l h hf w).mono ?_
    rintro e w' ⟨u, rfl, ho, hb⟩
    have e1 : portE f l h = ranE l h := by unfold portE ranE; rw [decide_eq_true hf, if_pos rfl]
    have e2 : portP f l h = portC f (ran l h) := by
      unfold portP ran
      rw [decide_eq_true hf, Bool.true_and]
      cases isR l h <;> rfl
    rw [e1, e2]
    exact ⟨u, rfl, sl_of ho (byts_portC _ _), hb⟩
  · refine (rports_field f l h hf w).mono ?_
    rintro e w' ⟨rfl, rfl⟩
    unfold portP portE
    rw [decide_eq_false hf, if_neg (by simp), Bool.false_and]
    exact ⟨_, rfl, none0 _, Below.refl _ _⟩
end Go.Proofs.YtplnlmkmaapbaaaDoor
namespace Go.Proofs.YtplnlmkmaapbaaaDoor
open Go Go.RowKit

set_option maxHeartbeats 2000000 in
theorem chas_any (C : List (List Int × List Int)) (H : List Int) (hH : Byt H) (hn : C.length ≤ 1000000) (v : Value) (w : World) (hs : Sl w v C) :
    Calls Tryd.prog 12 #[v, .agg (hv H)] w fun e w' => e = .returned (.bool (hasL C H)) ∧ Below w.heap.size w w' := by
  obtain ⟨o, cap, rfl, _, _⟩ := hs.slice
  obtain ⟨n, hne⟩ : ∃ n, n = C.length := ⟨_, rfl⟩
  rw [← hne] at hs hn ⊢
  have hHl := hH.1
  have HN : Hid (n = C.length) := hne
  have HS : Hid (Sl w (.slice o n cap) C) := hs
  have CH : Hid (∀ U N : List Int, Byt U → Byt N → ∀ W, Calls Tryd.prog 15 #[.agg (cv U N), .agg (hv H)] W fun e w' => e = .returned (.bool (has U N H)) ∧ Below W.heap.size W w') := fun U N h1 h2 => has_any U N H h1 h2 hH
  clear hs hne hH
  go_enter Tryd.func12, Tryd.ntmps12
  go_wp2_with fail
  go_loopw [9] (fun i wr => ∃ k : Nat, k ≤ n ∧ i = .int .i64 k ∧ hasL (C.take k) H = false ∧ wr.heap[w.heap.size]? = some (.cells (hv H) 23 (0, 0)) ∧ Below w.heap.size w wr) (fun i _ => n - (intOf i).toNat)
  case atStart => exact ⟨0, Nat.zero_le _, rfl, rfl, heap_new _ _ _ rfl, (Below.refl _ _).alloc (Nat.le_refl _) _⟩
  case round =>
    obtain ⟨k, hk, rfl, hp, g0, hb⟩ := hrel
    have HP : Hid (hasL (C.take k) H = false) := hp
    clear hp
    by_cases hlt : k < n
    · obtain ⟨g, off, cur, t, fr, U, N, rfl, hg, hc, hCk, hU, hN⟩ := HS.out.at k hlt
      have hUl := hU.1
      have hNl := hN.1
      have D1 : Hid (∀ W, Calls Tryd.prog 15 #[.agg (cv U N), .agg (hv H)] W fun e w' => e = .returned (.bool (has U N H)) ∧ Below W.heap.size W w') := CH.out U N hU hN
      have hg' : wr.heap[g]? = some (.cells cur t fr) := (hb.block g (Array.getElem?_eq_some_iff.1 hg).1).trans hg
      have HC : Hid (∀ j, j < 26 → cur[off + k * 26 + j]? = (cv U N)[j]?) := hc
      have HK : Hid (C[k]? = some (U, N)) := hCk
      obtain ⟨b, hbb⟩ : ∃ b, b = has U N H := ⟨_, rfl⟩
      have HB : Hid (b = has U N H) := hbb
      rw [← hbb] at D1
      have k0 := heap_past wr (.cells (cv U N) 37) _ _ g0
      have k1 := heap_new wr (.cells (cv U N) 37) _ rfl
      have B2 := hb.alloc hb.size (.cells (cv U N) 37)
      clear hg hc hCk hU hN hbb
      go_wp2_with (first
        | (refine wl_loadCat rfl _ rfl g (off + k * 26) rfl cur t fr U N hUl hNl hg' HC.out ?_)
        | (refine wl_storeC rfl _ _ rfl wr.heap.size U N rfl rfl _ (heap_new _ _ _ rfl) rfl hUl hNl _ (setRow_new _ _ _ _ _ rfl) ?_)
        | (refine wl_loadC rfl _ rfl wr.heap.size rfl U N k1 hUl hNl ?_)
        | (refine wl_load26 rfl _ rfl w.heap.size rfl H k0 hHl ?_))
      refine (D1.out _).mono ?_
      rintro e w1 ⟨rfl, hb1⟩
      have z0 := (Array.getElem?_eq_some_iff.1 g0).1
      have g1 : w1.heap[w.heap.size]? = some (.cells (hv H) 23 (0, 0)) := by rw [hb1.block _ (by simp; omega)]; exact k0
      have B3 := B2.trans (hb1.mono B2.size)
      clear k0 k1 B2 hb1 D1 g0
      cases b
      · go_wp2_with fail
        go_roundw
        case rel => exact ⟨k + 1, by omega, by go_num, hasL_take HK.out HB.out.symm HP.out, g1, B3⟩
        case measure => simp [intOf]; omega
      · go_wp2_with fail
        go_ret
        exact ⟨ret_bool (hasL_at HK.out HB.out.symm).symm, B3⟩
    · obtain rfl : k = n := by omega
      go_wp2_with fail
      go_ret
      refine ⟨ret_bool ?_, hb⟩
      have := HP.out
      rw [HN.out, List.take_length] at this
      exact this.symm

end Go.Proofs.YtplnlmkmaapbaaaDoor
namespace Go.Proofs.YtplnlmkmaapbaaaDoor
open Go Go.RowKit

/-- Have no two of these cubes a header together? -/
def Apart (C : List (List Int × List Int)) : Prop := ∀ (i k : Nat) (U N U' N' : List Int), i < k → C[i]? = some (U, N) → C[k]? = some (U', N') → meets U N U' N' = false
def apartL : List (List Int × List Int) → Bool
  | [] => true
  | c :: C => (C.all fun d => !(meets c.1 c.2 d.1 d.2)) && apartL C
theorem apartL_iff : ∀ {C : List (List Int × List Int)}, apartL C = true ↔ Apart C
  | [] => ⟨fun _ i k U N U' N' _ h1 => by simp at h1, fun _ => rfl⟩
  | c :: C => by
    rw [apartL, Bool.and_eq_true, List.all_eq_true, apartL_iff (C := C)]
    constructor
    · rintro ⟨h1, h2⟩ i k U N U' N' hik hi hk
      obtain ⟨k, rfl⟩ : ∃ k', k = k' + 1 := ⟨k - 1, by omega⟩
      rw [List.getElem?_cons_succ] at hk
      cases i with
      | zero =>
        obtain rfl : c = (U, N) := by simpa using hi
        have := h1 (U', N') (List.mem_of_getElem? hk)
        simpa using this
      | succ i =>
        rw [List.getElem?_cons_succ] at hi
        exact h2 i k U N U' N' (by omega) hi hk
    · intro h
      refine ⟨fun d hd => ?_, fun i k U N U' N' hik hi hk => h (i + 1) (k + 1) U N U' N' (by omega) (by simpa using hi) (by simpa using hk)⟩
      obtain ⟨k, hk, hd⟩ := List.getElem_of_mem hd
      have := h 0 (k + 1) c.1 c.2 d.1 d.2 (by omega) (by simp) (by rw [List.getElem?_cons_succ, List.getElem?_eq_getElem hk, hd])
      rw [this]; rfl
theorem apartL_yes {C : List (List Int × List Int)} (h : Apart C) : apartL C = true := apartL_iff.2 h
theorem apartL_no {C : List (List Int × List Int)} (h : ¬ Apart C) : apartL C = false := by
  cases e : apartL C with
  | false => rfl
  | true => exact absurd (apartL_iff.1 e) h

theorem meets_symm (V M V' M' : List Int) : meets V M V' M' = meets V' M' V M := by
  rw [Bool.eq_iff_iff, meets_iff, meets_iff]
  exact ⟨fun h i hi h1 h2 => (h i hi h2 h1).symm, fun h i hi h1 h2 => (h i hi h2 h1).symm⟩
theorem meetR_form (V M V' M' : List Int) : ∃ A B, A.length = 13 ∧ B.length = 13 ∧ meetR V M V' M' = .tuple #[.agg (cv A B), .bool (meets V M V' M')] := by
  cases h : meets V M V' M'
  · exact ⟨Z, Z, Z_byt.1, Z_byt.1, meetR_no _ _ _ _ h⟩
  · exact ⟨_, _, (meetV_byt _ _ _ _).1, (meetM_byt _ _).1, meetR_yes _ _ _ _ h⟩

set_option maxHeartbeats 4000000 in
theorem apart_any (C : List (List Int × List Int)) (hn : C.length ≤ 1000000) (v : Value) (w : World) (hs : Sl w v C) :
    Calls Tryd.prog 10 #[v] w fun e w' => e = .returned (.bool (apartL C)) ∧ Below w.heap.size w w' := by
  obtain ⟨o, cap, rfl, _, _⟩ := hs.slice
  obtain ⟨n, hne⟩ : ∃ n, n = C.length := ⟨_, rfl⟩
  rw [← hne] at hs hn ⊢
  have HN : Hid (n = C.length) := hne
  have HS : Hid (Sl w (.slice o n cap) C) := hs
  have hcap : n ≤ cap := hs.len.2.1
  clear hs hne
  go_enter Tryd.func10, Tryd.ntmps10
  go_wp2_with fail
  go_loopw [11] (fun i wr => ∃ k : Nat, k ≤ n ∧ i = .int .i64 k ∧ Apart (C.take k) ∧ Below w.heap.size w wr) (fun i _ => n - (intOf i).toNat)
  case atStart => exact ⟨0, Nat.zero_le _, rfl, fun i k U N U' N' _ h => by simp at h, Below.refl _ _⟩
  case round =>
    obtain ⟨k, hk, rfl, hp, hb⟩ := hrel
    have HP : Hid (Apart (C.take k)) := hp
    clear hp
    by_cases hlt : k < n
    · obtain ⟨g, off, cur, t, fr, U, N, rfl, hg, hc, hCk, hU, hN⟩ := HS.out.at k hlt
      have hUl := hU.1
      have hNl := hN.1
      have HU : Hid (Byt U ∧ Byt N) := ⟨hU, hN⟩
      have hg' : wr.heap[g]? = some (.cells cur t fr) := (hb.block g (Array.getElem?_eq_some_iff.1 hg).1).trans hg
      have HC : Hid (∀ j, j < 26 → cur[off + k * 26 + j]? = (cv U N)[j]?) := hc
      have HK : Hid (C[k]? = some (U, N)) := hCk
      have k1 := heap_new wr (.cells (cv U N) 37) _ rfl
      have B2 := hb.alloc hb.size (.cells (cv U N) 37)
      have hgz := (Array.getElem?_eq_some_iff.1 hg).1
      obtain ⟨W, hW⟩ : ∃ W, W = wr.alloc (.cells (cv U N) 37) := ⟨_, rfl⟩
      clear hg hc hCk hU hN
      go_wp2_with (first
        | (refine wl_loadCat rfl _ rfl g (off + k * 26) rfl cur t fr U N hUl hNl hg' HC.out ?_)
        | (refine wl_storeC rfl _ _ rfl wr.heap.size U N rfl rfl _ (heap_new _ _ _ rfl) rfl hUl hNl _ (setRow_new _ _ _ _ _ rfl) ?_))
      rw [← hW] at k1 B2 ⊢
      have zW : W.heap.size = wr.heap.size + 1 := by rw [hW]; simp
      obtain ⟨p, hp⟩ : ∃ p, p = wr.heap.size := ⟨_, rfl⟩
      rw [← hp] at k1 zW ⊢
      clear hW hp
      go_loopw [20] (fun j wq => ∃ m : Nat, m ≤ k ∧ j = .int .i64 m ∧ (∀ m' : Nat, m' < m → ∀ U' N' : List Int, C[m']? = some (U', N') → meets U N U' N' = false) ∧ wq.heap[p]? = some (.cells (cv U N) 37 (0, 0)) ∧ Below w.heap.size w wq) (fun j _ => k - (intOf j).toNat)
      case atStart => exact ⟨0, Nat.zero_le _, rfl, fun m' h => by omega, k1, B2⟩
      case round =>
        obtain ⟨m, hm, rfl, hq, j0, hbq⟩ := hrel
        have HQ : Hid (∀ m' : Nat, m' < m → ∀ U' N' : List Int, C[m']? = some (U', N') → meets U N U' N' = false) := hq
        clear hq
        have jz := (Array.getElem?_eq_some_iff.1 j0).1
        by_cases hml : m < k
        · obtain ⟨g2, off2, cur2, t2, fr2, U2, N2, ho2, hg2, hc2, hCm, hU2, hN2⟩ := HS.out.at m (by omega)
          simp only [Option.some.injEq, Addr.mk.injEq, and_true] at ho2
          obtain ⟨rfl, rfl⟩ := ho2
          have hUl2 := hU2.1
          have hNl2 := hN2.1
          obtain ⟨A, B, hA, hB, hAB⟩ := meetR_form U N U2 N2
          have D1 : Hid (∀ W, Calls Tryd.prog 24 #[.agg (cv U N), .agg (cv U2 N2)] W fun e w' => e = .returned (.tuple #[.agg (cv A B), .bool (meets U N U2 N2)]) ∧ Below W.heap.size W w') := by
            have := meet_any U N U2 N2 HU.out.1 HU.out.2 hU2 hN2; rwa [hAB] at this
          have hg2' : wr.heap[g]? = some (.cells cur2 t2 fr2) := (hbq.block g (Array.getElem?_eq_some_iff.1 hg2).1).trans hg2
          have HC2 : Hid (∀ j, j < 26 → cur2[off + m * 26 + j]? = (cv U2 N2)[j]?) := hc2
          have HM : Hid (C[m]? = some (U2, N2)) := hCm
          obtain ⟨b, hbb⟩ : ∃ b, b = meets U N U2 N2 := ⟨_, rfl⟩
          have HB : Hid (b = meets U N U2 N2) := hbb
          rw [← hbb] at D1
          have l0 := heap_past wr (.cells (cv U2 N2) 37) _ _ j0
          have l1 := heap_new wr (.cells (cv U2 N2) 37) _ rfl
          have B3 := hbq.alloc hbq.size (.cells (cv U2 N2) 37)
          clear hg2 hc2 hCm hU2 hN2 hbb hAB
          go_wp2_with (first
            | (refine wl_loadCat rfl _ rfl g (off + m * 26) rfl cur2 t2 fr2 U2 N2 hUl2 hNl2 hg2' HC2.out ?_)
            | (refine wl_storeC rfl _ _ rfl wr.heap.size U2 N2 rfl rfl _ (heap_new _ _ _ rfl) rfl hUl2 hNl2 _ (setRow_new _ _ _ _ _ rfl) ?_)
            | (refine wl_loadC rfl _ rfl p rfl U N l0 hUl hNl ?_)
            | (refine wl_loadC rfl _ rfl wr.heap.size rfl U2 N2 l1 hUl2 hNl2 ?_))
          refine (D1.out _).mono ?_
          rintro e w1 ⟨rfl, hb1⟩
          have n0 : w1.heap[p]? = some (.cells (cv U N) 37 (0, 0)) := by rw [hb1.block _ (by simp; omega)]; exact l0
          have B4 := B3.trans (hb1.mono B3.size)
          clear l0 l1 B3 hb1 D1 j0 hbq
          have n1 := heap_past w1 (.cells (cv A B) 37) _ _ n0
          have B5 := B4.alloc B4.size (.cells (cv A B) 37)
          cases b
          · go_wp2_with (first
              | (refine wl_storeC rfl _ _ rfl w1.heap.size A B rfl rfl _ (heap_new _ _ _ rfl) rfl hA hB _ (setRow_new _ _ _ _ _ rfl) ?_))
            go_roundw
            case rel =>
              refine ⟨m + 1, by omega, by go_num, fun m' hm' U' N' he => ?_, n1, B5⟩
              rcases Nat.lt_succ_iff_lt_or_eq.1 hm' with h | rfl
              · exact HQ.out m' h U' N' he
              · have := he.symm.trans HM.out
                simp only [Option.some.injEq, Prod.mk.injEq] at this
                rw [this.1, this.2]; exact HB.out.symm
            case measure => simp [intOf]; omega
          · go_wp2_with (first
              | (refine wl_storeC rfl _ _ rfl w1.heap.size A B rfl rfl _ (heap_new _ _ _ rfl) rfl hA hB _ (setRow_new _ _ _ _ _ rfl) ?_))
            go_ret
            refine ⟨ret_bool (apartL_no fun h => ?_).symm, B5⟩
            have := h m k _ _ _ _ hml HM.out HK.out
            rw [meets_symm, ← HB.out] at this
            cases this
        · obtain rfl : m = k := by omega
          go_wp2_with fail
          go_roundw
          case rel =>
            refine ⟨m + 1, by omega, by go_num, fun i k U' N' U2 N2 hik h1 h2 => ?_, hbq⟩
            have hkm : k < m + 1 := by
              have := (List.getElem?_eq_some_iff.1 h2).1
              rw [List.length_take] at this; omega
            rw [List.getElem?_take_of_lt (by omega)] at h1 h2
            rcases Nat.lt_succ_iff_lt_or_eq.1 hkm with h | rfl
            · exact HP.out i k U' N' U2 N2 hik (by rw [List.getElem?_take_of_lt (by omega)]; exact h1) (by rw [List.getElem?_take_of_lt (by omega)]; exact h2)
            · have := h2.symm.trans HK.out
              simp only [Option.some.injEq, Prod.mk.injEq] at this
              rw [this.1, this.2, meets_symm]; exact HQ.out i hik U' N' h1
          case measure => simp [intOf]; omega
    · obtain rfl : k = n := by omega
      go_wp2_with fail
      go_ret
      refine ⟨ret_bool ?_, hb⟩
      have := HP.out
      rw [HN.out, List.take_length] at this
      exact (apartL_yes this).symm
end Go.Proofs.YtplnlmkmaapbaaaDoor
namespace Go.Proofs.YtplnlmkmaapbaaaDoor
open Go Go.RowKit

set_option maxHeartbeats 2000000 in
theorem sameSl_any (C : List (List Int × List Int)) (hn : C.length ≤ 1000000) (va vb : Value) (w : World) (ha : Sl w va C) (hb : Sl w vb C) :
    Calls Tryd.prog 9 #[va, vb] w fun e w' => e = .returned (.bool true) ∧ Below w.heap.size w w' := by
  obtain ⟨oa, ca, rfl, _, _⟩ := ha.slice
  obtain ⟨ob, cb, rfl, _, _⟩ := hb.slice
  obtain ⟨n, hne⟩ : ∃ n, n = C.length := ⟨_, rfl⟩
  rw [← hne] at ha hb hn ⊢
  have HA : Hid (Sl w (.slice oa n ca) C) := ha
  have HB : Hid (Sl w (.slice ob n cb) C) := hb
  have HN : Hid (n = C.length) := hne
  have eg : ∀ op x y (xs ys : Array Value) w, (eqGuard op 37 x y (.agg xs) (.agg ys)).run Tryd.prog w = .ok () w := egC
  clear ha hb hne
  go_enter Tryd.func9, Tryd.ntmps9
  go_wp2_with fail
  go_loopw [5] (fun i wr => ∃ k : Nat, k ≤ n ∧ i = .int .i64 k ∧ Below w.heap.size w wr) (fun i _ => n - (intOf i).toNat)
  case atStart => exact ⟨0, Nat.zero_le _, rfl, Below.refl _ _⟩
  case round =>
    obtain ⟨k, hk, rfl, hbw⟩ := hrel
    by_cases hlt : k < n
    · obtain ⟨ga, oa2, cura, ta, fa, U, N, rfl, hga, hca, hC1, hU, hN⟩ := HA.out.at k hlt
      obtain ⟨gb, ob2, curb, tb, fb, U', N', rfl, hgb, hcb, hC2, hU', hN'⟩ := HB.out.at k hlt
      rw [hC1] at hC2
      simp only [Option.some.injEq, Prod.mk.injEq] at hC2
      obtain ⟨rfl, rfl⟩ := hC2
      have hUl : U.length = 13 := hU.1
      have hNl : N.length = 13 := hN.1
      have e1 : ∀ w, (Op.equalIn 10000 37 (.agg (cv U N)) (.agg (cv U N))).run Tryd.prog w = .ok true w := fun w => by rw [eqC _ _ _ _ hUl hNl hUl hNl]; simp
      have hga' : wr.heap[ga]? = some (.cells cura ta fa) := (hbw.block ga (Array.getElem?_eq_some_iff.1 hga).1).trans hga
      have hgb' : wr.heap[gb]? = some (.cells curb tb fb) := (hbw.block gb (Array.getElem?_eq_some_iff.1 hgb).1).trans hgb
      have HCA : Hid (∀ j, j < 26 → cura[oa2 + k * 26 + j]? = (cv U N)[j]?) := hca
      have HCB : Hid (∀ j, j < 26 → curb[ob2 + k * 26 + j]? = (cv U N)[j]?) := hcb
      clear hC1 hU hN hU' hN' hga hgb hca hcb
      go_wp2_with fail
      have ne1 := Later.ne wr
      refine wp_region_later (by kernel_rfl) (by kernel_rfl) ?_
      go_big_quiet_step (fail)
      go_big_quiet_step (fail)
      go_big_quiet_step (fail)
      refine qlSl rfl _ rfl ga (oa2 + k * 26) rfl cura ta fa U N hUl hNl hga' HCA.out ?_
      simp only [Act.put, List.setIfInBounds_toArray, List.set_cons_succ, List.set_cons_zero]
      go_big_quiet_step (fail)
      go_big_quiet_step (fail)
      go_big_quiet_step (fail)
      refine qlSl rfl _ rfl gb (ob2 + k * 26) rfl curb tb fb U N hUl hNl hgb' HCB.out ?_
      simp only [Act.put, List.setIfInBounds_toArray, List.set_cons_succ, List.set_cons_zero]
      go_big_quiet_step (fail)
      refine wpQuiet_nil ?_
      rintro w' ⟨u, rfl⟩
      go_wp2_with fail
      go_roundw
      case rel => exact ⟨k + 1, by omega, by go_num, hbw.trans (u.below.mono hbw.size)⟩
      case measure => simp [intOf]; omega
    · obtain rfl : k = n := by omega
      go_wp2_with fail
      go_ret
      exact ⟨rfl, hbw⟩
end Go.Proofs.YtplnlmkmaapbaaaDoor
