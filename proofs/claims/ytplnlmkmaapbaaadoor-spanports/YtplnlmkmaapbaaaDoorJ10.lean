import Derived.Test.YtplnlmkmaapbaaaDoorJ9
import Derived.Test.YtplnlmkmaapbaaaDoorJ6
import Derived.Test.YtplnlmkmaapbaaaDoorJ8
namespace Go.Proofs.YtplnlmkmaapbaaaDoor
open Go Go.RowKit

theorem ran_mem {l h : Int} {p : Nat × Nat} {k : Nat} (hp : (ran l h)[k]? = some p) : p.2 ≤ 16 ∧ p.1 ≤ 65535 := by
  unfold ran at hp
  by_cases c : isR l h = true
  · rw [if_pos c] at hp
    have hc := (isR_iff l h).1 c
    have := List.mem_of_getElem? hp
    exact ⟨rng_bits this, by have := (rng_mem _ _ _ this).2.1; omega⟩
  · rw [if_neg c] at hp; simp at hp
theorem ran_few (l h : Int) : (ran l h).length ≤ 30 := by
  unfold ran
  by_cases c : isR l h = true
  · rw [if_pos c]
    have hc := (isR_iff l h).1 c
    exact rng_few _ _ (by omega) (by omega)
  · rw [if_neg c]; exact Nat.zero_le _
/-- How many of the pieces have a number. -/
def cntP (P : List (Nat × Nat)) (x : Nat) : Nat := (P.filter fun p => inP p x).length
theorem cntP_take {P : List (Nat × Nat)} {p : Nat × Nat} {k : Nat} (hk : P[k]? = some p) (x : Nat) : cntP (P.take (k + 1)) x = cntP (P.take k) x + (if inP p x then 1 else 0) := by
  unfold cntP
  rw [List.take_add_one, hk, List.filter_append, List.length_append]
  congr 1
  cases h : inP p x <;> simp [h]
theorem cntP_ran (l h : Int) (x : Nat) (c : isR l h = true) : cntP (ran l h) x = if l ≤ (x : Int) ∧ (x : Int) ≤ h then 1 else 0 := by
  have hc := (isR_iff l h).1 c
  unfold cntP ran
  rw [if_pos c, cnt_rng]
  by_cases d : l ≤ (x : Int) ∧ (x : Int) ≤ h
  · rw [if_pos d, if_pos (by omega)]
  · rw [if_neg d, if_neg (by omega)]

end Go.Proofs.YtplnlmkmaapbaaaDoor
namespace Go.Proofs.YtplnlmkmaapbaaaDoor
open Go Go.RowKit

theorem wl_minI {ops : Array Oper} {rest : List Oper} {o : Oper} {a : Act} {w : World} {Q : Exit → Act → World → Prop} (hgd : o.guard = none) (x y : Operand) (ho : o.op = .call { callee := .builtin .min, args := #[x, y], argTypes := #[3, 3] })
    (p q r : Int) (hx : a.eval x = .int .i64 p) (hy : a.eval y = .int .i64 q) (hr : r = min p q) (h : wpList Tryd.prog ops Q rest (a.put o.dst (.int .i64 r)) w) : wpList Tryd.prog ops Q (o :: rest) a w := by
  obtain ⟨dst, op, ty, pos, after, guard⟩ := o
  subst ho
  have hr : (execOp a.eval ⟨dst, .call { callee := .builtin .min, args := #[x, y], argTypes := #[3, 3] }, ty, pos, after, guard⟩).run Tryd.prog w = .ok (.value (.int .i64 r)) w := by
    subst hr
    by_cases h1 : p ≤ q
    · rw [show min p q = p by omega]
      unfold execOp
      simp [resolve, invoke, builtin, hx, hy, Builtin.min_, Builtin.min2]
      all_goals omega
    · rw [show min p q = q by omega]
      unfold execOp
      simp [resolve, invoke, builtin, hx, hy, Builtin.min_, Builtin.min2]
      all_goals omega
  refine wpList_plain hgd fun K hK => ?_
  unfold Oper.wp
  rw [hr]
  exact hK _ _ h
theorem wl_maxI {ops : Array Oper} {rest : List Oper} {o : Oper} {a : Act} {w : World} {Q : Exit → Act → World → Prop} (hgd : o.guard = none) (x y : Operand) (ho : o.op = .call { callee := .builtin .max, args := #[x, y], argTypes := #[3, 3] })
    (p q r : Int) (hx : a.eval x = .int .i64 p) (hy : a.eval y = .int .i64 q) (hr : r = max p q) (h : wpList Tryd.prog ops Q rest (a.put o.dst (.int .i64 r)) w) : wpList Tryd.prog ops Q (o :: rest) a w := by
  obtain ⟨dst, op, ty, pos, after, guard⟩ := o
  subst ho
  have hr : (execOp a.eval ⟨dst, .call { callee := .builtin .max, args := #[x, y], argTypes := #[3, 3] }, ty, pos, after, guard⟩).run Tryd.prog w = .ok (.value (.int .i64 r)) w := by
    subst hr
    by_cases h1 : q ≤ p
    · rw [show max p q = p by omega]
      unfold execOp
      simp [resolve, invoke, builtin, hx, hy, Builtin.max_, Builtin.max2]
      all_goals omega
    · rw [show max p q = q by omega]
      unfold execOp
      simp [resolve, invoke, builtin, hx, hy, Builtin.max_, Builtin.max2]
      all_goals omega
  refine wpList_plain hgd fun K hK => ?_
  unfold Oper.wp
  rw [hr]
  exact hK _ _ h

/-- One cube appended to one's own row of them, and where the new row lies. -/
theorem wl_append1 {ops : Array Oper} {rest : List Oper} {o : Oper} {a : Act} {w : World} {Q : Exit → Act → World → Prop} (hgd : o.guard = none) (s x : Operand) (ho : o.op = .call { callee := .builtin .append, args := #[s, x], argTypes := #[25, 25] })
    (base : Nat) (v : Value) (C : List (List Int × List Int)) (V M : List Int) (hV : V.length = 13) (hM : M.length = 13) (hs : a.eval s = v) (hown : w.ownsRow base 37 26 v C.length (ccells C)) (g cap : Nat) (hx : a.eval x = .slice (some ⟨g, 0, none⟩) 1 cap) (hg : w.heap[g]? = some (.cells (cv V M) 37 (0, 0)))
    (hn : C.length ≤ 1000000) (hbase : base ≤ w.heap.size)
    (h : ∀ v' w', w'.ownsRow base 37 26 v' (C ++ [(V, M)]).length (ccells (C ++ [(V, M)])) → w.grownBy w' v.ownBlock → (v'.ownBlock = v.ownBlock ∨ v'.ownBlock = some w.heap.size) → wpList Tryd.prog ops Q rest (a.put o.dst v') w') : wpList Tryd.prog ops Q (o :: rest) a w := by
  obtain ⟨i0, hi, hz0, hz1, hz2⟩ := infoC
  have hsz := cv_size V M hV hM
  refine wpList_append_own_at _ hgd s x 25 ho base 37 i0 (.agg zeroC) 26 26 Tryd.underlying25 hi hz0 hz1 hz2 rfl (by decide) v _ _ hs hown ⟨g, 0, none⟩ 1 cap (cv V M).toList hx (by simp [hsz]) (fun j y hy => ?_) (fun u hu => ?_) (by unfold maxLen; omega) (by omega) hbase ?_
  · have hadd : (⟨g, 0, none⟩ : Addr).add j = ⟨g, j, none⟩ := by unfold Addr.add; split <;> simp_all
    rw [hadd, cell_of_row w g j _ _ _ hg, ← hy]
    simp
  · exact (Array.all_eq_true_iff_forall_mem.1 (cv_one V M)) u (by simpa using hu)
  · intro v' w' h5 h6 _ h7
    refine h v' w' ?_ h6 h7
    rw [List.length_append, ccells_append, ccells_one]; exact h5

theorem own_ne {w : World} {B : Nat} {e : TypeId} {s : Nat} {v : Value} {n : Nat} {xs : List Value} (h : w.ownsRow B e s v n xs) {g : Nat} (hg : w.heap.size ≤ g) : v.ownBlock ≠ some g := fun hq => by
  have := (h.lt g hq).2
  omega
end Go.Proofs.YtplnlmkmaapbaaaDoor
namespace Go.Proofs.YtplnlmkmaapbaaaDoor
open Go Go.RowKit

/-- The cubes of some pieces. -/
def portC (f : Int) (P : List (Nat × Nat)) : List (List Int × List Int) := P.map fun p => (pxV f p.1 p.2, pxM f p.2)
theorem portC_take {f : Int} {P : List (Nat × Nat)} {p : Nat × Nat} {k : Nat} (hk : P[k]? = some p) : portC f (P.take (k + 1)) = portC f (P.take k) ++ [(pxV f p.1 p.2, pxM f p.2)] := by
  unfold portC
  rw [List.take_add_one, hk]
  simp
theorem byts_portC (f : Int) (P : List (Nat × Nat)) : Byts (portC f P) := fun c hc => by
  unfold portC at hc
  rw [List.mem_map] at hc
  obtain ⟨p, _, rfl⟩ := hc
  exact ⟨pxV_byt _ _ _, pxM_byt _ _⟩
theorem portC_len (f : Int) (P : List (Nat × Nat)) : (portC f P).length = P.length := by simp [portC]

set_option maxHeartbeats 2000000 in
theorem ports_ok (f l h : Int) (hf : f = 2 ∨ f = 3) (hr : isR l h = true) (w : World) (hP : Places w) :
    Calls Tryd.prog 7 #[.int .i64 f, .int .i64 l, .int .i64 h] w fun e w' => ∃ u, e = .returned (.tuple #[u, .int .i64 0]) ∧ w'.ownsRow w.heap.size 37 26 u (portC f (ran l h)).length (ccells (portC f (ran l h))) ∧ Below w.heap.size w w' := by
  have hs := size_23 f hf
  have R1 : Hid (∀ W, Calls Tryd.prog 19 #[.int .i64 l, .int .i64 h] W fun e w' => ∃ u, e = .returned (.tuple #[u, .int .i64 0]) ∧ w'.ownsRow W.heap.size 50 2 u (ran l h).length (pcells (ran l h)) ∧ Below W.heap.size W w') := fun W => by
    have := range_any l h W
    rwa [show ranE l h = 0 by rw [ranE, if_pos hr]] at this
  have HM : Hid (∀ (k : Nat) (p : Nat × Nat), (ran l h)[k]? = some p → p.2 ≤ 16 ∧ p.1 ≤ 65535) := fun k p => ran_mem
  have BG : Hid (∀ a b : Nat, a ≤ 65535 → b ≤ 16 → ∀ W, Places W → Calls Tryd.prog 20 #[.int .i64 f, .int .u32 (a : Int), .int .i64 (b : Int)] W fun e w' => e = .returned (.agg (cv (pxV f a b) (pxM f b))) ∧ Below W.heap.size W w') := fun a b ha hb W hW => begins_at f a b W (by omega) (by omega) (by rw [hs]; exact Nat.lt_of_le_of_lt ha (by decide)) (by omega) hW
  have hfew := ran_few l h
  have HP : Hid (Places w) := hP
  have hpos := hP.pos
  obtain ⟨P, hPp⟩ : ∃ P, P = ran l h := ⟨_, rfl⟩
  rw [← hPp] at R1 HM hfew ⊢
  obtain ⟨n, hn⟩ : ∃ n, n = P.length := ⟨_, rfl⟩
  have HN : Hid (n = P.length) := hn
  clear hPp hs hP hr
  rcases hf with rfl | rfl
  · go_enter Tryd.func7, Tryd.ntmps7
    go_wp2_with fail
    refine (R1.out _).mono ?_
    rintro e w3 ⟨u, rfl, ho3, hb3⟩
    have S3 := sp_of ho3
    obtain ⟨o, cap, rfl, _, hcap⟩ := S3.slice
    rw [← hn] at S3 hfew ⊢
    have HS3 : Hid (Sp w3 (.slice o n cap) P) := S3
    clear S3 ho3 hn
    go_wp2_with fail
    go_loopw [10, 30] (fun out i wr => ∃ k : Nat, k ≤ n ∧ i = .int .i64 (k : Int) ∧ ∃ D, D = portC 2 (P.take k) ∧ D.length ≤ k ∧ wr.ownsRow w3.heap.size 37 26 out D.length (ccells D) ∧ Below w3.heap.size w3 wr) (fun _ i _ => n - (intOf i).toNat)
    case atStart => exact ⟨0, Nat.zero_le _, rfl, [], rfl, Nat.le_refl _, World.ownsRow_nil _ _ _ _, Below.refl _ _⟩
    case round =>
      obtain ⟨k, hk, rfl, D, hD, hDl, hown, hb⟩ := hrel
      have HD : Hid (D = portC 2 (P.take k)) := hD
      have OWN : Hid (wr.ownsRow w3.heap.size 37 26 u10 D.length (ccells D)) := hown
      have B1 := hb3.trans (hb.mono hb3.size)
      have hz := B1.size
      clear hD hown
      by_cases hlt : k < n
      · obtain ⟨g, off, cur, t, fr, p, rfl, hg, hc, hpk⟩ := HS3.out.at k hlt
        have hp2 := HM.out k p hpk
        have k1 : wr.heap[g]? = some (.cells cur t fr) := (hb.block g (Array.getElem?_eq_some_iff.1 hg).1).trans hg
        have HT : Hid (portC 2 (P.take (k + 1)) = portC 2 (P.take k) ++ [(pxV 2 p.1 p.2, pxM 2 p.2)]) := portC_take hpk
        obtain ⟨a, b⟩ := p
        simp only at hp2 hc HT
        have H1 : Hid (∀ j, j < 2 → cur[off + k * 2 + j]? = (pv (a : Int) (b : Int))[j]?) := hc
        have B2 := B1.alloc B1.size (.cells (pv (a : Int) (b : Int)) 50)
        have DG : Hid (∀ W, Places W → Calls Tryd.prog 20 #[.int .i64 2, .int .u32 (a : Int), .int .i64 (b : Int)] W fun e w' => e = .returned (.agg (cv (pxV 2 a b) (pxM 2 b))) ∧ Below W.heap.size W w') := BG.out a b hp2.2 hp2.1
        have hVl := (pxV_byt 2 a b).1
        have hMl := (pxM_byt 2 b).1
        obtain ⟨V, hV⟩ : ∃ V, V = pxV 2 a b := ⟨_, rfl⟩
        obtain ⟨M, hM⟩ : ∃ M, M = pxM 2 b := ⟨_, rfl⟩
        rw [← hV] at DG HT hVl
        rw [← hM] at DG HT hMl
        have OWN2 : Hid ((wr.alloc (.cells (pv (a : Int) (b : Int)) 50)).ownsRow w3.heap.size 37 26 u10 D.length (ccells D)) := OWN.out.alloc _
        have HPL : Hid (Places (wr.alloc (.cells (pv (a : Int) (b : Int)) 50))) := HP.out.later hpos B2
        have hb4 := hb.alloc hb.size (.cells (pv (a : Int) (b : Int)) 50)
        obtain ⟨ha1, ha2⟩ := hp2
        clear hg hc hpk hV hM hb OWN
        go_wp2_with (first
          | (refine wl_loadP rfl _ rfl g (off + k * 2) rfl cur t fr (a : Int) (b : Int) k1 H1.out ?_))
        refine (DG.out _ HPL.out).mono ?_
        rintro e w5 ⟨rfl, hb5⟩
        have B5 := B2.trans (hb5.mono B2.size)
        have hb6 := hb4.trans (hb5.mono hb4.size)
        have OWN5 : Hid (w5.ownsRow w3.heap.size 37 26 u10 D.length (ccells D)) := own_below OWN2.out hb5
        have hz5 := B5.size
        have hz6 := hb6.size
        clear hb5 OWN2 B2 hb4 k1 HPL DG
        go_wp2_with (first
          | (refine wl_build1 rfl _ rfl V M hVl hMl rfl ?_)
          | (at_builtin; refine of_stopped ?_))
        unfold Stopped
        have c7 := heap_new w5 (.cells (cv V M) 37) _ rfl
        have B7 := B5.alloc B5.size (.cells (cv V M) 37)
        have hb7 := hb6.alloc hb6.size (.cells (cv V M) 37)
        have OWN7 : Hid ((w5.alloc (.cells (cv V M) 37)).ownsRow w3.heap.size 37 26 u10 D.length (ccells D)) := OWN5.out.alloc _
        refine wl_append1 rfl _ _ rfl w3.heap.size _ D V M hVl hMl rfl OWN7.out _ 1 rfl c7 (by omega) (by simp; omega) ?_
        intro v' w8 hown8 hgr hat
        have hb8 : Below w3.heap.size w3 w8 := hb7.grown hgr (by simp; omega) (fun q hq => (OWN7.out.lt q hq).1)
        have HD8 : Hid (D ++ [(V, M)] = portC 2 (P.take (k + 1))) := by
          show _ = _
          rw [HT.out, HD.out]
        have OWN8 : Hid (w8.ownsRow w3.heap.size 37 26 v' (D ++ [(V, M)]).length (ccells (D ++ [(V, M)]))) := hown8
        have HL8 : Hid ((D ++ [(V, M)]).length ≤ k + 1) := by
          show _ ≤ _
          rw [List.length_append]; simpa using hDl
        simp only [Act.put, List.setIfInBounds_toArray, List.set_cons_succ, List.set_cons_zero]
        clear hown8 hgr hat c7 B7 hb7 OWN7 OWN5
        go_wp2_with fail
        go_roundw
        case rel => exact ⟨k + 1, by omega, by go_num, D ++ [(V, M)], HD8.out, HL8.out, OWN8.out, hb8⟩
        case measure => simp [intOf]; omega
      · obtain rfl : k = n := by omega
        have HE : Hid (D = portC 2 P) := by
          show _ = _
          rw [HD.out, HN.out, List.take_length]
        go_wp2_with fail
        go_ret2
        refine ⟨u10, rfl, ?_, B1⟩
        rw [← HE.out]
        exact own_base OWN.out hb3.size
  · go_enter Tryd.func7, Tryd.ntmps7
    go_wp2_with fail
    refine (R1.out _).mono ?_
    rintro e w3 ⟨u, rfl, ho3, hb3⟩
    have S3 := sp_of ho3
    obtain ⟨o, cap, rfl, _, hcap⟩ := S3.slice
    rw [← hn] at S3 hfew ⊢
    have HS3 : Hid (Sp w3 (.slice o n cap) P) := S3
    clear S3 ho3 hn
    go_wp2_with fail
    go_loopw [10, 30] (fun out i wr => ∃ k : Nat, k ≤ n ∧ i = .int .i64 (k : Int) ∧ ∃ D, D = portC 3 (P.take k) ∧ D.length ≤ k ∧ wr.ownsRow w3.heap.size 37 26 out D.length (ccells D) ∧ Below w3.heap.size w3 wr) (fun _ i _ => n - (intOf i).toNat)
    case atStart => exact ⟨0, Nat.zero_le _, rfl, [], rfl, Nat.le_refl _, World.ownsRow_nil _ _ _ _, Below.refl _ _⟩
    case round =>
      obtain ⟨k, hk, rfl, D, hD, hDl, hown, hb⟩ := hrel
      have HD : Hid (D = portC 3 (P.take k)) := hD
      have OWN : Hid (wr.ownsRow w3.heap.size 37 26 u10 D.length (ccells D)) := hown
      have B1 := hb3.trans (hb.mono hb3.size)
      have hz := B1.size
      clear hD hown
      by_cases hlt : k < n
      · obtain ⟨g, off, cur, t, fr, p, rfl, hg, hc, hpk⟩ := HS3.out.at k hlt
        have hp2 := HM.out k p hpk
        have k1 : wr.heap[g]? = some (.cells cur t fr) := (hb.block g (Array.getElem?_eq_some_iff.1 hg).1).trans hg
        have HT : Hid (portC 3 (P.take (k + 1)) = portC 3 (P.take k) ++ [(pxV 3 p.1 p.2, pxM 3 p.2)]) := portC_take hpk
        obtain ⟨a, b⟩ := p
        simp only at hp2 hc HT
        have H1 : Hid (∀ j, j < 2 → cur[off + k * 2 + j]? = (pv (a : Int) (b : Int))[j]?) := hc
        have B2 := B1.alloc B1.size (.cells (pv (a : Int) (b : Int)) 50)
        have DG : Hid (∀ W, Places W → Calls Tryd.prog 20 #[.int .i64 3, .int .u32 (a : Int), .int .i64 (b : Int)] W fun e w' => e = .returned (.agg (cv (pxV 3 a b) (pxM 3 b))) ∧ Below W.heap.size W w') := BG.out a b hp2.2 hp2.1
        have hVl := (pxV_byt 3 a b).1
        have hMl := (pxM_byt 3 b).1
        obtain ⟨V, hV⟩ : ∃ V, V = pxV 3 a b := ⟨_, rfl⟩
        obtain ⟨M, hM⟩ : ∃ M, M = pxM 3 b := ⟨_, rfl⟩
        rw [← hV] at DG HT hVl
        rw [← hM] at DG HT hMl
        have OWN2 : Hid ((wr.alloc (.cells (pv (a : Int) (b : Int)) 50)).ownsRow w3.heap.size 37 26 u10 D.length (ccells D)) := OWN.out.alloc _
        have HPL : Hid (Places (wr.alloc (.cells (pv (a : Int) (b : Int)) 50))) := HP.out.later hpos B2
        have hb4 := hb.alloc hb.size (.cells (pv (a : Int) (b : Int)) 50)
        obtain ⟨ha1, ha2⟩ := hp2
        clear hg hc hpk hV hM hb OWN
        go_wp2_with (first
          | (refine wl_loadP rfl _ rfl g (off + k * 2) rfl cur t fr (a : Int) (b : Int) k1 H1.out ?_))
        refine (DG.out _ HPL.out).mono ?_
        rintro e w5 ⟨rfl, hb5⟩
        have B5 := B2.trans (hb5.mono B2.size)
        have hb6 := hb4.trans (hb5.mono hb4.size)
        have OWN5 : Hid (w5.ownsRow w3.heap.size 37 26 u10 D.length (ccells D)) := own_below OWN2.out hb5
        have hz5 := B5.size
        have hz6 := hb6.size
        clear hb5 OWN2 B2 hb4 k1 HPL DG
        go_wp2_with (first
          | (refine wl_build1 rfl _ rfl V M hVl hMl rfl ?_)
          | (at_builtin; refine of_stopped ?_))
        unfold Stopped
        have c7 := heap_new w5 (.cells (cv V M) 37) _ rfl
        have B7 := B5.alloc B5.size (.cells (cv V M) 37)
        have hb7 := hb6.alloc hb6.size (.cells (cv V M) 37)
        have OWN7 : Hid ((w5.alloc (.cells (cv V M) 37)).ownsRow w3.heap.size 37 26 u10 D.length (ccells D)) := OWN5.out.alloc _
        refine wl_append1 rfl _ _ rfl w3.heap.size _ D V M hVl hMl rfl OWN7.out _ 1 rfl c7 (by omega) (by simp; omega) ?_
        intro v' w8 hown8 hgr hat
        have hb8 : Below w3.heap.size w3 w8 := hb7.grown hgr (by simp; omega) (fun q hq => (OWN7.out.lt q hq).1)
        have HD8 : Hid (D ++ [(V, M)] = portC 3 (P.take (k + 1))) := by
          show _ = _
          rw [HT.out, HD.out]
        have OWN8 : Hid (w8.ownsRow w3.heap.size 37 26 v' (D ++ [(V, M)]).length (ccells (D ++ [(V, M)]))) := hown8
        have HL8 : Hid ((D ++ [(V, M)]).length ≤ k + 1) := by
          show _ ≤ _
          rw [List.length_append]; simpa using hDl
        simp only [Act.put, List.setIfInBounds_toArray, List.set_cons_succ, List.set_cons_zero]
        clear hown8 hgr hat c7 B7 hb7 OWN7 OWN5
        go_wp2_with fail
        go_roundw
        case rel => exact ⟨k + 1, by omega, by go_num, D ++ [(V, M)], HD8.out, HL8.out, OWN8.out, hb8⟩
        case measure => simp [intOf]; omega
      · obtain rfl : k = n := by omega
        have HE : Hid (D = portC 3 P) := by
          show _ = _
          rw [HD.out, HN.out, List.take_length]
        go_wp2_with fail
        go_ret2
        refine ⟨u10, rfl, ?_, B1⟩
        rw [← HE.out]
        exact own_base OWN.out hb3.size

set_option maxHeartbeats 1000000 in
theorem ports_field (f l h : Int) (hf : ¬ (f = 2 ∨ f = 3)) (w : World) :
    Calls Tryd.prog 7 #[.int .i64 f, .int .i64 l, .int .i64 h] w fun e w' => e = .returned (.tuple #[.slice none 0 0, .int .i64 1]) ∧ w' = w := by
  have n2 : (f != 2) = true := by simp; omega
  have n3 : (f != 3) = true := by simp; omega
  clear hf
  go_enter Tryd.func7, Tryd.ntmps7
  go_wp2_with fail
  go_ret2
  exact ⟨rfl, rfl⟩

set_option maxHeartbeats 1000000 in
theorem ports_range (f l h : Int) (hf : f = 2 ∨ f = 3) (hr : isR l h = false) (w : World) :
    Calls Tryd.prog 7 #[.int .i64 f, .int .i64 l, .int .i64 h] w fun e w' => e = .returned (.tuple #[.slice none 0 0, .int .i64 10]) ∧ w' = w := by
  have R1 : Hid (∀ W, Calls Tryd.prog 19 #[.int .i64 l, .int .i64 h] W fun e w' => e = .returned (.tuple #[.slice none 0 0, .int .i64 10]) ∧ w' = W) := fun W => range_no l h (fun hc => by rw [(isR_iff l h).2 hc] at hr; cases hr) W
  clear hr
  rcases hf with rfl | rfl
  all_goals
    go_enter Tryd.func7, Tryd.ntmps7
    go_wp2_with (first
      | (go_at_call 19; refine (R1.out _).mono ?_; rintro e w' ⟨rfl, rfl⟩))
    go_ret2
    exact ⟨rfl, rfl⟩

/-- A range of a field of ports as cubes, none where there is none. -/
def portP (f l h : Int) : List (List Int × List Int) := if decide (f = 2 ∨ f = 3) && isR l h then portC f (ran l h) else []
def portE (f l h : Int) : Int := if decide (f = 2 ∨ f = 3) then (if isR l h then 0 else 10) else 1
theorem ports_any (f l h : Int) (w : World) (hP : Places w) :
    Calls Tryd.prog 7 #[.int .i64 f, .int .i64 l, .int .i64 h] w fun e w' => ∃ u, e = .returned (.tuple #[u, .int .i64 (portE f l h)]) ∧ Sl w' u (portP f l h) ∧ Below w.heap.size w w' := by
  have none0 : ∀ w' : World, Sl w' (.slice none 0 0) [] := fun w' => sl_of (C := []) (World.ownsRow_nil w' w.heap.size _ _) (fun c hc => absurd hc (by simp))
  unfold portP portE
  by_cases hf : f = 2 ∨ f = 3
  · rw [decide_eq_true hf, if_pos rfl, Bool.true_and]
    cases hr : isR l h
    · refine (ports_range f l h hf hr w).mono ?_
      rintro e w' ⟨rfl, rfl⟩
      exact ⟨_, rfl, none0 _, Below.refl _ _⟩
    · refine (ports_ok f l h hf hr w hP).mono ?_
      rintro e w' ⟨u, rfl, ho, hb⟩
      exact ⟨u, rfl, sl_of ho (byts_portC _ _), hb⟩
  · rw [decide_eq_false hf, if_neg (by simp), Bool.false_and]
    refine (ports_field f l h hf w).mono ?_
    rintro e w' ⟨rfl, rfl⟩
    exact ⟨_, rfl, none0 _, Below.refl _ _⟩
end Go.Proofs.YtplnlmkmaapbaaaDoor
