import Derived.Test.YtnbklmmampdbfaaDoorJ4
import Derived.Test.YtnbklmmampdbfaaDoorJ1
import Derived.Test.YtnbklmmampdbfaaDoorJ3
import Derived.Sort.LotA
import Derived.Shelf.SlSortCmp.KitK
import Derived.Deep.LoopGhost
import Derived.Deep.CutRange
import Derived.Laws.AppendOwnNone
namespace Go.Proofs.YtnbklmmampdbfaaDoor
open Go Go.RowKit
set_option maxRecDepth 20000

theorem ran_mem {l h : Int} {p : Nat × Nat} {k : Nat} (hp : (ran l h)[k]? = some p) : p.2 ≤ 16 ∧ p.1 ≤ 65535 := by
  unfold ran at hp
  by_cases c : isR l h = true
  · rw [if_pos c] at hp
    have hc := (isR_iff l h).1 c
    have := List.mem_of_getElem? hp
    exact ⟨rng_bits this, by have := (rng_mem _ _ _ this).2.1; omega⟩
  · rw [if_neg c] at hp; simp at hp
theorem ran_few (l h : Int) : (ran l h).length ≤ 30 := by
  unfold ran
  by_cases c : isR l h = true
  · rw [if_pos c]
    have hc := (isR_iff l h).1 c
    exact rng_few _ _ (by omega) (by omega)
  · rw [if_neg c]; exact Nat.zero_le _
/-- How many of the pieces have a number. -/
def cntP (P : List (Nat × Nat)) (x : Nat) : Nat := (P.filter fun p => inP p x).length
theorem cntP_take {P : List (Nat × Nat)} {p : Nat × Nat} {k : Nat} (hk : P[k]? = some p) (x : Nat) : cntP (P.take (k + 1)) x = cntP (P.take k) x + (if inP p x then 1 else 0) := by
  unfold cntP
  rw [List.take_add_one, hk, List.filter_append, List.length_append]
  congr 1
  cases h : inP p x <;> simp [h]
theorem cntP_ran (l h : Int) (x : Nat) (c : isR l h = true) : cntP (ran l h) x = if l ≤ (x : Int) ∧ (x : Int) ≤ h then 1 else 0 := by
  have hc := (isR_iff l h).1 c
  unfold cntP ran
  rw [if_pos c, cnt_rng]
  by_cases d : l ≤ (x : Int) ∧ (x : Int) ≤ h
  · rw [if_pos d, if_pos (by omega)]
  · rw [if_neg d, if_neg (by omega)]

end Go.Proofs.YtnbklmmampdbfaaDoor
namespace Go.Proofs.YtnbklmmampdbfaaDoor
open Go Go.RowKit
set_option maxRecDepth 20000

theorem wl_minI {ops : Array Oper} {rest : List Oper} {o : Oper} {a : Act} {w : World} {Q : Exit → Act → World → Prop} (hgd : o.guard = none) (x y : Operand) (ho : o.op = .call { callee := .builtin .min, args := #[x, y], argTypes := #[3, 3] })
    (p q r : Int) (hx : a.eval x = .int .i64 p) (hy : a.eval y = .int .i64 q) (hr : r = min p q) (h : wpList Tryd.prog ops Q rest (a.put o.dst (.int .i64 r)) w) : wpList Tryd.prog ops Q (o :: rest) a w := by
  obtain ⟨dst, op, ty, pos, after, guard⟩ := o
  subst ho
  have hr : (execOp a.eval ⟨dst, .call { callee := .builtin .min, args := #[x, y], argTypes := #[3, 3] }, ty, pos, after, guard⟩).run Tryd.prog w = .ok (.value (.int .i64 r)) w := by
    subst hr
    by_cases h1 : p ≤ q
    · rw [show min p q = p by omega]
      unfold execOp
      simp [resolve, invoke, builtin, hx, hy, Builtin.min_, Builtin.min2]
      all_goals omega
    · rw [show min p q = q by omega]
      unfold execOp
      simp [resolve, invoke, builtin, hx, hy, Builtin.min_, Builtin.min2]
      all_goals omega
  refine wpList_plain hgd fun K hK => ?_
  unfold Oper.wp
  rw [hr]
  exact hK _ _ h
theorem wl_maxI {ops : Array Oper} {rest : List Oper} {o : Oper} {a : Act} {w : World} {Q : Exit → Act → World → Prop} (hgd : o.guard = none) (x y : Operand) (ho : o.op = .call { callee := .builtin .max, args := #[x, y], argTypes := #[3, 3] })
    (p q r : Int) (hx : a.eval x = .int .i64 p) (hy : a.eval y = .int .i64 q) (hr : r = max p q) (h : wpList Tryd.prog ops Q rest (a.put o.dst (.int .i64 r)) w) : wpList Tryd.prog ops Q (o :: rest) a w := by
  obtain ⟨dst, op, ty, pos, after, guard⟩ := o
  subst ho
  have hr : (execOp a.eval ⟨dst, .call { callee := .builtin .max, args := #[x, y], argTypes := #[3, 3] }, ty, pos, after, guard⟩).run Tryd.prog w = .ok (.value (.int .i64 r)) w := by
    subst hr
    by_cases h1 : q ≤ p
    · rw [show max p q = p by omega]
      unfold execOp
      simp [resolve, invoke, builtin, hx, hy, Builtin.max_, Builtin.max2]
      all_goals omega
    · rw [show max p q = q by omega]
      unfold execOp
      simp [resolve, invoke, builtin, hx, hy, Builtin.max_, Builtin.max2]
      all_goals omega
  refine wpList_plain hgd fun K hK => ?_
  unfold Oper.wp
  rw [hr]
  exact hK _ _ h

/-- One cube appended to one's own row of them, and where the new row lies. -/
theorem wl_append1 {ops : Array Oper} {rest : List Oper} {o : Oper} {a : Act} {w : World} {Q : Exit → Act → World → Prop} (hgd : o.guard = none) (s x : Operand) (ho : o.op = .call { callee := .builtin .append, args := #[s, x], argTypes := #[78, 78] })
    (base : Nat) (v : Value) (C : List (List Int × List Int)) (V M : List Int) (hV : V.length = 13) (hM : M.length = 13) (hs : a.eval s = v) (hown : w.ownsRow base 33 26 v C.length (ccells C)) (g cap : Nat) (hx : a.eval x = .slice (some ⟨g, 0, none⟩) 1 cap) (hg : w.heap[g]? = some (.cells (cv V M) 33 (0, 0)))
    (hn : C.length ≤ 1000000) (hbase : base ≤ w.heap.size)
    (h : ∀ v' w', w'.ownsRow base 33 26 v' (C ++ [(V, M)]).length (ccells (C ++ [(V, M)])) → w.grownBy w' v.ownBlock → (v'.ownBlock = v.ownBlock ∨ v'.ownBlock = some w.heap.size) → wpList Tryd.prog ops Q rest (a.put o.dst v') w') : wpList Tryd.prog ops Q (o :: rest) a w := by
  obtain ⟨i0, hi, hz0, hz1, hz2⟩ := infoC
  have hsz := cv_size V M hV hM
  refine wpList_append_own_at _ hgd s x 78 ho base 33 i0 (.agg zeroC) 26 26 Tryd.underlying78 hi hz0 hz1 hz2 rfl (by decide) v _ _ hs hown ⟨g, 0, none⟩ 1 cap (cv V M).toList hx (by simp [hsz]) (fun j y hy => ?_) (fun u hu => ?_) (by unfold maxLen; omega) (by omega) hbase ?_
  · have hadd : (⟨g, 0, none⟩ : Addr).add j = ⟨g, j, none⟩ := by unfold Addr.add; split <;> simp_all
    rw [hadd, cell_of_row w g j _ _ _ hg, ← hy]
    simp
  · exact (Array.all_eq_true_iff_forall_mem.1 (cv_one V M)) u (by simpa using hu)
  · intro v' w' h5 h6 _ h7
    refine h v' w' ?_ h6 h7
    rw [List.length_append, ccells_append, ccells_one]; exact h5

theorem own_ne {w : World} {B : Nat} {e : TypeId} {s : Nat} {v : Value} {n : Nat} {xs : List Value} (h : w.ownsRow B e s v n xs) {g : Nat} (hg : w.heap.size ≤ g) : v.ownBlock ≠ some g := fun hq => by
  have := (h.lt g hq).2
  omega
end Go.Proofs.YtnbklmmampdbfaaDoor
namespace Go.Proofs.YtnbklmmampdbfaaDoor
open Go Go.RowKit
set_option maxRecDepth 20000

/-- The cubes of some pieces. -/
def portC (f : Int) (P : List (Nat × Nat)) : List (List Int × List Int) := P.map fun p => (pxV f p.1 p.2, pxM f p.2)
theorem portC_take {f : Int} {P : List (Nat × Nat)} {p : Nat × Nat} {k : Nat} (hk : P[k]? = some p) : portC f (P.take (k + 1)) = portC f (P.take k) ++ [(pxV f p.1 p.2, pxM f p.2)] := by
  unfold portC
  rw [List.take_add_one, hk]
  simp
theorem byts_portC (f : Int) (P : List (Nat × Nat)) : Byts (portC f P) := fun c hc => by
  unfold portC at hc
  rw [List.mem_map] at hc
  obtain ⟨p, _, rfl⟩ := hc
  exact ⟨pxV_byt _ _ _, pxM_byt _ _⟩
theorem portC_len (f : Int) (P : List (Nat × Nat)) : (portC f P).length = P.length := by simp [portC]

set_option maxHeartbeats 2000000 in
theorem ports_ok (f l h : Int) (hf : f = 2 ∨ f = 3) (hr : isR l h = true) (w : World) (hP : Places w) :
    Calls Tryd.prog 54 #[.int .i64 f, .int .i64 l, .int .i64 h] w fun e w' => ∃ u, e = .returned (.tuple #[u, .int .i64 0]) ∧ w'.ownsRow w.heap.size 33 26 u (portC f (ran l h)).length (ccells (portC f (ran l h))) ∧ Below w.heap.size w w' := by
  have hs := size_23 f hf
  have R1 : Hid (∀ W, Calls Tryd.prog 74 #[.int .i64 l, .int .i64 h] W fun e w' => ∃ u, e = .returned (.tuple #[u, .int .i64 0]) ∧ w'.ownsRow W.heap.size 137 2 u (ran l h).length (pcells (ran l h)) ∧ Below W.heap.size W w') := fun W => by
    have := range_any l h W
    rwa [show ranE l h = 0 by rw [ranE, if_pos hr]] at this
  have HM : Hid (∀ (k : Nat) (p : Nat × Nat), (ran l h)[k]? = some p → p.2 ≤ 16 ∧ p.1 ≤ 65535) := fun k p => ran_mem
  have BG : Hid (∀ a b : Nat, a ≤ 65535 → b ≤ 16 → ∀ W, Places W → Calls Tryd.prog 75 #[.int .i64 f, .int .u32 (a : Int), .int .i64 (b : Int)] W fun e w' => e = .returned (.agg (cv (pxV f a b) (pxM f b))) ∧ Below W.heap.size W w') := fun a b ha hb W hW => begins_at f a b W (by omega) (by omega) (by rw [hs]; exact Nat.lt_of_le_of_lt ha (by decide)) (by omega) hW
  have hfew := ran_few l h
  have HP : Hid (Places w) := hP
  have hpos := hP.pos
  obtain ⟨P, hPp⟩ : ∃ P, P = ran l h := ⟨_, rfl⟩
  rw [← hPp] at R1 HM hfew ⊢
  obtain ⟨n, hn⟩ : ∃ n, n = P.length := ⟨_, rfl⟩
  have HN : Hid (n = P.length) := hn
  clear hPp hs hP hr
  rcases hf with rfl | rfl
  · go_enter Tryd.func54, Tryd.ntmps54
    go_wp2_with fail
    refine (R1.out _).mono ?_
    rintro e w3 ⟨u, rfl, ho3, hb3⟩
    have S3 := sp_of ho3
    obtain ⟨o, cap, rfl, _, hcap⟩ := S3.slice
    rw [← hn] at S3 hfew ⊢
    have HS3 : Hid (Sp w3 (.slice o n cap) P) := S3
    clear S3 ho3 hn
    go_wp2_with fail
    go_loopw [10, 30] (fun out i wr => ∃ k : Nat, k ≤ n ∧ i = .int .i64 (k : Int) ∧ ∃ D, D = portC 2 (P.take k) ∧ D.length ≤ k ∧ wr.ownsRow w3.heap.size 33 26 out D.length (ccells D) ∧ Below w3.heap.size w3 wr) (fun _ i _ => n - (intOf i).toNat)
    case atStart => exact ⟨0, Nat.zero_le _, rfl, [], rfl, Nat.le_refl _, World.ownsRow_nil _ _ _ _, Below.refl _ _⟩
    case round =>
      obtain ⟨k, hk, rfl, D, hD, hDl, hown, hb⟩ := hrel
      have HD : Hid (D = portC 2 (P.take k)) := hD
      have OWN : Hid (wr.ownsRow w3.heap.size 33 26 u10 D.length (ccells D)) := hown
      have B1 := hb3.trans (hb.mono hb3.size)
      have hz := B1.size
      clear hD hown
      by_cases hlt : k < n
      · obtain ⟨g, off, cur, t, fr, p, rfl, hg, hc, hpk⟩ := HS3.out.at k hlt
        have hp2 := HM.out k p hpk
        have k1 : wr.heap[g]? = some (.cells cur t fr) := (hb.block g (Array.getElem?_eq_some_iff.1 hg).1).trans hg
        have HT : Hid (portC 2 (P.take (k + 1)) = portC 2 (P.take k) ++ [(pxV 2 p.1 p.2, pxM 2 p.2)]) := portC_take hpk
        obtain ⟨a, b⟩ := p
        simp only at hp2 hc HT
        have H1 : Hid (∀ j, j < 2 → cur[off + k * 2 + j]? = (pv (a : Int) (b : Int))[j]?) := hc
        have B2 := B1.alloc B1.size (.cells (pv (a : Int) (b : Int)) 137)
        have DG : Hid (∀ W, Places W → Calls Tryd.prog 75 #[.int .i64 2, .int .u32 (a : Int), .int .i64 (b : Int)] W fun e w' => e = .returned (.agg (cv (pxV 2 a b) (pxM 2 b))) ∧ Below W.heap.size W w') := BG.out a b hp2.2 hp2.1
        have hVl := (pxV_byt 2 a b).1
        have hMl := (pxM_byt 2 b).1
        obtain ⟨V, hV⟩ : ∃ V, V = pxV 2 a b := ⟨_, rfl⟩
        obtain ⟨M, hM⟩ : ∃ M, M = pxM 2 b := ⟨_, rfl⟩
        rw [← hV] at DG HT hVl
        rw [← hM] at DG HT hMl
        have OWN2 : Hid ((wr.alloc (.cells (pv (a : Int) (b : Int)) 137)).ownsRow w3.heap.size 33 26 u10 D.length (ccells D)) := OWN.out.alloc _
        have HPL : Hid (Places (wr.alloc (.cells (pv (a : Int) (b : Int)) 137))) := HP.out.later hpos B2
        have hb4 := hb.alloc hb.size (.cells (pv (a : Int) (b : Int)) 137)
        obtain ⟨ha1, ha2⟩ := hp2
        clear hg hc hpk hV hM hb OWN
        go_wp2_with (first
          | (refine wl_loadP rfl _ rfl g (off + k * 2) rfl cur t fr (a : Int) (b : Int) k1 H1.out ?_))
        refine (DG.out _ HPL.out).mono ?_
        rintro e w5 ⟨rfl, hb5⟩
        have B5 := B2.trans (hb5.mono B2.size)
        have hb6 := hb4.trans (hb5.mono hb4.size)
        have OWN5 : Hid (w5.ownsRow w3.heap.size 33 26 u10 D.length (ccells D)) := own_below OWN2.out hb5
        have hz5 := B5.size
        have hz6 := hb6.size
        clear hb5 OWN2 B2 hb4 k1 HPL DG
        go_wp2_with (first
          | (refine wl_build1 rfl _ rfl V M hVl hMl rfl ?_)
          | (at_builtin; refine of_stopped ?_))
        unfold Stopped
        have c7 := heap_new w5 (.cells (cv V M) 33) _ rfl
        have B7 := B5.alloc B5.size (.cells (cv V M) 33)
        have hb7 := hb6.alloc hb6.size (.cells (cv V M) 33)
        have OWN7 : Hid ((w5.alloc (.cells (cv V M) 33)).ownsRow w3.heap.size 33 26 u10 D.length (ccells D)) := OWN5.out.alloc _
        refine wl_append1 rfl _ _ rfl w3.heap.size _ D V M hVl hMl rfl OWN7.out _ 1 rfl c7 (by omega) (by simp; omega) ?_
        intro v' w8 hown8 hgr hat
        have hb8 : Below w3.heap.size w3 w8 := hb7.grown hgr (by simp; omega) (fun q hq => (OWN7.out.lt q hq).1)
        have HD8 : Hid (D ++ [(V, M)] = portC 2 (P.take (k + 1))) := by
          show _ = _
          rw [HT.out, HD.out]
        have OWN8 : Hid (w8.ownsRow w3.heap.size 33 26 v' (D ++ [(V, M)]).length (ccells (D ++ [(V, M)]))) := hown8
        have HL8 : Hid ((D ++ [(V, M)]).length ≤ k + 1) := by
          show _ ≤ _
          rw [List.length_append]; simpa using hDl
        simp only [Act.put, List.setIfInBounds_toArray, List.set_cons_succ, List.set_cons_zero]
        clear hown8 hgr hat c7 B7 hb7 OWN7 OWN5
        go_wp2_with fail
        go_roundw
        case rel => exact ⟨k + 1, by omega, by go_num, D ++ [(V, M)], HD8.out, HL8.out, OWN8.out, hb8⟩
        case measure => simp [intOf]; omega
      · obtain rfl : k = n := by omega
        have HE : Hid (D = portC 2 P) := by
          show _ = _
          rw [HD.out, HN.out, List.take_length]
        go_wp2_with fail
        go_ret2
        refine ⟨u10, rfl, ?_, B1⟩
        rw [← HE.out]
        exact own_base OWN.out hb3.size
  · go_enter Tryd.func54, Tryd.ntmps54
    go_wp2_with fail
    refine (R1.out _).mono ?_
    rintro e w3 ⟨u, rfl, ho3, hb3⟩
    have S3 := sp_of ho3
    obtain ⟨o, cap, rfl, _, hcap⟩ := S3.slice
    rw [← hn] at S3 hfew ⊢
    have HS3 : Hid (Sp w3 (.slice o n cap) P) := S3
    clear S3 ho3 hn
    go_wp2_with fail
    go_loopw [10, 30] (fun out i wr => ∃ k : Nat, k ≤ n ∧ i = .int .i64 (k : Int) ∧ ∃ D, D = portC 3 (P.take k) ∧ D.length ≤ k ∧ wr.ownsRow w3.heap.size 33 26 out D.length (ccells D) ∧ Below w3.heap.size w3 wr) (fun _ i _ => n - (intOf i).toNat)
    case atStart => exact ⟨0, Nat.zero_le _, rfl, [], rfl, Nat.le_refl _, World.ownsRow_nil _ _ _ _, Below.refl _ _⟩
    case round =>
      obtain ⟨k, hk, rfl, D, hD, hDl, hown, hb⟩ := hrel
      have HD : Hid (D = portC 3 (P.take k)) := hD
      have OWN : Hid (wr.ownsRow w3.heap.size 33 26 u10 D.length (ccells D)) := hown
      have B1 := hb3.trans (hb.mono hb3.size)
      have hz := B1.size
      clear hD hown
      by_cases hlt : k < n
      · obtain ⟨g, off, cur, t, fr, p, rfl, hg, hc, hpk⟩ := HS3.out.at k hlt
        have hp2 := HM.out k p hpk
        have k1 : wr.heap[g]? = some (.cells cur t fr) := (hb.block g (Array.getElem?_eq_some_iff.1 hg).1).trans hg
        have HT : Hid (portC 3 (P.take (k + 1)) = portC 3 (P.take k) ++ [(pxV 3 p.1 p.2, pxM 3 p.2)]) := portC_take hpk
        obtain ⟨a, b⟩ := p
        simp only at hp2 hc HT
        have H1 : Hid (∀ j, j < 2 → cur[off + k * 2 + j]? = (pv (a : Int) (b : Int))[j]?) := hc
        have B2 := B1.alloc B1.size (.cells (pv (a : Int) (b : Int)) 137)
        have DG : Hid (∀ W, Places W → Calls Tryd.prog 75 #[.int .i64 3, .int .u32 (a : Int), .int .i64 (b : Int)] W fun e w' => e = .returned (.agg (cv (pxV 3 a b) (pxM 3 b))) ∧ Below W.heap.size W w') := BG.out a b hp2.2 hp2.1
        have hVl := (pxV_byt 3 a b).1
        have hMl := (pxM_byt 3 b).1
        obtain ⟨V, hV⟩ : ∃ V, V = pxV 3 a b := ⟨_, rfl⟩
        obtain ⟨M, hM⟩ : ∃ M, M = pxM 3 b := ⟨_, rfl⟩
        rw [← hV] at DG HT hVl
        rw [← hM] at DG HT hMl
        have OWN2 : Hid ((wr.alloc (.cells (pv (a : Int) (b : Int)) 137)).ownsRow w3.heap.size 33 26 u10 D.length (ccells D)) := OWN.out.alloc _
        have HPL : Hid (Places (wr.alloc (.cells (pv (a : Int) (b : Int)) 137))) := HP.out.later hpos B2
        have hb4 := hb.alloc hb.size (.cells (pv (a : Int) (b : Int)) 137)
        obtain ⟨ha1, ha2⟩ := hp2
        clear hg hc hpk hV hM hb OWN
        go_wp2_with (first
          | (refine wl_loadP rfl _ rfl g (off + k * 2) rfl cur t fr (a : Int) (b : Int) k1 H1.out ?_))
        refine (DG.out _ HPL.out).mono ?_
        rintro e w5 ⟨rfl, hb5⟩
        have B5 := B2.trans (hb5.mono B2.size)
        have hb6 := hb4.trans (hb5.mono hb4.size)
        have OWN5 : Hid (w5.ownsRow w3.heap.size 33 26 u10 D.length (ccells D)) := own_below OWN2.out hb5
        have hz5 := B5.size
        have hz6 := hb6.size
        clear hb5 OWN2 B2 hb4 k1 HPL DG
        go_wp2_with (first
          | (refine wl_build1 rfl _ rfl V M hVl hMl rfl ?_)
          | (at_builtin; refine of_stopped ?_))
        unfold Stopped
        have c7 := heap_new w5 (.cells (cv V M) 33) _ rfl
        have B7 := B5.alloc B5.size (.cells (cv V M) 33)
        have hb7 := hb6.alloc hb6.size (.cells (cv V M) 33)
        have OWN7 : Hid ((w5.alloc (.cells (cv V M) 33)).ownsRow w3.heap.size 33 26 u10 D.length (ccells D)) := OWN5.out.alloc _
        refine wl_append1 rfl _ _ rfl w3.heap.size _ D V M hVl hMl rfl OWN7.out _ 1 rfl c7 (by omega) (by simp; omega) ?_
        intro v' w8 hown8 hgr hat
        have hb8 : Below w3.heap.size w3 w8 := hb7.grown hgr (by simp; omega) (fun q hq => (OWN7.out.lt q hq).1)
        have HD8 : Hid (D ++ [(V, M)] = portC 3 (P.take (k + 1))) := by
          show _ = _
          rw [HT.out, HD.out]
        have OWN8 : Hid (w8.ownsRow w3.heap.size 33 26 v' (D ++ [(V, M)]).length (ccells (D ++ [(V, M)]))) := hown8
        have HL8 : Hid ((D ++ [(V, M)]).length ≤ k + 1) := by
          show _ ≤ _
          rw [List.length_append]; simpa using hDl
        simp only [Act.put, List.setIfInBounds_toArray, List.set_cons_succ, List.set_cons_zero]
        clear hown8 hgr hat c7 B7 hb7 OWN7 OWN5
        go_wp2_with fail
        go_roundw
        case rel => exact ⟨k + 1, by omega, by go_num, D ++ [(V, M)], HD8.out, HL8.out, OWN8.out, hb8⟩
        case measure => simp [intOf]; omega
      · obtain rfl : k = n := by omega
        have HE : Hid (D = portC 3 P) := by
          show _ = _
          rw [HD.out, HN.out, List.take_length]
        go_wp2_with fail
        go_ret2
        refine ⟨u10, rfl, ?_, B1⟩
        rw [← HE.out]
        exact own_base OWN.out hb3.size

set_option maxHeartbeats 1000000 in
theorem ports_field (f l h : Int) (hf : ¬ (f = 2 ∨ f = 3)) (w : World) :
    Calls Tryd.prog 54 #[.int .i64 f, .int .i64 l, .int .i64 h] w fun e w' => e = .returned (.tuple #[.slice none 0 0, .int .i64 1]) ∧ w' = w := by
  have n2 : (f != 2) = true := by simp; omega
  have n3 : (f != 3) = true := by simp; omega
  clear hf
  go_enter Tryd.func54, Tryd.ntmps54
  go_wp2_with fail
  go_ret2
  exact ⟨rfl, rfl⟩

set_option maxHeartbeats 1000000 in
theorem ports_range (f l h : Int) (hf : f = 2 ∨ f = 3) (hr : isR l h = false) (w : World) :
    Calls Tryd.prog 54 #[.int .i64 f, .int .i64 l, .int .i64 h] w fun e w' => e = .returned (.tuple #[.slice none 0 0, .int .i64 10]) ∧ w' = w := by
  have R1 : Hid (∀ W, Calls Tryd.prog 74 #[.int .i64 l, .int .i64 h] W fun e w' => e = .returned (.tuple #[.slice none 0 0, .int .i64 10]) ∧ w' = W) := fun W => range_no l h (fun hc => by rw [(isR_iff l h).2 hc] at hr; cases hr) W
  clear hr
  rcases hf with rfl | rfl
  all_goals
    go_enter Tryd.func54, Tryd.ntmps54
    go_wp2_with (first
      | (go_at_call 74; refine (R1.out _).mono ?_; rintro e w' ⟨rfl, rfl⟩))
    go_ret2
    exact ⟨rfl, rfl⟩

/-- A range of a field of ports as cubes, none where there is none. -/
def portP (f l h : Int) : List (List Int × List Int) := if decide (f = 2 ∨ f = 3) && isR l h then portC f (ran l h) else []
def portE (f l h : Int) : Int := if decide (f = 2 ∨ f = 3) then (if isR l h then 0 else 10) else 1
theorem ports_any (f l h : Int) (w : World) (hP : Places w) :
    Calls Tryd.prog 54 #[.int .i64 f, .int .i64 l, .int .i64 h] w fun e w' => ∃ u, e = .returned (.tuple #[u, .int .i64 (portE f l h)]) ∧ Sl w' u (portP f l h) ∧ Below w.heap.size w w' := by
  have none0 : ∀ w' : World, Sl w' (.slice none 0 0) [] := fun w' => sl_of (C := []) (World.ownsRow_nil w' w.heap.size _ _) (fun c hc => absurd hc (by simp))
  unfold portP portE
  by_cases hf : f = 2 ∨ f = 3
  · rw [decide_eq_true hf, if_pos rfl, Bool.true_and]
    cases hr : isR l h
    · refine (ports_range f l h hf hr w).mono ?_
      rintro e w' ⟨rfl, rfl⟩
      exact ⟨_, rfl, none0 _, Below.refl _ _⟩
    · refine (ports_ok f l h hf hr w hP).mono ?_
      rintro e w' ⟨u, rfl, ho, hb⟩
      exact ⟨u, rfl, sl_of ho (byts_portC _ _), hb⟩
  · rw [decide_eq_false hf, if_neg (by simp), Bool.false_and]
    refine (ports_field f l h hf w).mono ?_
    rintro e w' ⟨rfl, rfl⟩
    exact ⟨_, rfl, none0 _, Below.refl _ _⟩
end Go.Proofs.YtnbklmmampdbfaaDoor
namespace Go.Proofs.YtnbklmmampdbfaaDoor
open Go Go.RowKit
set_option maxRecDepth 20000

set_option maxHeartbeats 1000000 in
theorem proto_ok (n : Nat) (w : World) (hn : n ≤ 255) (hP : Places w) :
    Calls Tryd.prog 78 #[.int .i64 (n : Int)] w fun e w' => e = .returned (.tuple #[.agg (cv (pxV 4 n 8) (pxM 4 8)), .int .i64 0]) ∧ Below w.heap.size w w' := by
  have BG : Hid (∀ W, Places W → Calls Tryd.prog 75 #[.int .i64 4, .int .u32 (n : Int), .int .i64 8] W fun e w' => e = .returned (.agg (cv (pxV 4 n 8) (pxM 4 8))) ∧ Below W.heap.size W w') := fun W hW => begins_at 4 n 8 W (by omega) (by omega) (by rw [size_4]; omega) (by decide) hW
  have B0 : Below w.heap.size w (w.alloc (.cells zeroC 33)) := (Below.refl _ _).alloc (Nat.le_refl _) _
  have o0 := heap_new w (.cells zeroC 33) _ rfl
  have HP : Hid (Places (w.alloc (.cells zeroC 33))) := hP.later hP.pos B0
  have hVl := (pxV_byt 4 n 8).1
  have hMl := (pxM_byt 4 8).1
  obtain ⟨V, hV⟩ : ∃ V, V = pxV 4 n 8 := ⟨_, rfl⟩
  obtain ⟨M, hM⟩ : ∃ M, M = pxM 4 8 := ⟨_, rfl⟩
  rw [← hV] at BG hVl ⊢
  rw [← hM] at BG hMl ⊢
  clear hP hV hM
  go_enter Tryd.func78, Tryd.ntmps78
  go_wp2_with fail
  refine (BG.out _ HP.out).mono ?_
  rintro e w1 ⟨rfl, hb1⟩
  have o1 : w1.heap[w.heap.size]? = some (.cells zeroC 33 (0, 0)) := by rw [hb1.block _ (by simp)]; exact o0
  have B1 := B0.trans (hb1.mono B0.size)
  go_wp2_with (first
    | (refine wl_storeC rfl _ _ rfl w.heap.size V M rfl rfl _ o1 rfl hVl hMl _ rfl ?_))
  refine retCe (p := 2) (u := 3) rfl rfl w.heap.size rfl V M hVl hMl (setRow_heap _ _ _ _ _ _ o1) _ rfl ⟨rfl, ?_⟩
  exact below_setRow B1 (Nat.le_refl _) _

set_option maxHeartbeats 1000000 in
theorem proto_no (n : Int) (w : World) (h : ¬ (0 ≤ n ∧ n ≤ 255)) :
    Calls Tryd.prog 78 #[.int .i64 n] w fun e w' => e = .returned (.tuple #[.agg (cv Z Z), .int .i64 10]) ∧ Below w.heap.size w w' := by
  have hZl := Z_byt.1
  by_cases hk : n < 0
  · go_enter Tryd.func78, Tryd.ntmps78
    go_wp2_with (first
      | (refine wl_storeC rfl _ _ rfl w.heap.size Z Z rfl (by rw [← zeroC_eq]; rfl) _ (heap_new _ _ _ rfl) rfl hZl hZl _ (setRow_new _ _ _ _ _ rfl) ?_))
    refine retCe (p := 2) (u := 3) rfl rfl w.heap.size rfl Z Z hZl hZl (heap_new _ _ _ rfl) _ rfl ⟨rfl, (Below.refl _ _).alloc (Nat.le_refl _) _⟩
  · have hk2 : n > 255 := by omega
    clear h
    go_enter Tryd.func78, Tryd.ntmps78
    go_wp2_with (first
      | (refine wl_storeC rfl _ _ rfl w.heap.size Z Z rfl (by rw [← zeroC_eq]; rfl) _ (heap_new _ _ _ rfl) rfl hZl hZl _ (setRow_new _ _ _ _ _ rfl) ?_))
    refine retCe (p := 2) (u := 3) rfl rfl w.heap.size rfl Z Z hZl hZl (heap_new _ _ _ rfl) _ rfl ⟨rfl, (Below.refl _ _).alloc (Nat.le_refl _) _⟩

/-- The protocol of a header. -/
theorem has_proto (H : List Int) (hH : Byt H) (n : Nat) (hn : n ≤ 255) : has (pxV 4 n 8) (pxM 4 8) H = decide (n = fld H 4) := by
  have := has_field H hH 4 n 8 (by omega) (by omega) (by rw [size_4]; omega) (by decide)
  rw [show 8 * sizeOfF 4 - 8 = 0 from rfl, Nat.pow_zero, Nat.div_one, Nat.div_one] at this
  exact this

end Go.Proofs.YtnbklmmampdbfaaDoor
namespace Go.Proofs.YtnbklmmampdbfaaDoor
open Go Go.RowKit
set_option maxRecDepth 20000

/-- What a cube has together with each of a list. -/
def crossR (c : List Int × List Int) (B : List (List Int × List Int)) : List (List Int × List Int) := (B.filter fun d => meets c.1 c.2 d.1 d.2).map fun d => (meetV c.1 c.2 d.1 d.2, meetM c.2 d.2)
/-- What each of one list has together with each of another one. -/
def crossL (A B : List (List Int × List Int)) : List (List Int × List Int) := A.flatMap fun c => crossR c B
theorem crossR_take {c d : List Int × List Int} {B : List (List Int × List Int)} {k : Nat} (hk : B[k]? = some d) : crossR c (B.take (k + 1)) = crossR c (B.take k) ++ (if meets c.1 c.2 d.1 d.2 then [(meetV c.1 c.2 d.1 d.2, meetM c.2 d.2)] else []) := by
  unfold crossR
  rw [List.take_add_one, hk, List.filter_append, List.map_append]
  congr 1
  cases h : meets c.1 c.2 d.1 d.2 <;> simp [h]
theorem crossL_take {c : List Int × List Int} {A B : List (List Int × List Int)} {k : Nat} (hk : A[k]? = some c) : crossL (A.take (k + 1)) B = crossL (A.take k) B ++ crossR c B := by
  unfold crossL
  rw [List.take_add_one, hk]
  simp
theorem crossR_le (c : List Int × List Int) (B : List (List Int × List Int)) (k : Nat) : (crossR c (B.take k)).length ≤ (crossR c B).length := by
  conv => rhs; rw [← List.take_append_drop k B]
  unfold crossR
  rw [List.filter_append, List.map_append, List.length_append]
  omega
theorem crossL_le (A B : List (List Int × List Int)) (k : Nat) : (crossL (A.take k) B).length ≤ (crossL A B).length := by
  conv => rhs; rw [← List.take_append_drop k A]
  unfold crossL
  rw [List.flatMap_append, List.length_append]
  omega
/-- So much as came to be is not more than all. -/
theorem cross_part {c : List Int × List Int} {A B : List (List Int × List Int)} {i : Nat} (hi : A[i]? = some c) (j : Nat) : (crossL (A.take i) B ++ crossR c (B.take j)).length ≤ (crossL A B).length := by
  have h1 := crossL_le A B (i + 1)
  rw [crossL_take hi, List.length_append] at h1
  have h2 := crossR_le c B j
  rw [List.length_append]
  omega

/-- What a number of cubes counts as. -/
def bnd4 (m : Int) : Nat := (min (max m 0) 2048).toNat
theorem bnd4_le (m : Int) : bnd4 m ≤ 2048 := by unfold bnd4; omega
theorem bnd4_eq (m : Int) : ((bnd4 m : Nat) : Int) = min (max m 0) 2048 := by unfold bnd4; omega

set_option maxHeartbeats 4000000 in
theorem cross_any (A B : List (List Int × List Int)) (hA : A.length ≤ 1000) (hB : B.length ≤ 1000) (m : Int) (va vb : Value) (w : World) (hsa : Sl w va A) (hsb : Sl w vb B) :
    Calls Tryd.prog 76 #[va, vb, .int .i64 m] w fun e w' => ((∃ u, e = .returned (.tuple #[u, .int .i64 0]) ∧ (crossL A B).length ≤ bnd4 m ∧ w'.ownsRow w.heap.size 33 26 u (crossL A B).length (ccells (crossL A B))) ∨ (e = .returned (.tuple #[.slice none 0 0, .int .i64 4]) ∧ bnd4 m < (crossL A B).length)) ∧ Below w.heap.size w w' := by
  obtain ⟨oa, capa, rfl, _, _⟩ := hsa.slice
  obtain ⟨ob, capb, rfl, _, _⟩ := hsb.slice
  obtain ⟨na, hna⟩ : ∃ n, n = A.length := ⟨_, rfl⟩
  obtain ⟨nb, hnb⟩ : ∃ n, n = B.length := ⟨_, rfl⟩
  rw [← hna] at hsa hA ⊢
  rw [← hnb] at hsb hB ⊢
  have HNA : Hid (na = A.length) := hna
  have HNB : Hid (nb = B.length) := hnb
  have HSA : Hid (Sl w (.slice oa na capa) A) := hsa
  have HSB : Hid (Sl w (.slice ob nb capb) B) := hsb
  obtain ⟨q, hq⟩ : ∃ q, q = max m 0 := ⟨_, rfl⟩
  have HQ : Hid (q = max m 0) := hq
  obtain ⟨most, hmo⟩ : ∃ most, most = bnd4 m := ⟨_, rfl⟩
  have hmost : most ≤ 2048 := by rw [hmo]; exact bnd4_le m
  have HMO : Hid ((most : Int) = min q 2048) := by show _ = _; rw [hmo, hq]; exact bnd4_eq m
  rw [← hmo]
  clear hsa hsb hna hnb hq hmo
  go_enter Tryd.func76, Tryd.ntmps76
  go_wp2_with (first
    | (refine wl_maxI rfl _ _ rfl m 0 q rfl rfl HQ.out ?_)
    | (refine wl_minI rfl _ _ rfl q 2048 (most : Int) rfl rfl HMO.out ?_))
  go_loopw [8, 20] (fun out i wr => ∃ k : Nat, k ≤ na ∧ i = .int .i64 (k : Int) ∧ (crossL (A.take k) B).length ≤ most ∧ wr.ownsRow w.heap.size 33 26 out (crossL (A.take k) B).length (ccells (crossL (A.take k) B)) ∧ Below w.heap.size w wr) (fun _ i _ => na - (intOf i).toNat)
  case atStart => exact ⟨0, Nat.zero_le _, rfl, Nat.zero_le _, World.ownsRow_nil _ _ _ _, Below.refl _ _⟩
  case round =>
    obtain ⟨k, hk, rfl, hle, hown, hb⟩ := hrel
    obtain ⟨wo, hwo⟩ : ∃ wo : World, wo = wr := ⟨_, rfl⟩
    rw [← hwo] at hown hb ⊢
    clear hwo wr
    by_cases hlt : k < na
    · obtain ⟨g, off, cur, t, fr, U, N, rfl, hg, hc, hAk, hU, hN⟩ := HSA.out.at k hlt
      have hUl := hU.1
      have hNl := hN.1
      have HU : Hid (Byt U ∧ Byt N) := ⟨hU, hN⟩
      have hg' : wo.heap[g]? = some (.cells cur t fr) := (hb.block g (Array.getElem?_eq_some_iff.1 hg).1).trans hg
      have HC : Hid (∀ j, j < 26 → cur[off + k * 26 + j]? = (cv U N)[j]?) := hc
      have HT : Hid (crossL (A.take (k + 1)) B = crossL (A.take k) B ++ crossR (U, N) B) := crossL_take hAk
      have HPT : Hid (∀ j, (crossL (A.take k) B ++ crossR (U, N) (B.take j)).length ≤ (crossL A B).length) := cross_part hAk
      obtain ⟨X, hX⟩ : ∃ X, X = crossL (A.take k) B := ⟨_, rfl⟩
      rw [← hX] at hle hown HT HPT
      have OWN : Hid (wo.ownsRow w.heap.size 33 26 u8 X.length (ccells X)) := hown
      have c0 := heap_new wo (.cells (cv U N) 33) _ rfl
      have B1 := hb.alloc hb.size (.cells (cv U N) 33)
      have HNE : Hid (u8.ownBlock ≠ some wo.heap.size) := own_ne hown (Nat.le_refl _)
      have OWN1 : Hid ((wo.alloc (.cells (cv U N) 33)).ownsRow w.heap.size 33 26 u8 X.length (ccells X)) := hown.alloc _
      have zo := hb.size
      clear hg hc hAk hU hN hX hown hb
      go_wp2_with (first
        | (refine wl_loadCat rfl _ rfl g (off + k * 26) rfl cur t fr U N hUl hNl hg' HC.out ?_)
        | (refine wl_storeC rfl _ _ rfl wo.heap.size U N rfl rfl _ (heap_new _ _ _ rfl) rfl hUl hNl _ (setRow_new _ _ _ _ _ rfl) ?_))
      go_loopw [8, 26] (fun out i wr => ∃ j : Nat, j ≤ nb ∧ i = .int .i64 (j : Int) ∧ ∃ D, D = X ++ crossR (U, N) (B.take j) ∧ D.length ≤ most ∧ wr.ownsRow w.heap.size 33 26 out D.length (ccells D) ∧ out.ownBlock ≠ some wo.heap.size ∧ wr.heap[wo.heap.size]? = some (.cells (cv U N) 33 (0, 0)) ∧ Below w.heap.size w wr) (fun _ i _ => nb - (intOf i).toNat)
      case atStart => exact ⟨0, Nat.zero_le _, rfl, X, by simp [crossR], hle, OWN1.out, HNE.out, c0, B1⟩
      case round =>
        clear c0 B1 OWN1 HNE hg' OWN hle
        obtain ⟨j, hj, rfl, D, hD, hle, hown, hne, c0, hb⟩ := hrel
        have HD : Hid (D = X ++ crossR (U, N) (B.take j)) := hD
        obtain ⟨o8, cap8, rfl⟩ := own_slice hown
        obtain ⟨nd, hnd⟩ : ∃ nd, nd = D.length := ⟨_, rfl⟩
        have HND : Hid (nd = D.length) := hnd
        rw [← hnd] at hown hne hle ⊢
        have OWN : Hid (wr.ownsRow w.heap.size 33 26 (.slice o8 nd cap8) nd (ccells D)) := hown
        have HNE : Hid ((Value.slice o8 nd cap8).ownBlock ≠ some wo.heap.size) := hne
        have z0 := (Array.getElem?_eq_some_iff.1 c0).1
        clear hD hne hnd
        by_cases hjl : j < nb
        · obtain ⟨g2, off2, cur2, t2, fr2, U2, N2, rfl, hg2, hc2, hBj, hU2, hN2⟩ := HSB.out.at j hjl
          have hUl2 := hU2.1
          have hNl2 := hN2.1
          have h2g : wr.heap[g2]? = some (.cells cur2 t2 fr2) := (hb.block g2 (Array.getElem?_eq_some_iff.1 hg2).1).trans hg2
          have HC2 : Hid (∀ i, i < 26 → cur2[off2 + j * 26 + i]? = (cv U2 N2)[i]?) := hc2
          have HS : Hid (crossR (U, N) (B.take (j + 1)) = crossR (U, N) (B.take j) ++ (if meets U N U2 N2 then [(meetV U N U2 N2, meetM N N2)] else [])) := crossR_take hBj
          have ME : Hid (∀ W, Calls Tryd.prog 36 #[.agg (cv U N), .agg (cv U2 N2)] W fun e w' => e = .returned (meetR U N U2 N2) ∧ Below W.heap.size W w') := meet_any U N U2 N2 HU.out.1 HU.out.2 hU2 hN2
          have k0 := heap_past wr (.cells (cv U2 N2) 33) _ _ c0
          have k1 := heap_new wr (.cells (cv U2 N2) 33) _ rfl
          have B2 := hb.alloc hb.size (.cells (cv U2 N2) 33)
          have OWN2 : Hid ((wr.alloc (.cells (cv U2 N2) 33)).ownsRow w.heap.size 33 26 (.slice o8 nd cap8) nd (ccells D)) := hown.alloc _
          clear hg2 hc2 hBj hU2 hN2 hown OWN
          cases hm : meets U N U2 N2
          · rw [meetR_no _ _ _ _ hm] at ME
            rw [hm] at HS
            have hZl := Z_byt.1
            go_wp2_with (first
              | (refine wl_loadCat rfl _ rfl g2 (off2 + j * 26) rfl cur2 t2 fr2 U2 N2 hUl2 hNl2 h2g HC2.out ?_)
              | (refine wl_storeC rfl _ _ rfl wr.heap.size U2 N2 rfl rfl _ (heap_new _ _ _ rfl) rfl hUl2 hNl2 _ (setRow_new _ _ _ _ _ rfl) ?_)
              | (refine wl_loadC rfl _ rfl wr.heap.size rfl U2 N2 k1 hUl2 hNl2 ?_)
              | (refine wl_loadC rfl _ rfl wo.heap.size rfl U N k0 hUl hNl ?_))
            refine (ME.out _).mono ?_
            rintro e w1 ⟨rfl, hb1⟩
            have B3 := B2.trans (hb1.mono B2.size)
            have c1 : w1.heap[wo.heap.size]? = some (.cells (cv U N) 33 (0, 0)) := by rw [hb1.block _ (by simp; omega)]; exact k0
            have c2 := heap_past w1 (.cells (cv Z Z) 33) _ _ c1
            have B4 := B3.alloc B3.size (.cells (cv Z Z) 33)
            have OWN3 : Hid ((w1.alloc (.cells (cv Z Z) 33)).ownsRow w.heap.size 33 26 (.slice o8 nd cap8) nd (ccells D)) := (own_below OWN2.out hb1).alloc _
            clear hb1 k0 k1 B2 OWN2 c1 B3 h2g
            go_wp2_with (first
              | (refine wl_storeC rfl _ _ rfl w1.heap.size Z Z rfl rfl _ (heap_new _ _ _ rfl) rfl hZl hZl _ (setRow_new _ _ _ _ _ rfl) ?_))
            go_roundw
            case rel => exact ⟨j + 1, by omega, by go_num, D, by rw [HS.out, HD.out]; simp, by rw [← HND.out]; exact hle, by rw [← HND.out]; exact OWN3.out, HNE.out, c2, B4⟩
            case measure => simp [intOf]; omega
          · rw [meetR_yes _ _ _ _ hm] at ME
            rw [hm] at HS
            have HAV := (meetV_byt U N U2 N2)
            have HAM := (meetM_byt N N2)
            obtain ⟨AV, hAV⟩ : ∃ AV, AV = meetV U N U2 N2 := ⟨_, rfl⟩
            obtain ⟨AM, hAM⟩ : ∃ AM, AM = meetM N N2 := ⟨_, rfl⟩
            rw [← hAV, ← hAM] at ME HS
            rw [← hAV] at HAV
            rw [← hAM] at HAM
            have hAVl := HAV.1
            have hAMl := HAM.1
            have HS2 : Hid (X ++ crossR (U, N) (B.take (j + 1)) = D ++ [(AV, AM)]) := by
              show _ = _
              rw [HS.out, HD.out]; simp
            have HP2 : Hid ((D ++ [(AV, AM)]).length ≤ (crossL A B).length) := by
              show _ ≤ _
              rw [← HS2.out]; exact HPT.out (j + 1)
            clear HAV HAM hAV hAM
            go_wp2_with (first
              | (refine wl_loadCat rfl _ rfl g2 (off2 + j * 26) rfl cur2 t2 fr2 U2 N2 hUl2 hNl2 h2g HC2.out ?_)
              | (refine wl_storeC rfl _ _ rfl wr.heap.size U2 N2 rfl rfl _ (heap_new _ _ _ rfl) rfl hUl2 hNl2 _ (setRow_new _ _ _ _ _ rfl) ?_)
              | (refine wl_loadC rfl _ rfl wr.heap.size rfl U2 N2 k1 hUl2 hNl2 ?_)
              | (refine wl_loadC rfl _ rfl wo.heap.size rfl U N k0 hUl hNl ?_))
            refine (ME.out _).mono ?_
            rintro e w1 ⟨rfl, hb1⟩
            have B3 := B2.trans (hb1.mono B2.size)
            have c1 : w1.heap[wo.heap.size]? = some (.cells (cv U N) 33 (0, 0)) := by rw [hb1.block _ (by simp; omega)]; exact k0
            have z1 := (Array.getElem?_eq_some_iff.1 c1).1
            have c2 := heap_past w1 (.cells (cv AV AM) 33) _ _ c1
            have c3 := heap_new w1 (.cells (cv AV AM) 33) _ rfl
            have B4 := B3.alloc B3.size (.cells (cv AV AM) 33)
            have OWN3 : Hid ((w1.alloc (.cells (cv AV AM) 33)).ownsRow w.heap.size 33 26 (.slice o8 nd cap8) nd (ccells D)) := (own_below OWN2.out hb1).alloc _
            have hz3 := B3.size
            clear hb1 k0 k1 B2 OWN2 c1 B3 h2g
            by_cases hfull : nd = most
            · go_wp2_with (first
                | (refine wl_storeC rfl _ _ rfl w1.heap.size AV AM rfl rfl _ (heap_new _ _ _ rfl) rfl hAVl hAMl _ (setRow_new _ _ _ _ _ rfl) ?_))
              go_ret2
              refine ⟨.inr ⟨rfl, ?_⟩, B4⟩
              have := HP2.out
              rw [List.length_append, ← HND.out] at this
              simp at this
              omega
            · go_wp2_with (first
                | (refine wl_storeC rfl _ _ rfl w1.heap.size AV AM rfl rfl _ (heap_new _ _ _ rfl) rfl hAVl hAMl _ (setRow_new _ _ _ _ _ rfl) ?_)
                | (refine wl_loadC rfl _ rfl w1.heap.size rfl AV AM c3 hAVl hAMl ?_)
                | (refine wl_build1 rfl _ rfl AV AM hAVl hAMl rfl ?_)
                | (at_builtin; refine of_stopped ?_))
              unfold Stopped
              have c4 := heap_past (w1.alloc (.cells (cv AV AM) 33)) (.cells (cv AV AM) 33) _ _ c2
              have c5 := heap_new (w1.alloc (.cells (cv AV AM) 33)) (.cells (cv AV AM) 33) (w1.heap.size + 1) (by simp)
              have B5 := B4.alloc B4.size (.cells (cv AV AM) 33)
              have OWN5 : Hid (((w1.alloc (.cells (cv AV AM) 33)).alloc (.cells (cv AV AM) 33)).ownsRow w.heap.size 33 26 (.slice o8 nd cap8) D.length (ccells D)) := by
                have := OWN3.out.alloc (.cells (cv AV AM) 33)
                rw [HND.out] at this ⊢
                exact this
              refine wl_append1 rfl _ _ rfl w.heap.size _ D AV AM hAVl hAMl rfl OWN5.out _ 1 rfl c5 (by rw [← HND.out]; omega) (by simp; omega) ?_
              intro v' w2 hown2 hgr hat
              have B6 : Below w.heap.size w w2 := B5.grown hgr (by simp; omega) (fun q hq => (OWN5.out.lt q hq).1)
              have c6 : w2.heap[wo.heap.size]? = some (.cells (cv U N) 33 (0, 0)) := by
                rw [hgr.block _ (by simp; omega) (fun hq => HNE.out hq.symm)]
                exact c4
              have HNE2 : Hid (v'.ownBlock ≠ some wo.heap.size) := by
                rcases hat with h | h
                · show _ ≠ _; rw [h]; exact HNE.out
                · show _ ≠ _; rw [h]; simp; omega
              have OWN6 : Hid (w2.ownsRow w.heap.size 33 26 v' (D ++ [(AV, AM)]).length (ccells (D ++ [(AV, AM)]))) := hown2
              have hl2 : (D ++ [(AV, AM)]).length ≤ most := by rw [List.length_append, ← HND.out]; simp; omega
              have HL2 : Hid ((D ++ [(AV, AM)]).length ≤ most) := hl2
              simp only [Act.put, List.setIfInBounds_toArray, List.set_cons_succ, List.set_cons_zero]
              clear hown2 hgr hat c4 c5 B5 OWN5 c2 c3 B4 OWN3 hl2
              go_wp2_with fail
              go_roundw
              case rel => exact ⟨j + 1, by omega, by go_num, D ++ [(AV, AM)], HS2.out.symm, HL2.out, OWN6.out, HNE2.out, c6, B6⟩
              case measure => simp [intOf]; omega
        · obtain rfl : j = nb := by omega
          have HF : Hid (D = crossL (A.take (k + 1)) B) := by
            show _ = _
            rw [HT.out, HD.out, HNB.out, List.take_length]
          go_wp2_with fail
          go_roundw
          case rel => exact ⟨k + 1, by omega, by go_num, by rw [← HF.out, ← HND.out]; exact hle, by rw [← HF.out, ← HND.out]; exact OWN.out, hb⟩
          case measure => simp [intOf]; omega
    · obtain rfl : k = na := by omega
      have HE : Hid (crossL (A.take k) B = crossL A B) := by
        show _ = _
        rw [HNA.out, List.take_length]
      rw [HE.out] at hle hown
      have OWN : Hid (wo.ownsRow w.heap.size 33 26 u8 (crossL A B).length (ccells (crossL A B))) := hown
      have HLE : Hid ((crossL A B).length ≤ most) := hle
      clear hown hle HE
      go_wp2_with fail
      go_ret2
      exact ⟨.inl ⟨u8, rfl, HLE.out, OWN.out⟩, hb⟩
end Go.Proofs.YtnbklmmampdbfaaDoor
namespace Go.Proofs.YtnbklmmampdbfaaDoor
open Go Go.RowKit
set_option maxRecDepth 20000

abbrev CubeT := List Int × List Int
def allC : CubeT := (Z, Z)
def clip8 (n : Int) : Nat := (min (max n 0) 32).toNat
/-- The cubes of a prefix, and of a protocol. -/
def prefL (f : Int) (v : Int) (n : Int) : List CubeT := [(pxV f v.toNat (clip8 n), pxM f (clip8 n))]
def protL (n : Int) : List CubeT := if n = -1 then [allC] else if 0 ≤ n ∧ n ≤ 255 then [(pxV 4 n.toNat 8, pxM 4 8)] else []
theorem m0_Z : m0 = Z := by rw [Z_eq]; rfl
theorem all8 (w : World) : Calls Tryd.prog 17 #[] w fun e w' => e = .returned (.agg (cv Z Z)) ∧ Below w.heap.size w w' := by
  have := all0 w
  rwa [m0_Z] at this
theorem own_one8 (w : World) (V M : List Int) (hV : Byt V) (hM : Byt M) : (w.alloc (.cells (cv V M) 33)).ownsRow w.heap.size 33 26 (.slice (some ⟨w.heap.size, 0, none⟩) 1 1) 1 (ccells [(V, M)]) := by
  have := World.ownsRow_lit (base := w.heap.size) (e := 33) (size := 26) w (cv V M) 1 (Nat.le_refl _) (by unfold maxLen; omega) (by rw [cv_size _ _ hV.1 hM.1])
  rw [← ccells_one] at this
  exact this
theorem byts_one {V M : List Int} (hV : Byt V) (hM : Byt M) : Byts [(V, M)] := fun c hc => by rw [List.mem_singleton.1 hc]; exact ⟨hV, hM⟩
theorem sl_one8 (w : World) (V M : List Int) (hV : Byt V) (hM : Byt M) : Sl (w.alloc (.cells (cv V M) 33)) (.slice (some ⟨w.heap.size, 0, none⟩) 1 1) [(V, M)] := sl_of (own_one8 w V M hV hM) (byts_one hV hM)
theorem sl_two8 (w : World) (V M : List Int) (hV : Byt V) (hM : Byt M) : Sl ((w.alloc (.cells (cv V M) 33)).alloc (.cells (cv V M) 33)) (.slice (some ⟨w.heap.size + 1, 0, none⟩) 1 1) [(V, M)] := by
  have := sl_one8 (w.alloc (.cells (cv V M) 33)) V M hV hM
  rw [show (w.alloc (.cells (cv V M) 33)).heap.size = w.heap.size + 1 by simp] at this
  exact this
theorem sl_none8 (w : World) : Sl w (.slice none 0 0) [] := sl_of (C := []) (World.ownsRow_nil w w.heap.size _ _) (fun c hc => absurd hc (by simp))

set_option maxHeartbeats 2000000 in
theorem prefix8_any (f v n : Int) (hf : f = 0 ∨ f = 1) (h0 : 0 ≤ v) (h1 : v < 4294967296) (w : World) (hP : Places w) :
    Calls Tryd.prog 56 #[.int .i64 f, .int .u32 v, .int .i64 n] w fun e w' => (∃ u, e = .returned u ∧ Sl w' u (prefL f v n)) ∧ Below w.heap.size w w' := by
  obtain ⟨v', rfl⟩ := Int.eq_ofNat_of_zero_le h0
  obtain ⟨k, hk⟩ : ∃ k, k = clip8 n := ⟨_, rfl⟩
  have PX := prefix_ok f v' k w hf (by omega) (by rw [hk]; unfold clip8; omega) hP
  unfold prefL
  rw [← hk, Int.toNat_natCast]
  have hV := pxV_byt f v' k
  have hM := pxM_byt f k
  obtain ⟨V, hVe⟩ : ∃ V, V = pxV f v' k := ⟨_, rfl⟩
  obtain ⟨M, hMe⟩ : ∃ M, M = pxM f k := ⟨_, rfl⟩
  rw [← hVe] at PX hV ⊢
  rw [← hMe] at PX hM ⊢
  have HPX : Hid (∀ W, W = w → Calls Tryd.prog 77 #[.int .i64 f, .int .u32 (v' : Int), .int .i64 (k : Int)] W fun e w' => e = .returned (.tuple #[.agg (cv V M), .int .i64 0]) ∧ Below w.heap.size w w') := fun W hW => by subst hW; exact PX
  obtain ⟨mx, hmx⟩ : ∃ mx, mx = max n 0 := ⟨_, rfl⟩
  have HMX : Hid (mx = max n 0) := hmx
  have HMN : Hid ((k : Int) = min mx 32) := by show _ = _; rw [hk, hmx]; unfold clip8; omega
  have hVl := hV.1
  have hMl := hM.1
  clear PX hVe hMe hk hP hmx
  go_enter Tryd.func56, Tryd.ntmps56
  go_wp2_with (first
    | (refine wl_maxI rfl _ _ rfl n 0 mx rfl rfl HMX.out ?_)
    | (refine wl_minI rfl _ _ rfl mx 32 (k : Int) rfl rfl HMN.out ?_))
  refine (HPX.out _ rfl).mono ?_
  rintro e w1 ⟨rfl, hb1⟩
  have B1 : Hid (Below w.heap.size w w1) := hb1
  have K1 : Hid ((w1.alloc (.cells (cv V M) 33)).heap[w1.heap.size]? = some (.cells (cv V M) 33 (0, 0))) := heap_new _ _ _ rfl
  clear hb1
  go_wp2_with (first
    | (refine wl_storeC rfl _ _ rfl w1.heap.size V M rfl rfl _ (heap_new _ _ _ rfl) rfl hVl hMl _ (setRow_new _ _ _ _ _ rfl) ?_)
    | (refine wl_loadC rfl _ rfl w1.heap.size rfl V M K1.out hVl hMl ?_)
    | (refine wl_build1 rfl _ rfl V M hVl hMl rfl ?_))
  go_ret
  exact ⟨⟨_, rfl, sl_two8 w1 V M hV hM⟩, (B1.out.alloc B1.out.size _).alloc (by have := B1.out.size; simp; omega) _⟩

set_option maxHeartbeats 2000000 in
theorem protos_any (n : Int) (w : World) (hP : Places w) :
    Calls Tryd.prog 57 #[.int .i64 n] w fun e w' => (∃ u, e = .returned u ∧ Sl w' u (protL n)) ∧ Below w.heap.size w w' := by
  have hZl := Z_byt.1
  by_cases h1 : n = -1
  · subst h1
    have HA : Hid (∀ W, Calls Tryd.prog 17 #[] W fun e w' => e = .returned (.agg (cv Z Z)) ∧ Below W.heap.size W w') := all8
    rw [show protL (-1) = [allC] from rfl]
    go_enter Tryd.func57, Tryd.ntmps57
    go_wp2_with fail
    refine (HA.out _).mono ?_
    rintro e w1 ⟨rfl, hb1⟩
    have B1 : Hid (Below w.heap.size w w1) := hb1
    clear hb1
    go_wp2_with (refine wl_build1 rfl _ rfl Z Z hZl hZl rfl ?_)
    go_ret
    exact ⟨⟨_, rfl, sl_one8 _ Z Z Z_byt Z_byt⟩, B1.out.alloc B1.out.size _⟩
  · have h1' : (n == -1) = false := by simp [h1]
    by_cases h2 : 0 ≤ n ∧ n ≤ 255
    · obtain ⟨k, rfl⟩ := Int.eq_ofNat_of_zero_le h2.1
      have PX := proto_ok k w (by omega) hP
      rw [show protL (k : Int) = [(pxV 4 k 8, pxM 4 8)] by unfold protL; rw [if_neg h1, if_pos h2, Int.toNat_natCast]]
      have hV := pxV_byt 4 k 8
      have hM := pxM_byt 4 8
      obtain ⟨V, hVe⟩ : ∃ V, V = pxV 4 k 8 := ⟨_, rfl⟩
      obtain ⟨M, hMe⟩ : ∃ M, M = pxM 4 8 := ⟨_, rfl⟩
      rw [← hVe] at PX hV ⊢
      rw [← hMe] at PX hM ⊢
      have HPX : Hid (∀ W, W = w → Calls Tryd.prog 78 #[.int .i64 (k : Int)] W fun e w' => e = .returned (.tuple #[.agg (cv V M), .int .i64 0]) ∧ Below w.heap.size w w') := fun W hW => by subst hW; exact PX
      have hVl := hV.1
      have hMl := hM.1
      clear PX hVe hMe hP h1 h2
      go_enter Tryd.func57, Tryd.ntmps57
      go_wp2_with fail
      refine (HPX.out _ rfl).mono ?_
      rintro e w1 ⟨rfl, hb1⟩
      have B1 : Hid (Below w.heap.size w w1) := hb1
      have K1 : Hid ((w1.alloc (.cells (cv V M) 33)).heap[w1.heap.size]? = some (.cells (cv V M) 33 (0, 0))) := heap_new _ _ _ rfl
      clear hb1
      go_wp2_with (first
        | (refine wl_storeC rfl _ _ rfl w1.heap.size V M rfl rfl _ (heap_new _ _ _ rfl) rfl hVl hMl _ (setRow_new _ _ _ _ _ rfl) ?_)
        | (refine wl_loadC rfl _ rfl w1.heap.size rfl V M K1.out hVl hMl ?_)
        | (refine wl_build1 rfl _ rfl V M hVl hMl rfl ?_))
      go_ret
      exact ⟨⟨_, rfl, sl_two8 w1 V M hV hM⟩, (B1.out.alloc B1.out.size _).alloc (by have := B1.out.size; simp; omega) _⟩
    · have PX := proto_no n w h2
      rw [show protL n = [] by unfold protL; rw [if_neg h1, if_neg h2]]
      have HPX : Hid (∀ W, W = w → Calls Tryd.prog 78 #[.int .i64 n] W fun e w' => e = .returned (.tuple #[.agg (cv Z Z), .int .i64 10]) ∧ Below w.heap.size w w') := fun W hW => by subst hW; exact PX
      clear PX hP h1 h2
      go_enter Tryd.func57, Tryd.ntmps57
      go_wp2_with fail
      refine (HPX.out _ rfl).mono ?_
      rintro e w1 ⟨rfl, hb1⟩
      have B1 : Hid (Below w.heap.size w w1) := hb1
      clear hb1
      go_wp2_with (refine wl_storeC rfl _ _ rfl w1.heap.size Z Z rfl rfl _ (heap_new _ _ _ rfl) rfl hZl hZl _ (setRow_new _ _ _ _ _ rfl) ?_)
      go_ret
      exact ⟨⟨_, rfl, sl_none8 _⟩, B1.out.alloc B1.out.size _⟩

theorem crossR_len (c : CubeT) (B : List CubeT) : (crossR c B).length ≤ B.length := by
  unfold crossR
  rw [List.length_map]
  exact List.length_filter_le _ _
theorem crossL_len (A B : List CubeT) : (crossL A B).length ≤ A.length * B.length := by
  induction A with
  | nil => simp [crossL]
  | cons c A ih =>
    have h := crossR_len c B
    have e : crossL (c :: A) B = crossR c B ++ crossL A B := rfl
    rw [e, List.length_append, List.length_cons, Nat.add_mul, Nat.one_mul]
    omega
/-- Lists crossed, one behind the other. -/
def meetsL (L : List (List CubeT)) : List CubeT := L.foldl crossL [allC]
theorem meetsL_take {L : List (List CubeT)} {k : Nat} {l : List CubeT} (h : L[k]? = some l) : meetsL (L.take (k + 1)) = crossL (meetsL (L.take k)) l := by
  unfold meetsL
  rw [List.take_add_one, h, List.foldl_append]
  rfl
theorem byts_crossL (A B : List CubeT) : Byts (crossL A B) := fun c hc => by
  unfold crossL crossR at hc
  obtain ⟨a, ha, hc⟩ := List.mem_flatMap.1 hc
  obtain ⟨b, hb, rfl⟩ := List.mem_map.1 hc
  exact ⟨meetV_byt _ _ _ _, meetM_byt _ _⟩
/-- Lists of cubes in a row. -/
def ListsAt (w : World) (v : Value) (L : List (List CubeT)) : Prop :=
  ∃ g vs, v = .slice (some ⟨g, 0, none⟩) L.length L.length ∧ w.heap[g]? = some (.cells vs 78 (0, 0)) ∧ ∀ (i : Nat) (l : List CubeT), L[i]? = some l → ∃ u, vs[i]? = some u ∧ Sl w u l

set_option maxHeartbeats 4000000 in
theorem meets_any (L : List (List CubeT)) (vl : Value) (w : World) (hl : ListsAt w vl L) (hn : L.length ≤ 100) (hb1 : ∀ l ∈ L, l.length ≤ 1000) (hb2 : ∀ k, (meetsL (L.take k)).length ≤ 1000) :
    Calls Tryd.prog 55 #[vl] w fun e w' => (∃ u, e = .returned u ∧ w'.ownsRow w.heap.size 33 26 u (meetsL L).length (ccells (meetsL L))) ∧ Below w.heap.size w w' := by
  have hZl := Z_byt.1
  have HA : Hid (∀ W, Calls Tryd.prog 17 #[] W fun e w' => e = .returned (.agg (cv Z Z)) ∧ Below W.heap.size W w') := all8
  have HC : Hid (∀ (A B : List CubeT) va vb W, A.length ≤ 1000 → B.length ≤ 1000 → (crossL A B).length ≤ 1000 → Sl W va A → Sl W vb B → Calls Tryd.prog 76 #[va, vb, .int .i64 2048] W fun e w' => (∃ u, e = .returned (.tuple #[u, .int .i64 0]) ∧ w'.ownsRow W.heap.size 33 26 u (crossL A B).length (ccells (crossL A B))) ∧ Below W.heap.size W w') := fun A B va vb W h1 h2 h3 h4 h5 => (cross_any A B h1 h2 2048 va vb W h4 h5).mono fun e w' h => by
    obtain ⟨h | h, hb⟩ := h
    · obtain ⟨u, e1, _, e3⟩ := h
      exact ⟨⟨u, e1, e3⟩, hb⟩
    · exfalso
      have := h.2
      rw [show bnd4 2048 = 2048 from rfl] at this
      omega
  obtain ⟨g, vs, rfl, hg, hvs⟩ := hl
  obtain ⟨n, hn0⟩ : ∃ n, n = L.length := ⟨_, rfl⟩
  have HN : Hid (n = L.length) := hn0
  rw [← hn0] at hn ⊢
  have HG : Hid (w.heap[g]? = some (.cells vs 78 (0, 0))) := hg
  have HV : Hid (∀ (i : Nat) (l : List CubeT), L[i]? = some l → ∃ u, vs[i]? = some u ∧ Sl w u l) := hvs
  have HB1 : Hid (∀ l ∈ L, l.length ≤ 1000) := hb1
  have HB2 : Hid (∀ k, (meetsL (L.take k)).length ≤ 1000) := hb2
  clear hg hvs hb1 hb2 hn0
  go_enter Tryd.func55, Tryd.ntmps55
  go_wp2_with fail
  refine (HA.out _).mono ?_
  rintro e w1 ⟨rfl, hbw⟩
  have B1 : Hid (Below w.heap.size w (w1.alloc (.cells (cv Z Z) 33))) := hbw.alloc hbw.size _
  have O1 : Hid ((w1.alloc (.cells (cv Z Z) 33)).ownsRow w.heap.size 33 26 (.slice (some ⟨w1.heap.size, 0, none⟩) 1 1) (meetsL (L.take 0)).length (ccells (meetsL (L.take 0))) ∧ Byts (meetsL (L.take 0))) := ⟨gown_base (own_one8 w1 Z Z Z_byt Z_byt) hbw.size, byts_one Z_byt Z_byt⟩
  clear hbw
  go_wp2_with (refine wl_build1 rfl _ rfl Z Z hZl hZl rfl ?_)
  go_loopw [3, 10] (fun v i wr => ∃ (k : Nat) (C : List CubeT), k ≤ n ∧ i = .int .i64 (k : Int) ∧ Hid (C = meetsL (L.take k)) ∧ wr.ownsRow w.heap.size 33 26 v C.length (ccells C) ∧ Byts C ∧ Below w.heap.size w wr) (fun _ i _ => n - (intOf i).toNat)
  case atStart => exact ⟨0, _, Nat.zero_le _, rfl, rfl, O1.out.1, O1.out.2, B1.out⟩
  case round =>
    clear O1 B1
    obtain ⟨k, C, hk, rfl, HCE, hown, hbyt, hb⟩ := hrel
    have HO : Hid (wr.ownsRow w.heap.size 33 26 u3 C.length (ccells C)) := hown
    have HY : Hid (Byts C) := hbyt
    have HB : Hid (Below w.heap.size w wr) := hb
    clear hown hb hbyt
    by_cases hlt : k < n
    · have hlt' : (k : Int) < (n : Int) := by omega
      obtain ⟨l, hlk⟩ : ∃ l, L[k]? = some l := ⟨_, List.getElem?_eq_getElem (by have := HN.out; omega)⟩
      obtain ⟨u, hu, hsl⟩ := HV.out k l hlk
      have hgr : wr.heap[g]? = some (.cells vs 78 (0, 0)) := (HB.out.block g (Array.getElem?_eq_some_iff.1 HG.out).1).trans HG.out
      have cx : wr.cell? ⟨g, k, none⟩ = some u := by rw [cell_of_row _ _ _ _ _ _ hgr]; exact hu
      have SLW : Hid (Sl wr u l) := hsl.below HB.out
      have SC : Hid (Sl wr u3 C) := sl_of HO.out HY.out
      have HT : Hid (meetsL (L.take (k + 1)) = crossL C l) := by show _ = _; rw [HCE.out]; exact meetsL_take hlk
      have H1 : Hid (C.length ≤ 1000) := by show _ ≤ _; rw [HCE.out]; exact HB2.out k
      have H2 : Hid (l.length ≤ 1000) := HB1.out l (List.mem_of_getElem? hlk)
      have H3 : Hid ((crossL C l).length ≤ 1000) := by show _ ≤ _; rw [← HT.out]; exact HB2.out (k + 1)
      obtain ⟨o, cap, rfl, _, _⟩ := hsl.slice
      have HLT : Hid (k < n) := hlt
      clear hu hsl hgr hlk hlt
      go_wp2_with fail
      refine (HC.out C l _ _ _ H1.out H2.out H3.out SC.out SLW.out).mono ?_
      rintro e w2 ⟨⟨v, rfl, ho2⟩, hb2⟩
      have O2 : Hid (w2.ownsRow w.heap.size 33 26 v (crossL C l).length (ccells (crossL C l))) := gown_base ho2 HB.out.size
      have B2 : Hid (Below w.heap.size w w2) := HB.out.trans (hb2.mono HB.out.size)
      clear ho2 hb2
      go_wp2_with fail
      go_roundw
      case rel =>
        have := HLT.out
        exact ⟨k + 1, crossL C l, by omega, by go_num, HT.out.symm, O2.out, byts_crossL _ _, B2.out⟩
      case measure =>
        have := HLT.out
        simp [intOf]; omega
    · have hlt' : ¬ (k : Int) < (n : Int) := by omega
      have HE : Hid (C = meetsL L) := by
        have := HN.out
        show _ = _
        rw [HCE.out, List.take_of_length_le (by omega)]
      go_wp2_with fail
      go_ret
      exact ⟨⟨_, rfl, by rw [← HE.out]; exact HO.out⟩, HB.out⟩
end Go.Proofs.YtnbklmmampdbfaaDoor
namespace Go.Proofs.YtnbklmmampdbfaaDoor
open Go
set_option maxRecDepth 20000

/-! Lists that are sorted by a falling number, those of one number in their order. -/
section
variable {α : Type} (p : α → Int)
/-- No later one has a greater number. -/
def Desc (l : List α) : Prop := l.Pairwise fun x y => p y ≤ p x
/-- Those of each number are the same, in the same order. -/
def Alike (l l' : List α) : Prop := ∀ k : Int, l.filter (fun x => p x == k) = l'.filter (fun x => p x == k)
theorem Alike.refl (l : List α) : Alike p l l := fun _ => rfl
variable {p}
theorem Alike.symm {l l' : List α} (h : Alike p l l') : Alike p l' l := fun k => (h k).symm
theorem Alike.trans {l l' l'' : List α} (h : Alike p l l') (h' : Alike p l' l'') : Alike p l l'' := fun k => (h k).trans (h' k)
theorem Alike.app {a a' b b' : List α} (h : Alike p a a') (h' : Alike p b b') : Alike p (a ++ b) (a' ++ b') := fun k => by
  rw [List.filter_append, List.filter_append, h k, h' k]
theorem Alike.mem {l l' : List α} (h : Alike p l l') (x : α) : x ∈ l ↔ x ∈ l' := by
  have e : ∀ m : List α, x ∈ m ↔ x ∈ m.filter (fun y => p y == p x) := fun m => by simp [List.mem_filter]
  rw [e l, h (p x), ← e l']
theorem alike_swap {X Y : List α} (h : ∀ y ∈ Y, ∀ x ∈ X, p x < p y) : Alike p (X ++ Y) (Y ++ X) := fun k => by
  rw [List.filter_append, List.filter_append]
  cases hx : X.filter (fun x => p x == k) with
  | nil => simp
  | cons x l =>
    have hxm : x ∈ X.filter (fun x => p x == k) := by rw [hx]; simp
    have hy : Y.filter (fun x => p x == k) = [] := by
      rw [List.filter_eq_nil_iff]
      intro y hy hk
      have h1 := (List.mem_filter.1 hxm)
      have := h y hy x h1.1
      simp at hk
      have h2 := h1.2
      simp at h2
      omega
    rw [hy]; simp
theorem desc_one : ∀ (l l' : List α), Desc p l → Desc p l' → Alike p l l' → l = l'
  | [], [], _, _, _ => rfl
  | [], b :: t', _, _, h => absurd ((h.mem b).2 (by simp)) (by simp)
  | a :: t, [], _, _, h => absurd ((h.mem a).1 (by simp)) (by simp)
  | a :: t, b :: t', h1, h2, h => by
    obtain ⟨q1, r1⟩ := List.pairwise_cons.1 h1
    obtain ⟨q2, r2⟩ := List.pairwise_cons.1 h2
    have e : p a = p b := by
      have ha : p a ≤ p b := by
        rcases List.mem_cons.1 ((h.mem a).1 (by simp)) with e | e
        · rw [e]; exact Int.le_refl _
        · exact q2 a e
      have hb : p b ≤ p a := by
        rcases List.mem_cons.1 ((h.mem b).2 (by simp)) with e | e
        · rw [e]; exact Int.le_refl _
        · exact q1 b e
      omega
    have h0 := h (p a)
    rw [List.filter_cons, List.filter_cons, if_pos (by simp), if_pos (by simp [e])] at h0
    obtain ⟨rfl, ht⟩ := List.cons.inj h0
    rw [desc_one t t' r1 r2 fun k => ?_]
    have hk := h k
    rw [List.filter_cons, List.filter_cons] at hk
    by_cases hc : (p a == k) = true
    · rw [if_pos hc, if_pos hc] at hk; exact (List.cons.inj hk).2
    · rw [if_neg hc, if_neg hc] at hk; exact hk
theorem merge_step {X1 X2 Y1 Y2 Z1 Z2 : List α} (hX : Desc p (X1 ++ X2)) (hY : Desc p (Y1 ++ Y2)) (h1 : ∀ x ∈ X1, ∀ y ∈ Y2, p y ≤ p x) (h2 : ∀ y ∈ Y1, ∀ x ∈ X2, p x < p y)
    (d1 : Desc p Z1) (a1 : Alike p Z1 (X1 ++ Y1)) (d2 : Desc p Z2) (a2 : Alike p Z2 (X2 ++ Y2)) : Desc p (Z1 ++ Z2) ∧ Alike p (Z1 ++ Z2) ((X1 ++ X2) ++ (Y1 ++ Y2)) := by
  refine ⟨List.pairwise_append.2 ⟨d1, d2, fun u hu v hv => ?_⟩, ?_⟩
  · have hx := (List.pairwise_append.1 hX).2.2
    have hy := (List.pairwise_append.1 hY).2.2
    rcases List.mem_append.1 ((a1.mem u).1 hu) with u1 | u1 <;> rcases List.mem_append.1 ((a2.mem v).1 hv) with v1 | v1
    · exact hx u u1 v v1
    · exact h1 u u1 v v1
    · have := h2 u u1 v v1; omega
    · exact hy u u1 v v1
  · have e : Alike p (X2 ++ Y1) (Y1 ++ X2) := alike_swap h2
    refine (a1.app a2).trans ?_
    have := ((Alike.refl p X1).app e.symm).app (Alike.refl p Y2)
    simpa [List.append_assoc] using this
end

/-! The same of a part of an array, place by place. -/
section
variable {α : Type}
def segF (f : Nat → α) (a n : Nat) : List α := (List.range n).map fun i => f (a + i)
theorem segF_add (f : Nat → α) (a n m : Nat) : segF f a (n + m) = segF f a n ++ segF f (a + n) m := by
  unfold segF
  rw [List.range_add, List.map_append, List.map_map]
  congr 1
  apply List.map_congr_left
  intro i _
  simp [Nat.add_assoc]
theorem segF_congr {f g : Nat → α} {a b n : Nat} (h : ∀ i, i < n → f (a + i) = g (b + i)) : segF f a n = segF g b n :=
  List.map_congr_left fun i hi => h i (by simpa using hi)
theorem segF_mem {f : Nat → α} {a n : Nat} {x : α} (h : x ∈ segF f a n) : ∃ i, a ≤ i ∧ i < a + n ∧ f i = x := by
  obtain ⟨i, hi, rfl⟩ := List.mem_map.1 h
  exact ⟨a + i, by omega, by have := List.mem_range.1 hi; omega, rfl⟩
theorem segF_zero (f : Nat → α) (a : Nat) : segF f a 0 = [] := rfl
theorem segF_one (f : Nat → α) (a : Nat) : segF f a 1 = [f a] := rfl
variable (p : α → Int)
def DescF (f : Nat → α) (a b : Nat) : Prop := ∀ i j, a ≤ i → i < j → j < b → p (f j) ≤ p (f i)
variable {p}
theorem DescF.seg {f : Nat → α} {a n : Nat} (h : DescF p f a (a + n)) : Desc p (segF f a n) := by
  unfold Desc segF
  rw [List.pairwise_map]
  refine List.Pairwise.imp_of_mem ?_ List.pairwise_lt_range
  intro i j hi hj hij
  have := List.mem_range.1 hj
  exact h _ _ (by omega) (by omega) (by omega)
theorem Desc.of_seg {f : Nat → α} {a n : Nat} (h : Desc p (segF f a n)) : DescF p f a (a + n) := by
  intro i j hi hij hj
  have h' := List.pairwise_iff_getElem.1 h (i - a) (j - a) (by simp [segF]; omega) (by simp [segF]; omega) (by omega)
  simp only [segF, List.getElem_map, List.getElem_range] at h'
  rwa [show a + (i - a) = i by omega, show a + (j - a) = j by omega] at h'
theorem DescF.part {f : Nat → α} {a b a' b' : Nat} (h : DescF p f a b) (h1 : a ≤ a') (h2 : b' ≤ b) : DescF p f a' b' := fun i j hi hij hj => h i j (by omega) hij (by omega)
theorem DescF.congr {f g : Nat → α} {a b : Nat} (h : DescF p f a b) (e : ∀ t, a ≤ t → t < b → g t = f t) : DescF p g a b := fun i j hi hij hj => by
  rw [e i hi (by omega), e j (by omega) hj]; exact h i j hi hij hj
theorem DescF.le {f : Nat → α} {a b : Nat} (h : DescF p f a b) {i j : Nat} (h1 : a ≤ i) (h2 : i ≤ j) (h3 : j < b) : p (f j) ≤ p (f i) := by
  by_cases e : i = j
  · subst e; exact Int.le_refl _
  · exact h i j h1 (by omega) h3

/-- Two parts changed for one another. -/
def swapF (f : Nat → α) (a b n : Nat) : Nat → α := fun t => if a ≤ t ∧ t < a + n then f (t + b - a) else if b ≤ t ∧ t < b + n then f (t + a - b) else f t
/-- [a, m) and [m, b) laid the other way round. -/
def rotF (f : Nat → α) (a m b : Nat) : Nat → α := fun t => if a ≤ t ∧ t < a + (b - m) then f (t + (m - a)) else if a + (b - m) ≤ t ∧ t < b then f (t - (b - m)) else f t
theorem rot_left (f : Nat → α) (m i j : Nat) (hi : i ≤ m) (h : j < i) (h0 : 0 < j) : rotF (swapF f (m - i) m j) (m - (i - j)) m (m + j) = rotF f (m - i) m (m + j) := by
  funext t
  simp only [rotF, swapF]
  repeat' split
  all_goals first | omega | (congr 1; omega) | rfl
theorem rot_right (f : Nat → α) (m i j : Nat) (hi : i ≤ m) (h : i < j) (h0 : 0 < i) : rotF (swapF f (m - i) (m + j - i) i) (m - i) m (m + (j - i)) = rotF f (m - i) m (m + j) := by
  funext t
  simp only [rotF, swapF]
  repeat' split
  all_goals first | omega | (congr 1; omega) | rfl
theorem rot_end (f : Nat → α) (m i : Nat) (hi : i ≤ m) : swapF f (m - i) m i = rotF f (m - i) m (m + i) := by
  funext t
  simp only [rotF, swapF]
  repeat' split
  all_goals first | omega | (congr 1; omega) | rfl
theorem rotF_out (f : Nat → α) {a m b t : Nat} (hm : m ≤ b) (ham : a ≤ m) (h : t < a ∨ b ≤ t) : rotF f a m b t = f t := by
  simp only [rotF]
  rw [if_neg (by omega), if_neg (by omega)]
theorem rotF_seg (f : Nat → α) {a m b : Nat} (ham : a ≤ m) (hmb : m ≤ b) : segF (rotF f a m b) a (b - a) = segF f m (b - m) ++ segF f a (m - a) := by
  rw [show b - a = (b - m) + (m - a) by omega, segF_add]
  congr 1
  · refine segF_congr fun i hi => ?_
    simp only [rotF]
    rw [if_pos (by omega)]; congr 1; omega
  · refine segF_congr fun i hi => ?_
    simp only [rotF]
    rw [if_neg (by omega), if_pos (by omega)]; congr 1; omega
/-- Two neighbours changed. -/
def swp1 (f : Nat → α) (i j : Nat) : Nat → α := fun t => if t = j then f i else if t = i then f j else f t
theorem rot_up (f : Nat → α) (a k : Nat) (hk : a ≤ k) : swp1 (rotF f a (a + 1) (k + 1)) k (k + 1) = rotF f a (a + 1) (k + 2) := by
  funext t
  simp only [rotF, swp1]
  repeat' split
  all_goals first | omega | (congr 1; omega) | rfl
theorem rot_up0 (f : Nat → α) (a : Nat) : rotF f a (a + 1) (a + 1) = f := by
  funext t
  simp only [rotF]
  repeat' split
  all_goals first | omega | (congr 1; omega) | rfl
theorem rot_down (f : Nat → α) (m k : Nat) (hk : k < m) : swp1 (rotF f (k + 1) m (m + 1)) (k + 1) k = rotF f k m (m + 1) := by
  funext t
  simp only [rotF, swp1]
  repeat' split
  all_goals first | omega | (congr 1; omega) | rfl
theorem rot_down0 (f : Nat → α) (m : Nat) : rotF f m m (m + 1) = f := by
  funext t
  simp only [rotF]
  repeat' split
  all_goals first | omega | (congr 1; omega) | rfl
theorem swap_step (f : Nat → α) (a b i : Nat) (h : a + i < b) : swp1 (swapF f a b i) (a + i) (b + i) = swapF f a b (i + 1) := by
  funext t
  simp only [swapF, swp1]
  repeat' split
  all_goals first | omega | (congr 1; omega) | rfl
theorem swap_zero (f : Nat → α) (a b : Nat) : swapF f a b 0 = f := by
  funext t
  simp only [swapF]
  repeat' split
  all_goals first | omega | rfl

theorem rot_none1 (f : Nat → α) (m b : Nat) : rotF f m m b = f := by
  funext t
  simp only [rotF]
  repeat' split
  all_goals first | omega | (congr 1; omega) | rfl
theorem rot_none2 (f : Nat → α) (a m : Nat) : rotF f a m m = f := by
  funext t
  simp only [rotF]
  repeat' split
  all_goals first | omega | (congr 1; omega) | rfl
/-- What comes of two sorted parts that lie side by side. -/
structure Merged (p : α → Int) (f g : Nat → α) (a b : Nat) : Prop where
  out : ∀ t, t < a ∨ b ≤ t → g t = f t
  desc : DescF p g a b
  alike : Alike p (segF g a (b - a)) (segF f a (b - a))
theorem Merged.refl {f : Nat → α} {a b : Nat} (h : DescF p f a b) : Merged p f f a b := ⟨fun _ _ => rfl, h, Alike.refl _ _⟩
/-- THE STEP OF THE MERGE: parted at 'start' and 'end', turned about, both halves merged. -/
theorem merged_step {f g1 g2 : Nat → α} {a m b mid start en : Nat} (h1 : a ≤ start) (h2 : start ≤ m) (h3 : m ≤ en) (h4 : en ≤ b) (hn : start + en = mid + m) (hmid : a ≤ mid ∧ mid ≤ b)
    (hX : DescF p f a m) (hY : DescF p f m b)
    (q1 : start = a ∨ en = b ∨ p (f en) ≤ p (f (start - 1))) (q2 : start = m ∨ en = m ∨ p (f start) < p (f (en - 1)))
    (m1 : Merged p (rotF f start m en) g1 a mid) (m2 : Merged p g1 g2 mid b) : Merged p f g2 a b := by
  have eL : segF (rotF f start m en) a (mid - a) = segF f a (start - a) ++ segF f m (en - m) := by
    rw [show mid - a = (start - a) + (en - m) by omega, segF_add]
    congr 1
    · refine segF_congr fun i hi => rotF_out f h3 h2 (by omega)
    · refine segF_congr fun i hi => ?_
      simp only [rotF]
      rw [if_pos (by omega)]; congr 1; omega
  have eR : segF (rotF f start m en) mid (b - mid) = segF f start (m - start) ++ segF f en (b - en) := by
    rw [show b - mid = (m - start) + (b - en) by omega, segF_add]
    congr 1
    · refine segF_congr fun i hi => ?_
      simp only [rotF]
      rw [if_neg (by omega), if_pos (by omega)]; congr 1; omega
    · refine segF_congr fun i hi => ?_
      rw [rotF_out f h3 h2 (by omega)]
      congr 1; omega
  have eR' : segF g1 mid (b - mid) = segF f start (m - start) ++ segF f en (b - en) := by
    rw [← eR]
    exact segF_congr fun i hi => m1.out _ (by omega)
  have eL' : segF g2 a (mid - a) = segF g1 a (mid - a) := segF_congr fun i hi => m2.out _ (by omega)
  have eX : segF f a (m - a) = segF f a (start - a) ++ segF f start (m - start) := by
    rw [show m - a = (start - a) + (m - start) by omega, segF_add]; congr 2; omega
  have eY : segF f m (b - m) = segF f m (en - m) ++ segF f en (b - en) := by
    rw [show b - m = (en - m) + (b - en) by omega, segF_add]; congr 2; omega
  have eA : segF f a (b - a) = segF f a (m - a) ++ segF f m (b - m) := by
    rw [show b - a = (m - a) + (b - m) by omega, segF_add]; congr 2; omega
  have eG : segF g2 a (b - a) = segF g1 a (mid - a) ++ segF g2 mid (b - mid) := by
    rw [← eL', show b - a = (mid - a) + (b - mid) by omega, segF_add]; congr 2; omega
  have dX : Desc p (segF f a (start - a) ++ segF f start (m - start)) := by
    rw [← eX]; exact DescF.seg (by rw [show a + (m - a) = m by omega]; exact hX)
  have dY : Desc p (segF f m (en - m) ++ segF f en (b - en)) := by
    rw [← eY]; exact DescF.seg (by rw [show m + (b - m) = b by omega]; exact hY)
  have d1 : Desc p (segF g1 a (mid - a)) := DescF.seg (by rw [show a + (mid - a) = mid by omega]; exact m1.desc)
  have d2 : Desc p (segF g2 mid (b - mid)) := DescF.seg (by rw [show mid + (b - mid) = b by omega]; exact m2.desc)
  obtain ⟨D, A⟩ := merge_step dX dY (fun x hx y hy => by
      obtain ⟨i, i1, i2, rfl⟩ := segF_mem hx
      obtain ⟨j, j1, j2, rfl⟩ := segF_mem hy
      have e1 : p (f (start - 1)) ≤ p (f i) := hX.le (by omega) (by omega) (by omega)
      have e2 : p (f j) ≤ p (f en) := hY.le (by omega) (by omega) (by omega)
      omega) (fun y hy x hx => by
      obtain ⟨i, i1, i2, rfl⟩ := segF_mem hx
      obtain ⟨j, j1, j2, rfl⟩ := segF_mem hy
      have e1 : p (f i) ≤ p (f start) := hX.le (by omega) (by omega) (by omega)
      have e2 : p (f (en - 1)) ≤ p (f j) := hY.le (by omega) (by omega) (by omega)
      omega) d1 (by rw [← eL]; exact m1.alike) d2 (by rw [← eR']; exact m2.alike)
  refine ⟨fun t ht => ?_, ?_, ?_⟩
  · rw [m2.out t (by omega), m1.out t (by omega), rotF_out f h3 h2 (by omega)]
  · rw [← eG] at D
    have := Desc.of_seg D
    rwa [show a + (b - a) = b by omega] at this
  · rw [eG, eA, eX, eY]; exact A
/-- Where a half is empty nothing is left to do. -/
theorem merged_none {f : Nat → α} {a m b start en mid : Nat} (h1 : a ≤ start) (h2 : start ≤ m) (h3 : m ≤ en) (h4 : en ≤ b) (hn : start + en = mid + m) (hX : DescF p f a m) (hY : DescF p f m b) (hc : ¬ (a < start ∧ start < mid)) :
    DescF p (rotF f start m en) a mid := by
  by_cases e : start = a
  · subst e
    intro i j hi hij hj
    simp only [rotF]
    rw [if_pos (by omega), if_pos (by omega)]
    exact hY _ _ (by omega) (by omega) (by omega)
  · have : en = m := by omega
    subst this
    refine (hX.part (Nat.le_refl a) (b' := mid) (by omega)).congr fun t h5 h6 => rotF_out f (Nat.le_refl _) h2 (by omega)
theorem merged_none2 {f g : Nat → α} {a m b start en mid : Nat} (h1 : a ≤ start) (h2 : start ≤ m) (h3 : m ≤ en) (h4 : en ≤ b) (hn : start + en = mid + m) (hX : DescF p f a m) (hY : DescF p f m b) (hg : ∀ t, mid ≤ t → g t = rotF f start m en t) (hc : ¬ (mid < en ∧ en < b)) :
    DescF p g mid b := by
  by_cases e : en = b
  · subst e
    intro i j hi hij hj
    rw [hg _ (by omega), hg _ (by omega)]
    simp only [rotF]
    rw [if_neg (by omega), if_pos (by omega), if_neg (by omega), if_pos (by omega)]
    exact hX _ _ (by omega) (by omega) (by omega)
  · have : start = m := by omega
    subst this
    refine (hY.part (a' := mid) (by omega) (Nat.le_refl b)).congr fun t h5 h6 => ?_
    rw [hg t h5]
    by_cases ht : t < en
    · simp only [rotF]
      rw [if_pos (by omega)]; congr 1; omega
    · exact rotF_out f h3 (Nat.le_refl _) (by omega)
/-- ONE ELEMENT ahead of a sorted part. -/
theorem merged_one {f : Nat → α} {a i b : Nat} (h1 : a + 1 ≤ i) (h2 : i ≤ b) (hY : DescF p f (a + 1) b) (q1 : i = a + 1 ∨ p (f a) < p (f (i - 1))) (q2 : i = b ∨ p (f i) ≤ p (f a)) : Merged p f (rotF f a (a + 1) i) a b := by
  have eG : segF (rotF f a (a + 1) i) a (b - a) = (segF f (a + 1) (i - (a + 1)) ++ [f a]) ++ segF f i (b - i) := by
    rw [show b - a = (i - a) + (b - i) by omega, segF_add, rotF_seg f (by omega) h1]
    congr 1
    · rw [show a + 1 - a = 1 by omega, segF_one]
    · rw [show a + (i - a) = i by omega]
      exact segF_congr fun k hk => rotF_out f h1 (by omega) (by omega)
  have eF : segF f a (b - a) = ([f a] ++ segF f (a + 1) (i - (a + 1))) ++ segF f i (b - i) := by
    rw [show b - a = (1 + (i - (a + 1))) + (b - i) by omega, segF_add, segF_add, segF_one]
    congr 2; omega
  have e1 : ∀ y ∈ segF f (a + 1) (i - (a + 1)), p (f a) < p y := fun y hy => by
    obtain ⟨j, j1, j2, rfl⟩ := segF_mem hy
    have := hY.le (i := j) (j := i - 1) (by omega) (by omega) (by omega)
    omega
  have e2 : ∀ y ∈ segF f i (b - i), p y ≤ p (f a) := fun y hy => by
    obtain ⟨j, j1, j2, rfl⟩ := segF_mem hy
    have := hY.le (i := i) (j := j) (by omega) (by omega) (by omega)
    omega
  have dY : Desc p (segF f (a + 1) (i - (a + 1)) ++ segF f i (b - i)) := by
    have := DescF.seg (p := p) (f := f) (a := a + 1) (n := b - (a + 1)) (by rw [show a + 1 + (b - (a + 1)) = b by omega]; exact hY)
    rw [show b - (a + 1) = (i - (a + 1)) + (b - i) by omega, segF_add, show a + 1 + (i - (a + 1)) = i by omega] at this
    exact this
  obtain ⟨y1, y2, y3⟩ := List.pairwise_append.1 dY
  refine ⟨fun t ht => rotF_out f h1 (by omega) (by omega), ?_, ?_⟩
  · have : Desc p (segF (rotF f a (a + 1) i) a (b - a)) := by
      rw [eG]
      refine List.pairwise_append.2 ⟨List.pairwise_append.2 ⟨y1, by simp, fun u hu v hv => ?_⟩, y2, fun u hu v hv => ?_⟩
      · obtain rfl : v = f a := by simpa using hv
        have := e1 u hu; omega
      · rcases List.mem_append.1 hu with hu | hu
        · exact y3 u hu v hv
        · obtain rfl : u = f a := by simpa using hu
          exact e2 v hv
    have := Desc.of_seg this
    rwa [show a + (b - a) = b by omega] at this
  · rw [eG, eF]
    refine Alike.app (Alike.symm (alike_swap ?_)) (Alike.refl _ _)
    intro y hy x hx
    obtain rfl : x = f a := by simpa using hx
    exact e1 y hy
/-- ONE ELEMENT behind a sorted part. -/
theorem merged_last {f : Nat → α} {a i m : Nat} (h1 : a ≤ i) (h2 : i ≤ m) (hX : DescF p f a m) (q1 : i = a ∨ p (f m) ≤ p (f (i - 1))) (q2 : i = m ∨ p (f i) < p (f m)) : Merged p f (rotF f i m (m + 1)) a (m + 1) := by
  have eG : segF (rotF f i m (m + 1)) a (m + 1 - a) = segF f a (i - a) ++ ([f m] ++ segF f i (m - i)) := by
    rw [show m + 1 - a = (i - a) + (m + 1 - i) by omega, segF_add]
    congr 1
    · exact segF_congr fun k hk => rotF_out f (by omega) h2 (by omega)
    · rw [show a + (i - a) = i by omega, rotF_seg f h2 (by omega), show m + 1 - m = 1 by omega, segF_one]
  have eF : segF f a (m + 1 - a) = segF f a (i - a) ++ (segF f i (m - i) ++ [f m]) := by
    rw [show m + 1 - a = (i - a) + ((m - i) + 1) by omega, segF_add, segF_add, segF_one, show a + (i - a) = i by omega, show i + (m - i) = m by omega]
  have e1 : ∀ y ∈ segF f a (i - a), p (f m) ≤ p y := fun y hy => by
    obtain ⟨j, j1, j2, rfl⟩ := segF_mem hy
    have := hX.le (i := j) (j := i - 1) (by omega) (by omega) (by omega)
    omega
  have e2 : ∀ y ∈ segF f i (m - i), p y < p (f m) := fun y hy => by
    obtain ⟨j, j1, j2, rfl⟩ := segF_mem hy
    have := hX.le (i := i) (j := j) (by omega) (by omega) (by omega)
    omega
  have dX : Desc p (segF f a (i - a) ++ segF f i (m - i)) := by
    have := DescF.seg (p := p) (f := f) (a := a) (n := m - a) (by rw [show a + (m - a) = m by omega]; exact hX)
    rw [show m - a = (i - a) + (m - i) by omega, segF_add, show a + (i - a) = i by omega] at this
    exact this
  obtain ⟨y1, y2, y3⟩ := List.pairwise_append.1 dX
  refine ⟨fun t ht => rotF_out f (by omega) h2 (by omega), ?_, ?_⟩
  · have : Desc p (segF (rotF f i m (m + 1)) a (m + 1 - a)) := by
      rw [eG]
      refine List.pairwise_append.2 ⟨y1, List.pairwise_append.2 ⟨by simp, y2, fun u hu v hv => ?_⟩, fun u hu v hv => ?_⟩
      · obtain rfl : u = f m := by simpa using hu
        have := e2 v hv; omega
      · rcases List.mem_append.1 hv with hv | hv
        · obtain rfl : v = f m := by simpa using hv
          exact e1 u hu
        · exact y3 u hu v hv
    have := Desc.of_seg this
    rwa [show a + (m + 1 - a) = m + 1 by omega] at this
  · rw [eG, eF]
    refine Alike.app (Alike.refl _ _) (alike_swap ?_).symm
    intro y hy x hx
    obtain rfl : y = f m := by simpa using hy
    exact e2 x hx
end

/-! The insertion sort is stable. -/
section
open Go.Sort
variable {α : Type} {p : α → Int}
theorem alike_pair {f : Nat → α} {a b j : Nat} (ha : a ≤ j) (hb : j + 1 < b) (h : p (f j) < p (f (j + 1))) : Alike p (segF (swp1 f (j + 1) j) a (b - a)) (segF f a (b - a)) := by
  have e : ∀ g : Nat → α, segF g a (b - a) = segF g a (j - a) ++ (([g j] ++ [g (j + 1)]) ++ segF g (j + 2) (b - (j + 2))) := fun g => by
    rw [show b - a = (j - a) + (2 + (b - (j + 2))) by omega, segF_add, segF_add, show a + (j - a) = j by omega]
    rfl
  rw [e, e]
  have s1 : segF (swp1 f (j + 1) j) a (j - a) = segF f a (j - a) := segF_congr fun i hi => by simp only [swp1]; rw [if_neg (by omega), if_neg (by omega)]
  have s2 : segF (swp1 f (j + 1) j) (j + 2) (b - (j + 2)) = segF f (j + 2) (b - (j + 2)) := segF_congr fun i hi => by simp only [swp1]; rw [if_neg (by omega), if_neg (by omega)]
  rw [s1, s2]
  have s3 : swp1 f (j + 1) j j = f (j + 1) := by simp [swp1]
  have s4 : swp1 f (j + 1) j (j + 1) = f j := by simp [swp1]
  rw [s3, s4]
  refine Alike.app (Alike.refl _ _) (Alike.app (alike_swap ?_).symm (Alike.refl _ _))
  intro y hy x hx
  obtain rfl : y = f (j + 1) := by simpa using hy
  obtain rfl : x = f j := by simpa using hx
  exact h
def ltP (p : α → Int) : α → α → Bool := fun x y => decide (p y < p x)
theorem swo_ltP : SWO (ltP p) := ⟨fun x => by simp [ltP], fun x y z h1 h2 => by simp [ltP] at *; omega, fun x y z h1 h2 => by simp [ltP] at *; omega⟩
end
section
open Go.Sort
variable {α : Type} [Inhabited α] {p : α → Int}
def arrF (d : Array α) : Nat → α := fun i => d[i]!
theorem swp_fun (d : Array α) (i j : Nat) (hi : i < d.size) (hj : j < d.size) : arrF (swp d i j) = swp1 (arrF d) i j := by
  funext t
  unfold arrF swp1
  rw [swp_get d hi hj]
theorem insInner_alike (a b : Nat) : ∀ (j : Nat) (d : Array α), j < b → b ≤ d.size → (insInner (ltP p) a j d).size = d.size ∧ Alike p (segF (arrF (insInner (ltP p) a j d)) a (b - a)) (segF (arrF d) a (b - a))
  | 0, d, _, _ => ⟨rfl, Alike.refl _ _⟩
  | j + 1, d, hj, hb => by
    rw [insInner]
    split
    · rename_i hc
      simp only [Bool.and_eq_true, decide_eq_true_eq, ltP] at hc
      obtain ⟨i1, i2⟩ := insInner_alike a b j (swp d (j + 1) j) (by omega) (by rw [swp_size]; exact hb)
      refine ⟨by rw [i1, swp_size], i2.trans ?_⟩
      rw [swp_fun d (j + 1) j (by omega) (by omega)]
      exact alike_pair (by omega) (by omega) hc.2
    · exact ⟨rfl, Alike.refl _ _⟩
theorem insOuter_alike (a b : Nat) : ∀ (n i : Nat) (d : Array α), b - i = n → b ≤ d.size → (insOuter (ltP p) a b i d).size = d.size ∧ Alike p (segF (arrF (insOuter (ltP p) a b i d)) a (b - a)) (segF (arrF d) a (b - a))
  | 0, i, d, hn, hb => by
    rw [insOuter, if_neg (by omega)]
    exact ⟨rfl, Alike.refl _ _⟩
  | n + 1, i, d, hn, hb => by
    rw [insOuter, if_pos (by omega)]
    obtain ⟨i1, i2⟩ := insInner_alike (p := p) a b i d (by omega) hb
    obtain ⟨j1, j2⟩ := insOuter_alike a b n (i + 1) (insInner (ltP p) a i d) (by omega) (by omega)
    exact ⟨by rw [j1, i1], j2.trans i2⟩
/-- THE INSERTION SORT of a part. -/
theorem ins_merged (d : Array α) (a b : Nat) (hab : a ≤ b) (hb : b ≤ d.size) : (insertionSort (ltP p) d a b).size = d.size ∧ Merged p (arrF d) (arrF (insertionSort (ltP p) d a b)) a b := by
  obtain ⟨⟨h1, h2, _⟩, h3⟩ := insertionSort_holds (lt := ltP p) swo_ltP d a b hab hb
  refine ⟨h1, ⟨h2, fun i j hi hij hj => ?_, (insOuter_alike a b (b - (a + 1)) (a + 1) d rfl hb).2⟩⟩
  have := h3 i j hi hij hj
  simp [ltP] at this
  exact this
end
end Go.Proofs.YtnbklmmampdbfaaDoor
namespace Go.Proofs.YtnbklmmampdbfaaDoor
open Go Go.Shelf Go.RowKit Go.Lib Go.Sort
set_option maxRecDepth 20000

/-- What the walks of the stable sort ask of a program: its bodies, and their types; an element has k cells. -/
structure StP (P : Program) (k : Nat) : Prop where
  mixed : P.follows .mixedOrders = true
  f_swapRange : P.funcs[108]? = some Tryd.f108
  f_rotate : P.funcs[101]? = some Tryd.f101
  f_symMerge : P.funcs[88]? = some Tryd.f88
  f_insertionSort : P.funcs[87]? = some Tryd.f87
  f_stable : P.funcs[72]? = some Tryd.f72
  t0 : P.underlying 0 = some (TypeDesc.tuple #[])
  a0 : ∀ w, (isAgg 0).run P w = .ok false w
  z0 : ∀ w, (Go.sizeOf 0).run P w = .ok 1 w
  v0 : ∀ w, (zeroValue 0).run P w = .ok (Value.tuple #[]) w
  t3 : P.underlying 3 = some (TypeDesc.int IntKind.i64)
  a3 : ∀ w, (isAgg 3).run P w = .ok false w
  z3 : ∀ w, (Go.sizeOf 3).run P w = .ok 1 w
  v3 : ∀ w, (zeroValue 3).run P w = .ok (Value.int IntKind.i64 0) w
  t4 : P.underlying 4 = some (TypeDesc.bool)
  a4 : ∀ w, (isAgg 4).run P w = .ok false w
  z4 : ∀ w, (Go.sizeOf 4).run P w = .ok 1 w
  v4 : ∀ w, (zeroValue 4).run P w = .ok (Value.bool false) w
  tS : P.underlying 25 = some (TypeDesc.slice 47)
  aS : ∀ w, (isAgg 25).run P w = .ok false w
  zS : ∀ w, (Go.sizeOf 25).run P w = .ok 1 w
  vS : ∀ w, (zeroValue 25).run P w = .ok (Value.slice none 0 0) w
  tF : P.underlying 108 = some (TypeDesc.func #[47, 47] #[3] false)
  aF : ∀ w, (isAgg 108).run P w = .ok false w
  zF : ∀ w, (Go.sizeOf 108).run P w = .ok 1 w
  vF : ∀ w, (zeroValue 108).run P w = .ok (Value.nilFunc) w
  tU : P.underlying 130 = some (TypeDesc.int IntKind.u64)
  aU : ∀ w, (isAgg 130).run P w = .ok false w
  zU : ∀ w, (Go.sizeOf 130).run P w = .ok 1 w
  vU : ∀ w, (zeroValue 130).run P w = .ok (Value.int IntKind.u64 0) w
  aE : ∀ w, (isAgg 47).run P w = .ok true w
  zE : ∀ w, (Go.sizeOf 47).run P w = .ok k w
theorem stP : StP Tryd.prog 12 where
  mixed := by kernel_rfl
  f_swapRange := Tryd.func108
  f_rotate := Tryd.func101
  f_symMerge := Tryd.func88
  f_insertionSort := Tryd.func87
  f_stable := Tryd.func72
  t0 := Tryd.underlying0
  a0 := fun w => by kernel_rfl
  z0 := fun w => by kernel_rfl
  v0 := fun w => by kernel_rfl
  t3 := Tryd.underlying3
  a3 := fun w => by kernel_rfl
  z3 := fun w => by kernel_rfl
  v3 := fun w => by kernel_rfl
  t4 := Tryd.underlying4
  a4 := fun w => by kernel_rfl
  z4 := fun w => by kernel_rfl
  v4 := fun w => by kernel_rfl
  tS := Tryd.underlying25
  aS := fun w => by kernel_rfl
  zS := fun w => by kernel_rfl
  vS := fun w => by kernel_rfl
  tF := Tryd.underlying108
  aF := fun w => by kernel_rfl
  zF := fun w => by kernel_rfl
  vF := fun w => by kernel_rfl
  tU := Tryd.underlying130
  aU := fun w => by kernel_rfl
  zU := fun w => by kernel_rfl
  vU := fun w => by kernel_rfl
  aE := fun w => by kernel_rfl
  zE := fun w => by kernel_rfl

variable {α : Type} [Inhabited α]
set_option maxHeartbeats 8000000 in
set_option maxRecDepth 1000000 in
/-- slices.swapRangeCmpFunc: it exchanges and does not compare. -/
theorem swapRange_any {P : Program} {k : Nat} (L : StP P k) (enc : α → List Value) (g : Nat) (cb : Array Value) (blk off cap a b n : Nat) (d0 d : Array α) (w0 w : World)
    (R : RowK enc k w0 blk off d0) (hs : d0.size = d.size) (S : SWK enc k w0 blk off d w) (hab : a + n ≤ b) (hb : b + n ≤ d.size) (hsz : d.size < 4611686018427387904) :
    Calls P 108 #[.slice (some ⟨blk, off, none⟩) d.size cap, .int .i64 a, .int .i64 b, .int .i64 n, .func (.func g) #[] cb] w fun e w' => e = .returned (.tuple #[]) ∧ ∃ d', d'.size = d.size ∧ SWK enc k w0 blk off d' w' ∧ arrF d' = swapF (arrF d) a b n := by
  have mixed := L.mixed
  have t0 := L.t0; have a0 := L.a0; have z0 := L.z0; have v0 := L.v0
  have t3 := L.t3; have a3 := L.a3; have z3 := L.z3; have v3 := L.v3
  have t4 := L.t4; have a4 := L.a4; have z4 := L.z4; have v4 := L.v4
  have tS := L.tS; have aS := L.aS; have zS := L.zS; have vS := L.vS
  have tF := L.tF; have aF := L.aF; have zF := L.zF; have vF := L.vF
  have aE := L.aE; have zE := L.zE
  have FG := L.f_swapRange
  have S0 : Aside (SWK enc k w0 blk off d w) := S
  clear S
  go_enter FG, Tryd.ntmps108
  go_wp2
  go_loopg [10] n (fun kx s10 wr => ∃ (i : Nat) (dk : Array α), s10 = .int .i64 i ∧ i ≤ n ∧ n - i ≤ kx ∧ dk.size = d.size ∧ Aside (SWK enc k w0 blk off dk wr) ∧ Hid (arrF dk = swapF (arrF d) a b i))
  case atStart => exact ⟨0, d, rfl, Nat.zero_le _, Nat.le_refl _, rfl, S0, (swap_zero _ _ _).symm⟩
  case round =>
    clear S0
    obtain ⟨i, dk, rfl, hin, hkx, hds, S1, HE⟩ := hrel
    by_cases hlt : i < n
    · have hltz : (i : Int) < (n : Int) := by omega
      go_wp2_with fail
      have ea44 : ((a : Int) + (i : Int)).toNat = a + i := by omega
      have pa44 : (0 : Int) ≤ (a : Int) + (i : Int) := by omega
      have ba44 : (a : Int) + (i : Int) < (d.size : Int) := by omega
      have ra44 : IntKind.i64.wrap ((a : Int) + (i : Int)) = (a : Int) + (i : Int) := by rw [IntKind.wrap_i64]; omega
      have ec44 : ((b : Int) + (i : Int)).toNat = b + i := by omega
      have pc44 : (0 : Int) ≤ (b : Int) + (i : Int) := by omega
      have bc44 : (b : Int) + (i : Int) < (d.size : Int) := by omega
      have rc44 : IntKind.i64.wrap ((b : Int) + (i : Int)) = (b : Int) + (i : Int) := by rw [IntKind.wrap_i64]; omega
      have S2 : Aside (SWK enc k w0 blk off (swp dk (a + i) (b + i)) ((wr.drew.setCells blk (off + (a + i) * k) (enc dk[b + i]!)).setCells blk (off + (b + i) * k) (enc dk[a + i]!))) := S1.out.swapped R (a + i) (b + i) (by omega) (by omega)
      have HE2 : Hid (arrF (swp dk (a + i) (b + i)) = swapF (arrF d) a b (i + 1)) := by
        show _ = _
        rw [swp_fun dk _ _ (by omega) (by omega), HE.out, swap_step _ _ _ _ (by omega)]
      have l44a := S1.out.ld1 R (by omega) P (a + i) (by omega)
      have l44b := S1.out.ld1 R (by omega) P (b + i) (by omega)
      have s44a := S1.out.st1 R (by omega) P (a + i) (by omega) dk[b + i]!
      have s44b := S1.out.st2 R (by omega) P (a + i) (b + i) (by omega) (by omega) dk[b + i]! dk[a + i]!
      have n44a : (enc dk[a + i]!).length = k := R.hk _
      have n44b : (enc dk[b + i]!).length = k := R.hk _
      generalize enc dk[a + i]! = cI44 at S2 l44a s44b n44a
      generalize enc dk[b + i]! = cJ44 at S2 l44b s44a s44b n44b
      clear S1
      go_wp2_with fail
      go_big_region_o
      clear l44a l44b s44a s44b
      generalize (wr.drew.setCells blk (off + (a + i) * k) cJ44).setCells blk (off + (b + i) * k) cI44 = w2 at S2 ⊢
      go_wp2
      go_roundg (n - (i + 1))
      case measure => omega
      case rel => exact ⟨i + 1, swp dk (a + i) (b + i), by go_num, by omega, Nat.le_refl _, by rw [size_swp]; exact hds, S2, HE2⟩
    · have hltz : ¬ (i : Int) < (n : Int) := by omega
      obtain rfl : i = n := by omega
      go_wp2
      go_end0
      exact ⟨rfl, dk, hds, S1.out, HE.out⟩
end Go.Proofs.YtnbklmmampdbfaaDoor
namespace Go.Proofs.YtnbklmmampdbfaaDoor
open Go Go.Shelf Go.RowKit Go.Lib Go.Sort
set_option maxRecDepth 20000

variable {α : Type} [Inhabited α]
set_option maxHeartbeats 8000000 in
set_option maxRecDepth 1000000 in
/-- slices.rotateCmpFunc: two parts side by side are laid the other way round. -/
theorem rotate_any {P : Program} {k : Nat} (L : StP P k) (enc : α → List Value) (g : Nat) (cb : Array Value) (blk off cap a m b : Nat) (d0 d : Array α) (w0 w : World)
    (R : RowK enc k w0 blk off d0) (hs : d0.size = d.size) (S : SWK enc k w0 blk off d w) (ham : a < m) (hmb : m < b) (hb : b ≤ d.size) (hsz : d.size < 4611686018427387904) :
    Calls P 101 #[.slice (some ⟨blk, off, none⟩) d.size cap, .int .i64 a, .int .i64 m, .int .i64 b, .func (.func g) #[] cb] w fun e w' => e = .returned (.tuple #[]) ∧ ∃ d', d'.size = d.size ∧ SWK enc k w0 blk off d' w' ∧ arrF d' = rotF (arrF d) a m b := by
  have mixed := L.mixed
  have t0 := L.t0; have a0 := L.a0; have z0 := L.z0; have v0 := L.v0
  have t3 := L.t3; have a3 := L.a3; have z3 := L.z3; have v3 := L.v3
  have t4 := L.t4; have a4 := L.a4; have z4 := L.z4; have v4 := L.v4
  have tS := L.tS; have aS := L.aS; have zS := L.zS; have vS := L.vS
  have tF := L.tF; have aF := L.aF; have zF := L.zF; have vF := L.vF
  have aE := L.aE; have zE := L.zE
  have FG := L.f_rotate
  have e108 : ∀ args w, (callFunc 108 args).run P w = .ok (.enter 108 args) w := enters_of L.f_swapRange (by kernel_rfl) rfl
  have S0 : Aside (SWK enc k w0 blk off d w) := S
  clear S
  have LL : Hid (StP P k) := L
  clear L
  go_enter FG, Tryd.ntmps101
  go_wp2
  go_loopg [10, 11] (b - a) (fun kx s10 s11 wr => ∃ (i j : Nat) (dk : Array α), s10 = .int .i64 i ∧ s11 = .int .i64 j ∧ 0 < i ∧ 0 < j ∧ i ≤ m ∧ m + j ≤ b ∧ i + j ≤ kx ∧ dk.size = d.size ∧ Aside (SWK enc k w0 blk off dk wr) ∧ Hid (rotF (arrF dk) (m - i) m (m + j) = rotF (arrF d) a m b))
  case atStart => exact ⟨m - a, b - m, d, by rw [show ((m - a : Nat) : Int) = (m : Int) - (a : Int) by omega], by rw [show ((b - m : Nat) : Int) = (b : Int) - (m : Int) by omega], by omega, by omega, by omega, by omega, by omega, rfl, S0, by show _ = _; rw [show m - (m - a) = a by omega, show m + (b - m) = b by omega]⟩
  case round =>
    clear S0
    obtain ⟨i, j, dk, rfl, rfl, hi0, hj0, him, hjb, hkx, hds, S1, HE⟩ := hrel
    have em : ((m - i : Nat) : Int) = (m : Int) - (i : Int) := by omega
    by_cases hij : i = j
    · subst hij
      have hc := swapRange_any LL.out enc g cb blk off cap (m - i) m i d0 dk w0 wr R (by omega) S1.out (by omega) (by omega) (by omega)
      rw [em, hds] at hc
      have HE2 : Hid (∀ d' : Array α, arrF d' = swapF (arrF dk) (m - i) m i → arrF d' = rotF (arrF d) a m b) := fun d' h => by rw [h, rot_end _ _ _ him, HE.out]
      clear S1 HE
      go_wp2_with (go_at_fn 108; refine hc.mono ?_; rintro e w1 ⟨rfl, d', hd', S3, hE⟩)
      go_end0
      exact ⟨rfl, d', hd', S3, HE2.out d' hE⟩
    · have hijz : ¬ (i : Int) = (j : Int) := by omega
      by_cases hlt : j < i
      · have hltz : (j : Int) < (i : Int) := by omega
        have hc := swapRange_any LL.out enc g cb blk off cap (m - i) m j d0 dk w0 wr R (by omega) S1.out (by omega) (by omega) (by omega)
        rw [em, hds] at hc
        have HE2 : Hid (∀ d' : Array α, arrF d' = swapF (arrF dk) (m - i) m j → rotF (arrF d') (m - (i - j)) m (m + j) = rotF (arrF d) a m b) := fun d' h => by rw [h, rot_left _ _ _ _ him hlt hj0, HE.out]
        clear S1 HE
        go_wp2_with (go_at_fn 108; refine hc.mono ?_; rintro e w1 ⟨rfl, d', hd', S3, hE⟩)
        go_roundg (i - j + j)
        case measure => omega
        case rel => exact ⟨i - j, j, d', by rw [show ((i - j : Nat) : Int) = (i : Int) - (j : Int) by omega], rfl, by omega, hj0, by omega, hjb, by omega, hd', S3, HE2.out d' hE⟩
      · have hltz : ¬ (j : Int) < (i : Int) := by omega
        have hc := swapRange_any LL.out enc g cb blk off cap (m - i) (m + j - i) i d0 dk w0 wr R (by omega) S1.out (by omega) (by omega) (by omega)
        rw [em, show ((m + j - i : Nat) : Int) = (m : Int) + (j : Int) - (i : Int) by omega, hds] at hc
        have HE2 : Hid (∀ d' : Array α, arrF d' = swapF (arrF dk) (m - i) (m + j - i) i → rotF (arrF d') (m - i) m (m + (j - i)) = rotF (arrF d) a m b) := fun d' h => by rw [h, rot_right _ _ _ _ him (by omega) hi0, HE.out]
        clear S1 HE
        go_wp2_with (go_at_fn 108; refine hc.mono ?_; rintro e w1 ⟨rfl, d', hd', S3, hE⟩)
        go_roundg (i + (j - i))
        case measure => omega
        case rel => exact ⟨i, j - i, d', rfl, by rw [show ((j - i : Nat) : Int) = (j : Int) - (i : Int) by omega], hi0, by omega, him, by omega, by omega, hd', S3, HE2.out d' hE⟩
end Go.Proofs.YtnbklmmampdbfaaDoor
namespace Go.Proofs.YtnbklmmampdbfaaDoor
open Go Go.Shelf Go.RowKit Go.Lib Go.Sort
set_option maxRecDepth 20000

variable {α : Type} [Inhabited α]
set_option maxHeartbeats 16000000 in
set_option maxRecDepth 1000000 in
/-- slices.symMergeCmpFunc where the first part is one element. -/
theorem sym_one {P : Program} {k : Nat} (L : StP P k) (enc : α → List Value) (p : α → Int) (cf : α → α → Int) (hcf : ∀ x y, cf x y < 0 ↔ p y < p x) (g : Nat) (cb : Array Value) (blk off cap : Nat) (d0 : Array α) (w0 : World)
    (eg : ∀ args w, (callFunc g args).run P w = .ok (.enter g args) w) (hcmp : CmpLays P g cb enc k cf blk off d0.size w0) (R : RowK enc k w0 blk off d0) (a m b : Nat) (hm : m = a + 1) (d : Array α) (w : World) (hs : d0.size = d.size) (S : SWK enc k w0 blk off d w) (hab : m < b) (hb : b ≤ d.size) (hsz : d.size < 4611686018427387904) (hY : DescF p (arrF d) m b) :
    Calls P 88 #[.slice (some ⟨blk, off, none⟩) d.size cap, .int .i64 a, .int .i64 m, .int .i64 b, .func (.func g) #[] cb] w fun e w' => e = .returned (.tuple #[]) ∧ ∃ d', d'.size = d.size ∧ SWK enc k w0 blk off d' w' ∧ Merged p (arrF d) (arrF d') a b := by
  have mixed := L.mixed
  have t0 := L.t0; have a0 := L.a0; have z0 := L.z0; have v0 := L.v0
  have t3 := L.t3; have a3 := L.a3; have z3 := L.z3; have v3 := L.v3
  have t4 := L.t4; have a4 := L.a4; have z4 := L.z4; have v4 := L.v4
  have tS := L.tS; have aS := L.aS; have zS := L.zS; have vS := L.vS
  have tF := L.tF; have aF := L.aF; have zF := L.zF; have vF := L.vF
  have tU := L.tU; have aU := L.aU; have zU := L.zU; have vU := L.vU
  have aE := L.aE; have zE := L.zE
  have FG := L.f_symMerge
  have HC : Aside _ := hcmp
  have S0 : Aside (SWK enc k w0 blk off d w) := S
  have HF : Hid (∀ x y, cf x y < 0 ↔ p y < p x) := hcf
  have HY : Hid (DescF p (arrF d) m b) := hY
  have HM : Hid (m = a + 1) := hm
  have hmz : (m : Int) - (a : Int) = 1 := by omega
  have ham : a < m := by omega
  clear hcmp S hcf hY L hm
  go_enter FG, Tryd.ntmps88
  go_wp2
  go_loopg [10, 11] (b - m) (fun kx s10 s11 wr => ∃ (i j : Nat), s10 = .int .i64 i ∧ s11 = .int .i64 j ∧ m ≤ i ∧ i ≤ j ∧ j ≤ b ∧ j - i ≤ kx ∧ Aside (SWK enc k w0 blk off d wr) ∧ Hid (i = m ∨ p (arrF d a) < p (arrF d (i - 1))) ∧ Hid (j = b ∨ p (arrF d j) ≤ p (arrF d a)))
  case atStart => exact ⟨m, b, rfl, rfl, Nat.le_refl _, by omega, Nat.le_refl _, Nat.le_refl _, S0, .inl rfl, .inl rfl⟩
  case round =>
    clear S0
    obtain ⟨i, j, rfl, rfl, hai, hij, hjb, hkx, S1, HI, HJ⟩ := hrel
    by_cases hlt : i < j
    · have hltz : (i : Int) < (j : Int) := by omega
      obtain ⟨h, hh⟩ : ∃ h, h = (i + j) / 2 := ⟨_, rfl⟩
      have hhz : ((i : Int) + (j : Int)) / 2 = (h : Int) := by omega
      have hh1 : i ≤ h := by omega
      have hh2 : h < j := by omega
      clear hh
      by_cases hv : cf d[h]! d[a]! < 0
      · have HN : Hid (h + 1 = m ∨ p (arrF d a) < p (arrF d (h + 1 - 1))) := .inr ((HF.out _ _).1 hv)
        have ea24 : ((h : Int)).toNat = h := by omega
        have pa24 : (0 : Int) ≤ (h : Int) := by omega
        have ba24 : (h : Int) < (d.size : Int) := by omega
        have ra24 : IntKind.i64.wrap ((h : Int)) = (h : Int) := by rw [IntKind.wrap_i64]; omega
        have ec24 : ((a : Int)).toNat = a := by omega
        have pc24 : (0 : Int) ≤ (a : Int) := by omega
        have bc24 : (a : Int) < (d.size : Int) := by omega
        have rc24 : IntKind.i64.wrap ((a : Int)) = (a : Int) := by rw [IntKind.wrap_i64]; omega
        obtain ⟨x24, hx24⟩ : ∃ x, x = d[h]! := ⟨_, rfl⟩
        obtain ⟨y24, hy24⟩ : ∃ x, x = d[a]! := ⟨_, rfl⟩
        have l24a := S1.out.ld R (by omega) P (h) (by omega)
        have l24b := S1.out.ld R (by omega) P (a) (by omega)
        rw [← hx24] at l24a
        rw [← hy24] at l24b
        have hc24 := S1.out.cmp HC.out (by omega) x24 y24
        have hv24 : cf x24 y24 < 0 := by rw [hx24, hy24]; exact hv
        have hd24 : decide (cf x24 y24 < 0) = true := decide_eq_true hv24
        clear hx24 hy24 hv
        go_wp2_with fail
        go_quiet_grown (first | (go_at_fn g; refine Calls.grown_of (hc24 _ _)))
        have S2 : Aside (SWK enc k w0 blk off d (grow (wr.drewN nq) osq)) := S1.out.grown nq osq
        clear l24a l24b hc24 S1
        generalize grow (wr.drewN nq) osq = w2 at S2 ⊢
        clear nq osq
        go_wp2
        go_roundg (j - (h + 1))
        case measure => omega
        case rel => exact ⟨h + 1, j, by go_num, rfl, by omega, by omega, hjb, Nat.le_refl _, S2, HN, HJ⟩
      · have HN : Hid (h = b ∨ p (arrF d h) ≤ p (arrF d a)) := .inr (by have := mt (HF.out d[h]! d[a]!).2 hv; exact Int.not_lt.1 this)
        have ea25 : ((h : Int)).toNat = h := by omega
        have pa25 : (0 : Int) ≤ (h : Int) := by omega
        have ba25 : (h : Int) < (d.size : Int) := by omega
        have ra25 : IntKind.i64.wrap ((h : Int)) = (h : Int) := by rw [IntKind.wrap_i64]; omega
        have ec25 : ((a : Int)).toNat = a := by omega
        have pc25 : (0 : Int) ≤ (a : Int) := by omega
        have bc25 : (a : Int) < (d.size : Int) := by omega
        have rc25 : IntKind.i64.wrap ((a : Int)) = (a : Int) := by rw [IntKind.wrap_i64]; omega
        obtain ⟨x25, hx25⟩ : ∃ x, x = d[h]! := ⟨_, rfl⟩
        obtain ⟨y25, hy25⟩ : ∃ x, x = d[a]! := ⟨_, rfl⟩
        have l25a := S1.out.ld R (by omega) P (h) (by omega)
        have l25b := S1.out.ld R (by omega) P (a) (by omega)
        rw [← hx25] at l25a
        rw [← hy25] at l25b
        have hc25 := S1.out.cmp HC.out (by omega) x25 y25
        have hv25 : ¬ cf x25 y25 < 0 := by rw [hx25, hy25]; exact hv
        have hd25 : decide (cf x25 y25 < 0) = false := decide_eq_false hv25
        clear hx25 hy25 hv
        go_wp2_with fail
        go_quiet_grown (first | (go_at_fn g; refine Calls.grown_of (hc25 _ _)))
        have S2 : Aside (SWK enc k w0 blk off d (grow (wr.drewN nq) osq)) := S1.out.grown nq osq
        clear l25a l25b hc25 S1
        generalize grow (wr.drewN nq) osq = w2 at S2 ⊢
        clear nq osq
        go_wp2
        go_roundg (h - i)
        case measure => omega
        case rel => exact ⟨i, h, rfl, rfl, hai, hh1, by omega, Nat.le_refl _, S2, HI, HN⟩
    · have hltz : ¬ (i : Int) < (j : Int) := by omega
      obtain rfl : i = j := by omega
      go_wp2
      go_loopg [13] b (fun kx s13 wr2 => ∃ (q : Nat) (dk : Array α), s13 = .int .i64 q ∧ a ≤ q ∧ q + 1 ≤ i ∧ i - q ≤ kx ∧ dk.size = d.size ∧ Aside (SWK enc k w0 blk off dk wr2) ∧ Hid (arrF dk = rotF (arrF d) a (a + 1) (q + 1)))
      case atStart => exact ⟨a, d, rfl, Nat.le_refl _, by omega, by omega, rfl, S1, (rot_up0 _ _).symm⟩
      case round =>
        clear S1
        obtain ⟨q, dk, rfl, haq, hqi, hkx2, hds, S1, HE⟩ := hrel
        by_cases hq : q + 1 < i
        · have hqz : (q : Int) < (i : Int) - 1 := by omega
          have HE2 : Hid (arrF (swp dk q (q + 1)) = rotF (arrF d) a (a + 1) (q + 1 + 1)) := by
            show _ = _
            rw [swp_fun dk _ _ (by omega) (by omega), HE.out, rot_up _ _ _ haq]
          go_wp2_with fail
          have ea44 : ((q : Int)).toNat = q := by omega
          have pa44 : (0 : Int) ≤ (q : Int) := by omega
          have ba44 : (q : Int) < (d.size : Int) := by omega
          have ra44 : IntKind.i64.wrap ((q : Int)) = (q : Int) := by rw [IntKind.wrap_i64]; omega
          have ec44 : ((q : Int) + 1).toNat = q + 1 := by omega
          have pc44 : (0 : Int) ≤ (q : Int) + 1 := by omega
          have bc44 : (q : Int) + 1 < (d.size : Int) := by omega
          have rc44 : IntKind.i64.wrap ((q : Int) + 1) = (q : Int) + 1 := by rw [IntKind.wrap_i64]; omega
          have S2 : Aside (SWK enc k w0 blk off (swp dk (q) (q + 1)) ((wr.drew.setCells blk (off + (q) * k) (enc dk[q + 1]!)).setCells blk (off + (q + 1) * k) (enc dk[q]!))) := S1.out.swapped R (q) (q + 1) (by omega) (by omega)
          have l44a := S1.out.ld1 R (by omega) P (q) (by omega)
          have l44b := S1.out.ld1 R (by omega) P (q + 1) (by omega)
          have s44a := S1.out.st1 R (by omega) P (q) (by omega) dk[q + 1]!
          have s44b := S1.out.st2 R (by omega) P (q) (q + 1) (by omega) (by omega) dk[q + 1]! dk[q]!
          have n44a : (enc dk[q]!).length = k := R.hk _
          have n44b : (enc dk[q + 1]!).length = k := R.hk _
          generalize enc dk[q]! = cI44 at S2 l44a s44b n44a
          generalize enc dk[q + 1]! = cJ44 at S2 l44b s44a s44b n44b
          clear S1
          go_wp2_with fail
          go_big_region_o
          clear l44a l44b s44a s44b
          generalize (wr.drew.setCells blk (off + (q) * k) cJ44).setCells blk (off + (q + 1) * k) cI44 = w2 at S2 ⊢
          go_wp2
          go_roundg (i - (q + 1))
          case measure => omega
          case rel => exact ⟨q + 1, swp dk q (q + 1), by go_num, by omega, by omega, Nat.le_refl _, by rw [size_swp]; exact hds, S2, HE2⟩
        · have hqz : ¬ (q : Int) < (i : Int) - 1 := by omega
          obtain rfl : i = q + 1 := by omega
          go_wp2
          (try simp only [Exit.inBlock, Exit.then]); refine bodyPost_ret (results_none rfl _ _ _) rfl ?_
          refine ⟨rfl, dk, hds, S1.out, ?_⟩
          rw [HE.out]
          obtain rfl := HM.out
          exact merged_one (by omega) hjb HY.out HI.out HJ.out
set_option maxHeartbeats 16000000 in
set_option maxRecDepth 1000000 in
/-- slices.symMergeCmpFunc where the second part is one element. -/
theorem sym_last {P : Program} {k : Nat} (L : StP P k) (enc : α → List Value) (p : α → Int) (cf : α → α → Int) (hcf : ∀ x y, cf x y < 0 ↔ p y < p x) (g : Nat) (cb : Array Value) (blk off cap : Nat) (d0 : Array α) (w0 : World)
    (eg : ∀ args w, (callFunc g args).run P w = .ok (.enter g args) w) (hcmp : CmpLays P g cb enc k cf blk off d0.size w0) (R : RowK enc k w0 blk off d0) (a m b : Nat) (hm : b = m + 1) (d : Array α) (w : World) (hs : d0.size = d.size) (S : SWK enc k w0 blk off d w) (ham : a + 1 < m) (hb : b ≤ d.size) (hsz : d.size < 4611686018427387904) (hX : DescF p (arrF d) a m) :
    Calls P 88 #[.slice (some ⟨blk, off, none⟩) d.size cap, .int .i64 a, .int .i64 m, .int .i64 b, .func (.func g) #[] cb] w fun e w' => e = .returned (.tuple #[]) ∧ ∃ d', d'.size = d.size ∧ SWK enc k w0 blk off d' w' ∧ Merged p (arrF d) (arrF d') a b := by
  have mixed := L.mixed
  have t0 := L.t0; have a0 := L.a0; have z0 := L.z0; have v0 := L.v0
  have t3 := L.t3; have a3 := L.a3; have z3 := L.z3; have v3 := L.v3
  have t4 := L.t4; have a4 := L.a4; have z4 := L.z4; have v4 := L.v4
  have tS := L.tS; have aS := L.aS; have zS := L.zS; have vS := L.vS
  have tF := L.tF; have aF := L.aF; have zF := L.zF; have vF := L.vF
  have tU := L.tU; have aU := L.aU; have zU := L.zU; have vU := L.vU
  have aE := L.aE; have zE := L.zE
  have FG := L.f_symMerge
  have HC : Aside _ := hcmp
  have S0 : Aside (SWK enc k w0 blk off d w) := S
  have HF : Hid (∀ x y, cf x y < 0 ↔ p y < p x) := hcf
  have HX : Hid (DescF p (arrF d) a m) := hX
  have hne : (((m : Int) - (a : Int)) == 1) = false := by simp; omega
  have HM : Hid (b = m + 1) := hm
  have hmz : (b : Int) - (m : Int) = 1 := by omega
  have hmb : m < b := by omega
  clear hcmp S hcf hX L hm
  go_enter FG, Tryd.ntmps88
  go_wp2
  go_loopg [14, 15] (m - a) (fun kx s10 s11 wr => ∃ (i j : Nat), s10 = .int .i64 i ∧ s11 = .int .i64 j ∧ a ≤ i ∧ i ≤ j ∧ j ≤ m ∧ j - i ≤ kx ∧ Aside (SWK enc k w0 blk off d wr) ∧ Hid (i = a ∨ p (arrF d m) ≤ p (arrF d (i - 1))) ∧ Hid (j = m ∨ p (arrF d j) < p (arrF d m)))
  case atStart => exact ⟨a, m, rfl, rfl, Nat.le_refl _, by omega, Nat.le_refl _, Nat.le_refl _, S0, .inl rfl, .inl rfl⟩
  case round =>
    clear S0
    obtain ⟨i, j, rfl, rfl, hai, hij, hjb, hkx, S1, HI, HJ⟩ := hrel
    by_cases hlt : i < j
    · have hltz : (i : Int) < (j : Int) := by omega
      obtain ⟨h, hh⟩ : ∃ h, h = (i + j) / 2 := ⟨_, rfl⟩
      have hhz : ((i : Int) + (j : Int)) / 2 = (h : Int) := by omega
      have hh1 : i ≤ h := by omega
      have hh2 : h < j := by omega
      clear hh
      by_cases hv : cf d[m]! d[h]! < 0
      · have HN : Hid (h = m ∨ p (arrF d h) < p (arrF d m)) := .inr ((HF.out _ _).1 hv)
        have ea24 : ((m : Int)).toNat = m := by omega
        have pa24 : (0 : Int) ≤ (m : Int) := by omega
        have ba24 : (m : Int) < (d.size : Int) := by omega
        have ra24 : IntKind.i64.wrap ((m : Int)) = (m : Int) := by rw [IntKind.wrap_i64]; omega
        have ec24 : ((h : Int)).toNat = h := by omega
        have pc24 : (0 : Int) ≤ (h : Int) := by omega
        have bc24 : (h : Int) < (d.size : Int) := by omega
        have rc24 : IntKind.i64.wrap ((h : Int)) = (h : Int) := by rw [IntKind.wrap_i64]; omega
        obtain ⟨x24, hx24⟩ : ∃ x, x = d[m]! := ⟨_, rfl⟩
        obtain ⟨y24, hy24⟩ : ∃ x, x = d[h]! := ⟨_, rfl⟩
        have l24a := S1.out.ld R (by omega) P (m) (by omega)
        have l24b := S1.out.ld R (by omega) P (h) (by omega)
        rw [← hx24] at l24a
        rw [← hy24] at l24b
        have hc24 := S1.out.cmp HC.out (by omega) x24 y24
        have hv24 : cf x24 y24 < 0 := by rw [hx24, hy24]; exact hv
        have hd24 : decide (cf x24 y24 < 0) = true := decide_eq_true hv24
        clear hx24 hy24 hv
        go_wp2_with fail
        go_quiet_grown (first | (go_at_fn g; refine Calls.grown_of (hc24 _ _)))
        have S2 : Aside (SWK enc k w0 blk off d (grow (wr.drewN nq) osq)) := S1.out.grown nq osq
        clear l24a l24b hc24 S1
        generalize grow (wr.drewN nq) osq = w2 at S2 ⊢
        clear nq osq
        go_wp2
        go_roundg (h - i)
        case measure => omega
        case rel => exact ⟨i, h, rfl, rfl, hai, hh1, by omega, Nat.le_refl _, S2, HI, HN⟩
      · have HN : Hid (h + 1 = a ∨ p (arrF d m) ≤ p (arrF d (h + 1 - 1))) := .inr (by have := mt (HF.out d[m]! d[h]!).2 hv; exact Int.not_lt.1 this)
        have ea25 : ((m : Int)).toNat = m := by omega
        have pa25 : (0 : Int) ≤ (m : Int) := by omega
        have ba25 : (m : Int) < (d.size : Int) := by omega
        have ra25 : IntKind.i64.wrap ((m : Int)) = (m : Int) := by rw [IntKind.wrap_i64]; omega
        have ec25 : ((h : Int)).toNat = h := by omega
        have pc25 : (0 : Int) ≤ (h : Int) := by omega
        have bc25 : (h : Int) < (d.size : Int) := by omega
        have rc25 : IntKind.i64.wrap ((h : Int)) = (h : Int) := by rw [IntKind.wrap_i64]; omega
        obtain ⟨x25, hx25⟩ : ∃ x, x = d[m]! := ⟨_, rfl⟩
        obtain ⟨y25, hy25⟩ : ∃ x, x = d[h]! := ⟨_, rfl⟩
        have l25a := S1.out.ld R (by omega) P (m) (by omega)
        have l25b := S1.out.ld R (by omega) P (h) (by omega)
        rw [← hx25] at l25a
        rw [← hy25] at l25b
        have hc25 := S1.out.cmp HC.out (by omega) x25 y25
        have hv25 : ¬ cf x25 y25 < 0 := by rw [hx25, hy25]; exact hv
        have hd25 : decide (cf x25 y25 < 0) = false := decide_eq_false hv25
        clear hx25 hy25 hv
        go_wp2_with fail
        go_quiet_grown (first | (go_at_fn g; refine Calls.grown_of (hc25 _ _)))
        have S2 : Aside (SWK enc k w0 blk off d (grow (wr.drewN nq) osq)) := S1.out.grown nq osq
        clear l25a l25b hc25 S1
        generalize grow (wr.drewN nq) osq = w2 at S2 ⊢
        clear nq osq
        go_wp2
        go_roundg (j - (h + 1))
        case measure => omega
        case rel => exact ⟨h + 1, j, by go_num, rfl, by omega, by omega, hjb, Nat.le_refl _, S2, HN, HJ⟩
    · have hltz : ¬ (i : Int) < (j : Int) := by omega
      obtain rfl : i = j := by omega
      go_wp2
      go_loopg [17] (m + 1) (fun kx s13 wr2 => ∃ (q : Nat) (dk : Array α), s13 = .int .i64 q ∧ i ≤ q ∧ q ≤ m ∧ q ≤ kx ∧ dk.size = d.size ∧ Aside (SWK enc k w0 blk off dk wr2) ∧ Hid (arrF dk = rotF (arrF d) q m (m + 1)))
      case atStart => exact ⟨m, d, rfl, hjb, Nat.le_refl _, by omega, rfl, S1, (rot_down0 _ _).symm⟩
      case round =>
        clear S1
        obtain ⟨q, dk, rfl, haq, hqi, hkx2, hds, S1, HE⟩ := hrel
        by_cases hq : i < q
        · obtain ⟨q', rfl⟩ : ∃ q', q = q' + 1 := ⟨q - 1, by omega⟩
          have hqz : (i : Int) < (q' : Int) + 1 := by omega
          have HE2 : Hid (arrF (swp dk (q' + 1) q') = rotF (arrF d) q' m (m + 1)) := by
            show _ = _
            rw [swp_fun dk _ _ (by omega) (by omega), HE.out, rot_down _ _ _ (by omega)]
          go_wp2_with fail
          have ea44 : ((q' : Int) + 1).toNat = q' + 1 := by omega
          have pa44 : (0 : Int) ≤ (q' : Int) + 1 := by omega
          have ba44 : (q' : Int) + 1 < (d.size : Int) := by omega
          have ra44 : IntKind.i64.wrap ((q' : Int) + 1) = (q' : Int) + 1 := by rw [IntKind.wrap_i64]; omega
          have ec44 : ((q' : Int)).toNat = q' := by omega
          have pc44 : (0 : Int) ≤ (q' : Int) := by omega
          have bc44 : (q' : Int) < (d.size : Int) := by omega
          have rc44 : IntKind.i64.wrap ((q' : Int)) = (q' : Int) := by rw [IntKind.wrap_i64]; omega
          have S2 : Aside (SWK enc k w0 blk off (swp dk (q' + 1) (q')) ((wr.drew.setCells blk (off + (q' + 1) * k) (enc dk[q']!)).setCells blk (off + (q') * k) (enc dk[q' + 1]!))) := S1.out.swapped R (q' + 1) (q') (by omega) (by omega)
          have l44a := S1.out.ld1 R (by omega) P (q' + 1) (by omega)
          have l44b := S1.out.ld1 R (by omega) P (q') (by omega)
          have s44a := S1.out.st1 R (by omega) P (q' + 1) (by omega) dk[q']!
          have s44b := S1.out.st2 R (by omega) P (q' + 1) (q') (by omega) (by omega) dk[q']! dk[q' + 1]!
          have n44a : (enc dk[q' + 1]!).length = k := R.hk _
          have n44b : (enc dk[q']!).length = k := R.hk _
          generalize enc dk[q' + 1]! = cI44 at S2 l44a s44b n44a
          generalize enc dk[q']! = cJ44 at S2 l44b s44a s44b n44b
          clear S1
          go_wp2_with fail
          go_big_region_o
          clear l44a l44b s44a s44b
          generalize (wr.drew.setCells blk (off + (q' + 1) * k) cJ44).setCells blk (off + (q') * k) cI44 = w2 at S2 ⊢
          go_wp2
          go_roundg q'
          case measure => omega
          case rel => exact ⟨q', swp dk (q' + 1) q', by first | rfl | go_num, by omega, by omega, Nat.le_refl _, by rw [size_swp]; exact hds, S2, HE2⟩
        · have hqz : ¬ (i : Int) < (q : Int) := by omega
          obtain rfl : i = q := by omega
          go_wp2
          (try simp only [Exit.inBlock, Exit.then]); refine bodyPost_ret (results_none rfl _ _ _) rfl ?_
          refine ⟨rfl, dk, hds, S1.out, ?_⟩
          rw [HE.out]
          obtain rfl := HM.out
          exact merged_last hai hjb HX.out HI.out HJ.out
end Go.Proofs.YtnbklmmampdbfaaDoor
namespace Go.Proofs.YtnbklmmampdbfaaDoor
open Go Go.Shelf Go.RowKit Go.Lib Go.Sort
set_option maxRecDepth 20000

variable {α : Type} [Inhabited α]
set_option maxHeartbeats 16000000 in
set_option maxRecDepth 1000000 in
/-- slices.symMergeCmpFunc: two sorted parts side by side become one, those of one number in their order. -/
theorem sym_step {P : Program} {k : Nat} (L : StP P k) (enc : α → List Value) (p : α → Int) (cf : α → α → Int) (hcf : ∀ x y, cf x y < 0 ↔ p y < p x) (g : Nat) (cb : Array Value) (blk off cap : Nat) (d0 : Array α) (w0 : World)
    (eg : ∀ args w, (callFunc g args).run P w = .ok (.enter g args) w) (hcmp : CmpLays P g cb enc k cf blk off d0.size w0) (R : RowK enc k w0 blk off d0) (N : Nat)
    (IH : Hid (∀ (a m b : Nat) (d : Array α) (w : World), b - a ≤ N → d0.size = d.size → SWK enc k w0 blk off d w → a < m → m < b → b ≤ d.size → d.size < 4611686018427387904 → DescF p (arrF d) a m → DescF p (arrF d) m b →
      Calls P 88 #[.slice (some ⟨blk, off, none⟩) d.size cap, .int .i64 a, .int .i64 m, .int .i64 b, .func (.func g) #[] cb] w fun e w' => e = .returned (.tuple #[]) ∧ ∃ d', d'.size = d.size ∧ SWK enc k w0 blk off d' w' ∧ Merged p (arrF d) (arrF d') a b))
    (a m b : Nat) (d : Array α) (w : World) (hN : b - a ≤ N + 1) (hs : d0.size = d.size) (S : SWK enc k w0 blk off d w) (ham : a + 1 < m) (hmb : m + 1 < b) (hb : b ≤ d.size) (hsz : d.size < 4611686018427387904) (hX : DescF p (arrF d) a m) (hY : DescF p (arrF d) m b) :
    Calls P 88 #[.slice (some ⟨blk, off, none⟩) d.size cap, .int .i64 a, .int .i64 m, .int .i64 b, .func (.func g) #[] cb] w fun e w' => e = .returned (.tuple #[]) ∧ ∃ d', d'.size = d.size ∧ SWK enc k w0 blk off d' w' ∧ Merged p (arrF d) (arrF d') a b := by
  have mixed := L.mixed
  have t0 := L.t0; have a0 := L.a0; have z0 := L.z0; have v0 := L.v0
  have t3 := L.t3; have a3 := L.a3; have z3 := L.z3; have v3 := L.v3
  have t4 := L.t4; have a4 := L.a4; have z4 := L.z4; have v4 := L.v4
  have tS := L.tS; have aS := L.aS; have zS := L.zS; have vS := L.vS
  have tF := L.tF; have aF := L.aF; have zF := L.zF; have vF := L.vF
  have tU := L.tU; have aU := L.aU; have zU := L.zU; have vU := L.vU
  have aE := L.aE; have zE := L.zE
  have FG := L.f_symMerge
  have e101 : ∀ args w, (callFunc 101 args).run P w = .ok (.enter 101 args) w := enters_of L.f_rotate (by kernel_rfl) rfl
  have e88 : ∀ args w, (callFunc 88 args).run P w = .ok (.enter 88 args) w := enters_of L.f_symMerge (by kernel_rfl) rfl
  have HC : Aside _ := hcmp
  have S0 : Aside (SWK enc k w0 blk off d w) := S
  have HF : Hid (∀ x y, cf x y < 0 ↔ p y < p x) := hcf
  have HX : Hid (DescF p (arrF d) a m) := hX
  have HY : Hid (DescF p (arrF d) m b) := hY
  have hne : (((m : Int) - (a : Int)) == 1) = false := by simp; omega
  have hne2 : (((b : Int) - (m : Int)) == 1) = false := by simp; omega
  have LL : Hid (StP P k) := L
  have HCM : Hid (CmpLays P g cb enc k cf blk off d0.size w0) := hcmp
  obtain ⟨mid, hm0⟩ : ∃ h, h = (a + b) / 2 := ⟨_, rfl⟩
  have hmz : ((a : Int) + (b : Int)) / 2 = (mid : Int) := by omega
  have hm1 : a < mid := by omega
  have hm2 : mid < b := by omega
  have hm3 : a + b ≤ mid + mid + 1 := by omega
  have hm4 : mid + mid ≤ a + b := by omega
  clear hcmp S hcf hX hY L hm0
  go_enter FG, Tryd.ntmps88
  go_upto_if 140 with fail
  generalize hb : decide ((mid : Int) < (m : Int)) = tb
  have HB : Hid (decide ((mid : Int) < (m : Int)) = tb) := hb
  clear hb
  go_cut [20, 21] from 141 to 146 (fun s20 s21 wx => ∃ (s r : Nat), s20 = .int .i64 s ∧ s21 = .int .i64 r ∧ a ≤ s ∧ s ≤ r ∧ r ≤ m ∧ mid + m ≤ b + s ∧ r ≤ mid ∧ Hid ((s = a ∨ s + b = mid + m) ∧ (r = m ∨ r = mid)) ∧ Aside (SWK enc k w0 blk off d wx))
  case first =>
    cases tb with
    | true =>
      have h : mid < m := by have := of_decide_eq_true HB.out; omega
      go_wp2
      go_meet
      case rel => exact ⟨mid + m - b, mid, by rw [show ((mid + m - b : Nat) : Int) = (mid : Int) + (m : Int) - (b : Int) by omega], rfl, by omega, by omega, by omega, by omega, by omega, ⟨.inr (by omega), .inr rfl⟩, S0⟩
    | false =>
      have h : ¬ mid < m := by have := of_decide_eq_false HB.out; omega
      go_wp2
      go_meet
      case rel => exact ⟨a, m, rfl, rfl, by omega, by omega, by omega, by omega, by omega, ⟨.inl rfl, .inl rfl⟩, S0⟩
  case rest =>
    clear S0
    obtain ⟨s0, r0, rfl, rfl, hs1, hs2, hs3, hs4, hs5, HSR, S0⟩ := hcut
    go_wp2
    go_loopg [20, 21] (r0 - s0) (fun kx s20 s21 wr => ∃ (i j : Nat), s20 = .int .i64 i ∧ s21 = .int .i64 j ∧ s0 ≤ i ∧ i ≤ j ∧ j ≤ r0 ∧ j - i ≤ kx ∧ Aside (SWK enc k w0 blk off d wr) ∧ Hid (i = s0 ∨ p (arrF d (mid + m - i)) ≤ p (arrF d (i - 1))) ∧ Hid (j = r0 ∨ p (arrF d j) < p (arrF d (mid + m - j - 1))))
    case atStart => exact ⟨s0, r0, rfl, rfl, Nat.le_refl _, hs2, Nat.le_refl _, Nat.le_refl _, S0, .inl rfl, .inl rfl⟩
    case round =>
      clear S0
      obtain ⟨i, j, rfl, rfl, hai, hij, hjb, hkx, S1, HI, HJ⟩ := hrel
      by_cases hlt : i < j
      · have hltz : (i : Int) < (j : Int) := by omega
        obtain ⟨h, hh⟩ : ∃ h, h = (i + j) / 2 := ⟨_, rfl⟩
        have hhz : ((i : Int) + (j : Int)) / 2 = (h : Int) := by omega
        have hh1 : i ≤ h := by omega
        have hh2 : h < j := by omega
        clear hh
        obtain ⟨u, hu⟩ : ∃ u, u = mid + m - 1 - h := ⟨_, rfl⟩
        have huz : (mid : Int) + (m : Int) - 1 - (h : Int) = (u : Int) := by omega
        have hub : u < b := by omega
        have HU : Hid (u = mid + m - 1 - h) := hu
        clear hu
        by_cases hv : cf d[u]! d[h]! < 0
        · have HN : Hid (h = r0 ∨ p (arrF d h) < p (arrF d (mid + m - h - 1))) := .inr (by have hu := HU.out; rw [show mid + m - h - 1 = u by omega]; exact (HF.out _ _).1 hv)
          have ea24 : ((u : Int)).toNat = u := by omega
          have pa24 : (0 : Int) ≤ (u : Int) := by omega
          have ba24 : (u : Int) < (d.size : Int) := by omega
          have ra24 : IntKind.i64.wrap ((u : Int)) = (u : Int) := by rw [IntKind.wrap_i64]; omega
          have ec24 : ((h : Int)).toNat = h := by omega
          have pc24 : (0 : Int) ≤ (h : Int) := by omega
          have bc24 : (h : Int) < (d.size : Int) := by omega
          have rc24 : IntKind.i64.wrap ((h : Int)) = (h : Int) := by rw [IntKind.wrap_i64]; omega
          obtain ⟨x24, hx24⟩ : ∃ x, x = d[u]! := ⟨_, rfl⟩
          obtain ⟨y24, hy24⟩ : ∃ x, x = d[h]! := ⟨_, rfl⟩
          have l24a := S1.out.ld R (by omega) P (u) (by omega)
          have l24b := S1.out.ld R (by omega) P (h) (by omega)
          rw [← hx24] at l24a
          rw [← hy24] at l24b
          have hc24 := S1.out.cmp HC.out (by omega) x24 y24
          have hv24 : cf x24 y24 < 0 := by rw [hx24, hy24]; exact hv
          have hd24 : decide (cf x24 y24 < 0) = true := decide_eq_true hv24
          clear hx24 hy24 hv
          go_wp2_with fail
          go_quiet_grown (first | (go_at_fn g; refine Calls.grown_of (hc24 _ _)))
          have S2 : Aside (SWK enc k w0 blk off d (grow (wr.drewN nq) osq)) := S1.out.grown nq osq
          clear l24a l24b hc24 S1
          generalize grow (wr.drewN nq) osq = w2 at S2 ⊢
          clear nq osq
          go_wp2
          go_roundg (h - i)
          case measure => omega
          case rel => exact ⟨i, h, rfl, rfl, hai, hh1, by omega, Nat.le_refl _, S2, HI, HN⟩
        · have HN : Hid (h + 1 = s0 ∨ p (arrF d (mid + m - (h + 1))) ≤ p (arrF d (h + 1 - 1))) := .inr (by have := mt (HF.out d[u]! d[h]!).2 hv; have hu := HU.out; rw [show mid + m - (h + 1) = u by omega]; exact Int.not_lt.1 this)
          have ea25 : ((u : Int)).toNat = u := by omega
          have pa25 : (0 : Int) ≤ (u : Int) := by omega
          have ba25 : (u : Int) < (d.size : Int) := by omega
          have ra25 : IntKind.i64.wrap ((u : Int)) = (u : Int) := by rw [IntKind.wrap_i64]; omega
          have ec25 : ((h : Int)).toNat = h := by omega
          have pc25 : (0 : Int) ≤ (h : Int) := by omega
          have bc25 : (h : Int) < (d.size : Int) := by omega
          have rc25 : IntKind.i64.wrap ((h : Int)) = (h : Int) := by rw [IntKind.wrap_i64]; omega
          obtain ⟨x25, hx25⟩ : ∃ x, x = d[u]! := ⟨_, rfl⟩
          obtain ⟨y25, hy25⟩ : ∃ x, x = d[h]! := ⟨_, rfl⟩
          have l25a := S1.out.ld R (by omega) P (u) (by omega)
          have l25b := S1.out.ld R (by omega) P (h) (by omega)
          rw [← hx25] at l25a
          rw [← hy25] at l25b
          have hc25 := S1.out.cmp HC.out (by omega) x25 y25
          have hv25 : ¬ cf x25 y25 < 0 := by rw [hx25, hy25]; exact hv
          have hd25 : decide (cf x25 y25 < 0) = false := decide_eq_false hv25
          clear hx25 hy25 hv
          go_wp2_with fail
          go_quiet_grown (first | (go_at_fn g; refine Calls.grown_of (hc25 _ _)))
          have S2 : Aside (SWK enc k w0 blk off d (grow (wr.drewN nq) osq)) := S1.out.grown nq osq
          clear l25a l25b hc25 S1
          generalize grow (wr.drewN nq) osq = w2 at S2 ⊢
          clear nq osq
          go_wp2
          go_roundg (j - (h + 1))
          case measure => omega
          case rel => exact ⟨h + 1, j, by go_num, rfl, by omega, by omega, hjb, Nat.le_refl _, S2, HN, HJ⟩
      · have hltz : ¬ (i : Int) < (j : Int) := by omega
        obtain rfl : i = j := by omega
        obtain ⟨en, hen⟩ : ∃ en, en = mid + m - i := ⟨_, rfl⟩
        have henz : (mid : Int) + (m : Int) - (i : Int) = (en : Int) := by omega
        have hsum : i + en = mid + m := by omega
        have h1 : a ≤ i := by omega
        have h2 : i ≤ m := by omega
        have h3 : m ≤ en := by omega
        have h4 : en ≤ b := by omega
        have Q : Hid ((i = a ∨ en = b ∨ p (arrF d en) ≤ p (arrF d (i - 1))) ∧ (i = m ∨ en = m ∨ p (arrF d i) < p (arrF d (en - 1)))) := by
          obtain ⟨g1, g2⟩ := HSR.out
          refine ⟨?_, ?_⟩
          · rcases HI.out with e | e
            · rcases g1 with g1 | g1
              · left; omega
              · right; left; omega
            · right; right; rw [hen]; exact e
          · rcases HJ.out with e | e
            · rcases g2 with g2 | g2
              · left; omega
              · right; left; omega
            · right; right; rw [hen]; exact e
        clear hen HSR HI HJ
        go_upto_region 39 with fail
        go_cut [185] from 178 to 185 (fun c wx => c = .bool (decide (i < m ∧ m < en)) ∧ Aside (SWK enc k w0 blk off d wx))
        case first =>
          by_cases c1 : i < m
          · have c1z : (i : Int) < (m : Int) := by omega
            by_cases c2 : m < en
            · have c2z : (m : Int) < (en : Int) := by omega
              have HV : Hid (decide (i < m ∧ m < en) = true) := decide_eq_true ⟨c1, c2⟩
              go_wp2
              go_meet
              case rel => exact ⟨by rw [HV.out], S1⟩
            · have c2z : ¬ (m : Int) < (en : Int) := by omega
              have HV : Hid (decide (i < m ∧ m < en) = false) := decide_eq_false (by omega)
              go_wp2
              go_meet
              case rel => exact ⟨by rw [HV.out], S1⟩
          · have c1z : ¬ (i : Int) < (m : Int) := by omega
            have HV : Hid (decide (i < m ∧ m < en) = false) := decide_eq_false (by omega)
            go_wp2
            go_meet
            case rel => exact ⟨by rw [HV.out], S1⟩
        case rest =>
        clear S1
        obtain ⟨rfl, S1⟩ := hcut
        generalize hb1 : decide (i < m ∧ m < en) = tb1
        have HB1 : Hid (decide (i < m ∧ m < en) = tb1) := hb1
        clear hb1
        go_upto_if 185 with fail
        go_cut [] from 186 to 191 (fun wx => ∃ d1 : Array α, d1.size = d.size ∧ arrF d1 = rotF (arrF d) i m en ∧ Aside (SWK enc k w0 blk off d1 wx))
        case first =>
          cases tb1 with
          | true =>
            obtain ⟨c1, c2⟩ := of_decide_eq_true HB1.out
            have hc := rotate_any LL.out enc g cb blk off cap i m en d0 d w0 wc R hs S1.out c1 c2 (by omega) hsz
            clear S1
            go_wp2_with (go_at_fn 101; refine hc.mono ?_; rintro e w1 ⟨rfl, d1, hd1, S3, hE⟩)
            go_meet
            case rel => exact ⟨d1, hd1, hE, S3⟩
          | false =>
            have hE : Hid (arrF d = rotF (arrF d) i m en) := by
              have := of_decide_eq_false HB1.out
              by_cases c1 : i = m
              · rw [c1, rot_none1]; rfl
              · have c2 : en = m := by omega
                rw [c2, rot_none2]; rfl
            go_wp2
            go_meet
            case rel => exact ⟨d, rfl, hE.out, S1⟩
        case rest =>
          clear S1
          obtain ⟨d1, hd1, hE1, S1⟩ := hcut
          clear HB1
          have HE1 : Hid (arrF d1 = rotF (arrF d) i m en) := hE1
          clear hE1
          go_upto_region 41 with fail
          go_cut [199] from 192 to 199 (fun c wx => c = .bool (decide (a < i ∧ i < mid)) ∧ Aside (SWK enc k w0 blk off d1 wx))
          case first =>
            by_cases c1 : a < i
            · have c1z : (a : Int) < (i : Int) := by omega
              by_cases c2 : i < mid
              · have c2z : (i : Int) < (mid : Int) := by omega
                have HV : Hid (decide (a < i ∧ i < mid) = true) := decide_eq_true ⟨c1, c2⟩
                go_wp2
                go_meet
                case rel => exact ⟨by rw [HV.out], S1⟩
              · have c2z : ¬ (i : Int) < (mid : Int) := by omega
                have HV : Hid (decide (a < i ∧ i < mid) = false) := decide_eq_false (by omega)
                go_wp2
                go_meet
                case rel => exact ⟨by rw [HV.out], S1⟩
            · have c1z : ¬ (a : Int) < (i : Int) := by omega
              have HV : Hid (decide (a < i ∧ i < mid) = false) := decide_eq_false (by omega)
              go_wp2
              go_meet
              case rel => exact ⟨by rw [HV.out], S1⟩
          case rest =>
          clear S1
          obtain ⟨rfl, S1⟩ := hcut
          generalize hb2 : decide (a < i ∧ i < mid) = tb2
          have HB2 : Hid (decide (a < i ∧ i < mid) = tb2) := hb2
          clear hb2
          go_upto_if 199 with fail
          go_cut [] from 200 to 205 (fun wx => ∃ d2 : Array α, d2.size = d.size ∧ Merged p (arrF d1) (arrF d2) a mid ∧ Aside (SWK enc k w0 blk off d2 wx))
          case first =>
            cases tb2 with
            | true =>
              obtain ⟨c1, c2⟩ := of_decide_eq_true HB2.out
              have hc := IH.out a i mid d1 wc (by omega) (by omega) S1.out c1 c2 (by omega) (by omega) (by rw [HE1.out]; exact (HX.out.part (Nat.le_refl _) h2).congr fun t q1 q2 => rotF_out _ h3 h2 (by omega)) (by
                rw [HE1.out]
                intro x y q1 q2 q3
                simp only [rotF]
                rw [if_pos (by omega), if_pos (by omega)]
                exact HY.out _ _ (by omega) (by omega) (by omega))
              rw [hd1] at hc
              clear S1
              go_wp2_with (go_at_fn 88; refine hc.mono ?_; rintro e w1 ⟨rfl, d2, hd2, S3, hE⟩)
              go_meet
              case rel => exact ⟨d2, hd2, hE, S3⟩
            | false =>
              have M : Hid (Merged p (arrF d1) (arrF d1) a mid) := Merged.refl (by rw [HE1.out]; exact merged_none h1 h2 h3 h4 hsum HX.out HY.out (by have := of_decide_eq_false HB2.out; omega))
              go_wp2
              go_meet
              case rel => exact ⟨d1, hd1, M.out, S1⟩
          case rest =>
            clear S1
            obtain ⟨d2, hd2, hM, S1⟩ := hcut
            clear HB2
            have M1 : Hid (Merged p (arrF d1) (arrF d2) a mid) := hM
            have FIN : Hid (∀ g : Nat → α, Merged p (arrF d2) g mid b → Merged p (arrF d) g a b) := fun g hg => merged_step h1 h2 h3 h4 hsum ⟨by omega, by omega⟩ HX.out HY.out Q.out.1 Q.out.2 (by rw [← HE1.out]; exact M1.out) hg
            clear hM
            by_cases c1 : mid < en
            · have c1z : (mid : Int) < (en : Int) := by omega
              by_cases c2 : en < b
              · have c2z : (en : Int) < (b : Int) := by omega
                have hc := IH.out mid en b d2 wc (by omega) (by omega) S1.out c1 c2 (by omega) (by omega) (by
                  intro x y q1 q2 q3
                  rw [M1.out.out y (by omega), M1.out.out x (by omega), HE1.out]
                  simp only [rotF]
                  rw [if_neg (by omega), if_pos (by omega), if_neg (by omega), if_pos (by omega)]
                  exact HX.out _ _ (by omega) (by omega) (by omega)) ((HY.out.part h3 (Nat.le_refl _)).congr fun t q1 q2 => by rw [M1.out.out t (by omega), HE1.out, rotF_out _ h3 h2 (by omega)])
                rw [hd2] at hc
                clear S1
                go_wp2_with (go_at_fn 88; refine hc.mono ?_; rintro e w1 ⟨rfl, d3, hd3, S3, hE⟩)
                go_end0
                exact ⟨rfl, d3, hd3, S3, FIN.out _ hE⟩
              · have c2z : ¬ (en : Int) < (b : Int) := by omega
                have M : Hid (Merged p (arrF d2) (arrF d2) mid b) := Merged.refl (merged_none2 h1 h2 h3 h4 hsum HX.out HY.out (fun t ht => by rw [M1.out.out t (by omega), HE1.out]) (by omega))
                go_wp2
                go_end0
                exact ⟨rfl, d2, hd2, S1.out, FIN.out _ M.out⟩
            · have c1z : ¬ (mid : Int) < (en : Int) := by omega
              have M : Hid (Merged p (arrF d2) (arrF d2) mid b) := Merged.refl (merged_none2 h1 h2 h3 h4 hsum HX.out HY.out (fun t ht => by rw [M1.out.out t (by omega), HE1.out]) (by omega))
              go_wp2
              go_end0
              exact ⟨rfl, d2, hd2, S1.out, FIN.out _ M.out⟩
theorem symMerge_any {P : Program} {k : Nat} (L : StP P k) (enc : α → List Value) (p : α → Int) (cf : α → α → Int) (hcf : ∀ x y, cf x y < 0 ↔ p y < p x) (g : Nat) (cb : Array Value) (blk off cap : Nat) (d0 : Array α) (w0 : World)
    (eg : ∀ args w, (callFunc g args).run P w = .ok (.enter g args) w) (hcmp : CmpLays P g cb enc k cf blk off d0.size w0) (R : RowK enc k w0 blk off d0) : ∀ (N a m b : Nat) (d : Array α) (w : World), b - a ≤ N → d0.size = d.size → SWK enc k w0 blk off d w → a < m → m < b → b ≤ d.size → d.size < 4611686018427387904 → DescF p (arrF d) a m → DescF p (arrF d) m b →
    Calls P 88 #[.slice (some ⟨blk, off, none⟩) d.size cap, .int .i64 a, .int .i64 m, .int .i64 b, .func (.func g) #[] cb] w fun e w' => e = .returned (.tuple #[]) ∧ ∃ d', d'.size = d.size ∧ SWK enc k w0 blk off d' w' ∧ Merged p (arrF d) (arrF d') a b
  | 0, a, m, b, d, w, h, _, _, h1, h2, _, _, _, _ => by omega
  | N + 1, a, m, b, d, w, h, hs, S, h1, h2, hb, hsz, hX, hY => by
    by_cases c1 : m = a + 1
    · exact sym_one L enc p cf hcf g cb blk off cap d0 w0 eg hcmp R a m b c1 d w hs S h2 hb hsz hY
    · by_cases c2 : b = m + 1
      · exact sym_last L enc p cf hcf g cb blk off cap d0 w0 eg hcmp R a m b c2 d w hs S (by omega) hb hsz hX
      · exact sym_step L enc p cf hcf g cb blk off cap d0 w0 eg hcmp R N (symMerge_any L enc p cf hcf g cb blk off cap d0 w0 eg hcmp R N) a m b d w h hs S (by omega) (by omega) hb hsz hX hY
end Go.Proofs.YtnbklmmampdbfaaDoor
namespace Go.Proofs.YtnbklmmampdbfaaDoor
open Go
set_option maxRecDepth 20000

section
variable {α : Type} {p : α → Int}
/-- Sorted block by block, from a place on. -/
def BlkD (p : α → Int) (f : Nat → α) (s lo n : Nat) : Prop := ∀ i j, lo ≤ i → i < j → j < n → i / s = j / s → p (f j) ≤ p (f i)
theorem div_ge {t q j : Nat} (ht : 0 < t) (h : t * q ≤ j) : q ≤ j / t := (Nat.le_div_iff_mul_le ht).2 (by rw [Nat.mul_comm]; exact h)
theorem ge_of_div {t q i : Nat} (ht : 0 < t) (h : q ≤ i / t) : t * q ≤ i := by
  have := (Nat.le_div_iff_mul_le ht).1 h
  rwa [Nat.mul_comm] at this
theorem div_of_in {t q i : Nat} (h1 : t * q ≤ i) (h2 : i < t * q + t) : i / t = q := by
  refine Nat.div_eq_of_lt_le ?_ ?_
  · rw [Nat.mul_comm]; exact h1
  · rw [Nat.add_mul, Nat.one_mul, Nat.mul_comm q t]; exact h2
theorem Merged.whole {f g : Nat → α} {a b n : Nat} (h : Merged p f g a b) (hab : a ≤ b) (hb : b ≤ n) : Alike p (segF g 0 n) (segF f 0 n) := by
  have e : ∀ u : Nat → α, segF u 0 n = segF u 0 a ++ (segF u a (b - a) ++ segF u b (n - b)) := fun u => by
    rw [show n = a + ((b - a) + (n - b)) by omega, segF_add, segF_add, show 0 + a + (b - a) = b by omega, Nat.zero_add, show a + (b - a + (n - b)) - b = n - b by omega]
  rw [e, e]
  refine Alike.app ?_ (Alike.app h.alike ?_)
  · rw [segF_congr (f := g) (g := f) (a := 0) (b := 0) fun i hi => h.out _ (by omega)]; exact Alike.refl _ _
  · rw [segF_congr (f := g) (g := f) (a := b) (b := b) fun i hi => h.out _ (by omega)]; exact Alike.refl _ _
/-- A block more. -/
theorem blk_more {f g : Nat → α} {t q n b : Nat} (ht : 0 < t) (h : BlkD p f t 0 (t * q)) (hb1 : t * q ≤ b) (hb2 : b ≤ t * q + t) (m : Merged p f g (t * q) b) (hn : n = b) : BlkD p g t 0 n := by
  subst hn
  intro i j _ hij hj he
  by_cases c : t * q ≤ j
  · have hi : t * q ≤ i := ge_of_div ht (by rw [he]; exact div_ge ht c)
    exact m.desc i j hi hij hj
  · rw [m.out i (by omega), m.out j (by omega)]
    exact h i j (Nat.zero_le _) hij (by omega) he
/-- What lies behind stays. -/
theorem blk_behind {f g : Nat → α} {s a b n : Nat} (h : BlkD p f s a n) (hab : a ≤ b) (m : Merged p f g a b) : BlkD p g s b n := fun i j hi hij hj he => by
  rw [m.out i (by omega), m.out j (by omega)]
  exact h i j (by omega) hij hj he
theorem blk_desc {f : Nat → α} {s q a n : Nat} (h : BlkD p f s a n) (ha : a ≤ s * q) {b : Nat} (hb : b ≤ s * q + s) (hn : b ≤ n) : DescF p f (s * q) b := fun i j hi hij hj =>
  h i j (by omega) hij (by omega) (by rw [div_of_in hi (by omega), div_of_in (t := s) (q := q) (i := j) (by omega) (by omega)])
theorem blk_all {f : Nat → α} {s n : Nat} (h : BlkD p f s 0 n) (hs : n ≤ s) : DescF p f 0 n := fun i j hi hij hj =>
  h i j hi hij hj (by rw [Nat.div_eq_of_lt (by omega), Nat.div_eq_of_lt (by omega)])
theorem blk_none (f : Nat → α) (s : Nat) : BlkD p f s 0 0 := fun i j _ _ hj _ => by omega
theorem blk_from {f : Nat → α} {s n : Nat} (h : BlkD p f s 0 n) (a : Nat) : BlkD p f s a n := fun i j _ hij hj he => h i j (Nat.zero_le _) hij hj he
theorem blk_upto {f : Nat → α} {s lo n m : Nat} (h : BlkD p f s lo n) (hm : m ≤ n) : BlkD p f s lo m := fun i j hi hij hj he => h i j hi hij (by omega) he
end
end Go.Proofs.YtnbklmmampdbfaaDoor
namespace Go.Proofs.YtnbklmmampdbfaaDoor
open Go Go.Shelf Go.RowKit Go.Lib Go.Sort
set_option maxRecDepth 20000

def stRen : Go.Shelf.Ren := ⟨fun | 20 => 87 | n => n, fun | 0 => 0 | 3 => 3 | 4 => 4 | 22 => 25 | 24 => 47 | 25 => 108 | n => n, fun | n => n⟩
theorem stLay {P : Program} {k : Nat} (L : StP P k) : SlLaysF0.n20 P stRen where
  mixed := L.mixed
  f20 := ⟨_, by kernel_rfl, L.f_insertionSort.trans (congrArg some (show Tryd.f87 = { SlBodyF.n20 stRen with name := Tryd.f87.name } by kernel_rfl))⟩
  t0 := L.t0
  a0 := L.a0
  z0 := L.z0
  v0 := L.v0
  t3 := L.t3
  a3 := L.a3
  z3 := L.z3
  v3 := L.v3
  t4 := L.t4
  a4 := L.a4
  z4 := L.z4
  v4 := L.v4
  t22 := L.tS
  a22 := L.aS
  z22 := L.zS
  v22 := L.vS
  t25 := L.tF
  a25 := L.aF
  z25 := L.zF
  v25 := L.vF
theorem ltOf_ltP {β : Type} {p : β → Int} {cf : β → β → Int} (hcf : ∀ x y, cf x y < 0 ↔ p y < p x) : ltOf cf = ltP p := by
  funext x y
  unfold ltOf ltP
  rw [Bool.eq_iff_iff, decide_eq_true_iff, decide_eq_true_iff]
  exact hcf x y
variable {α : Type} [Inhabited α]
theorem CmpLays.on {P : Program} {enc : α → List Value} {k : Nat} {cf : α → α → Int} {g : Nat} {cb : Array Value} {blk off size : Nat} {w0 W : World} {d : Array α} (hC : CmpLays P g cb enc k cf blk off size w0) (h : SWK enc k w0 blk off d W) (hblk : blk < w0.heap.size) (hs : d.size = size) : CmpLays P g cb enc k cf blk off size W := by
  intro m os dk hd x y
  obtain ⟨n, os0, rfl⟩ := h
  rw [sortWorldK_on enc k w0 blk off n m d dk os0 os hblk (by omega)]
  exact hC _ _ dk hd x y
theorem ins_any {P : Program} {k : Nat} (L : StP P k) (enc : α → List Value) (p : α → Int) (cf : α → α → Int) (hcf : ∀ x y, cf x y < 0 ↔ p y < p x) (g : Nat) (cb : Array Value) (blk off cap : Nat) (d0 : Array α) (w0 : World)
    (eg : ∀ args w, (callFunc g args).run P w = .ok (.enter g args) w) (hcmp : CmpLays P g cb enc k cf blk off d0.size w0) (R : RowK enc k w0 blk off d0) (a b : Nat) (d : Array α) (w : World) (hs : d0.size = d.size) (S : SWK enc k w0 blk off d w) (hab : a ≤ b) (hb : b ≤ d.size) (hsz : d.size < 1152921504606846976) :
    Calls P 87 #[.slice (some ⟨blk, off, none⟩) d.size cap, .int .i64 a, .int .i64 b, .func (.func g) #[] cb] w fun e w' => e = .returned (.tuple #[]) ∧ ∃ d', d'.size = d.size ∧ SWK enc k w0 blk off d' w' ∧ Merged p (arrF d) (arrF d') a b := by
  have hc := AnyQ.insertionSortCmpFunc (stLay L) k L.aE L.zE enc R.hk R.h1 cf g cb blk off cap a b d w eg (by rw [← hs]; exact CmpLays.on hcmp S R.hblk hs.symm) (S.holds R.hblk R.hH hs.symm) (S.lt R.hblk) hab hb (by omega)
  refine hc.mono ?_
  rintro e w' ⟨rfl, n, os, rfl⟩
  rw [ltOf_ltP hcf]
  obtain ⟨m1, m2⟩ := ins_merged (p := p) d a b hab hb
  exact ⟨rfl, _, m1, S.on R.hblk n _ os m1, m2⟩

set_option maxHeartbeats 16000000 in
set_option maxRecDepth 1000000 in
/-- slices.stableCmpFunc: sorted by the falling number, those of one number in their order. -/
theorem stable_any {P : Program} {k : Nat} (L : StP P k) (enc : α → List Value) (p : α → Int) (cf : α → α → Int) (hcf : ∀ x y, cf x y < 0 ↔ p y < p x) (g : Nat) (cb : Array Value) (blk off cap : Nat) (d : Array α) (w : World)
    (eg : ∀ args w, (callFunc g args).run P w = .ok (.enter g args) w) (hcmp : CmpLays P g cb enc k cf blk off d.size w) (R : RowK enc k w blk off d) (hsz : d.size < 1152921504606846976) :
    Calls P 72 #[.slice (some ⟨blk, off, none⟩) d.size cap, .int .i64 d.size, .func (.func g) #[] cb] w fun e w' => e = .returned (.tuple #[]) ∧ ∃ d', d'.size = d.size ∧ SWK enc k w blk off d' w' ∧ DescF p (arrF d') 0 d.size ∧ Alike p (segF (arrF d') 0 d.size) (segF (arrF d) 0 d.size) := by
  have mixed := L.mixed
  have t0 := L.t0; have a0 := L.a0; have z0 := L.z0; have v0 := L.v0
  have t3 := L.t3; have a3 := L.a3; have z3 := L.z3; have v3 := L.v3
  have t4 := L.t4; have a4 := L.a4; have z4 := L.z4; have v4 := L.v4
  have tS := L.tS; have aS := L.aS; have zS := L.zS; have vS := L.vS
  have tF := L.tF; have aF := L.aF; have zF := L.zF; have vF := L.vF
  have aE := L.aE; have zE := L.zE
  have FG := L.f_stable
  have e87 : ∀ args w, (callFunc 87 args).run P w = .ok (.enter 87 args) w := enters_of L.f_insertionSort (by kernel_rfl) rfl
  have e88 : ∀ args w, (callFunc 88 args).run P w = .ok (.enter 88 args) w := enters_of L.f_symMerge (by kernel_rfl) rfl
  obtain ⟨n, hn⟩ : ∃ n, n = d.size := ⟨_, rfl⟩
  have HI : Hid (∀ (a b : Nat) (dk : Array α) (W : World), n = dk.size → SWK enc k w blk off dk W → a ≤ b → b ≤ n → Calls P 87 #[.slice (some ⟨blk, off, none⟩) n cap, .int .i64 a, .int .i64 b, .func (.func g) #[] cb] W fun e w' => e = .returned (.tuple #[]) ∧ ∃ d', d'.size = n ∧ SWK enc k w blk off d' w' ∧ Merged p (arrF dk) (arrF d') a b) := fun a b dk W h1 h2 h3 h4 => by
    have := ins_any L enc p cf hcf g cb blk off cap d w eg hcmp R a b dk W (by omega) h2 h3 (by omega) (by omega)
    rw [← h1] at this; exact this
  have HM : Hid (∀ (a m b : Nat) (dk : Array α) (W : World), n = dk.size → SWK enc k w blk off dk W → a < m → m < b → b ≤ n → DescF p (arrF dk) a m → DescF p (arrF dk) m b → Calls P 88 #[.slice (some ⟨blk, off, none⟩) n cap, .int .i64 a, .int .i64 m, .int .i64 b, .func (.func g) #[] cb] W fun e w' => e = .returned (.tuple #[]) ∧ ∃ d', d'.size = n ∧ SWK enc k w blk off d' w' ∧ Merged p (arrF dk) (arrF d') a b) := fun a m b dk W h1 h2 h3 h4 h5 h6 h7 => by
    have := symMerge_any L enc p cf hcf g cb blk off cap d w eg hcmp R (b - a) a m b dk W (Nat.le_refl _) (by omega) h2 h3 h4 (by omega) (by omega) h6 h7
    rw [← h1] at this; exact this
  have S0 : Aside (SWK enc k w blk off d w) := SWK.start R.hH
  have HD : Hid (n = d.size) := hn
  rw [← hn] at hsz ⊢
  clear hcmp R hcf L hn eg
  go_enter FG, Tryd.ntmps72
  go_wp2
  go_loopg [7, 8] n (fun kx s7 s8 wr => ∃ (q a b : Nat) (dk : Array α), s7 = .int .i64 a ∧ s8 = .int .i64 b ∧ b = a + 20 ∧ a ≤ n ∧ n - a ≤ kx ∧ Hid (a = 20 * q ∧ BlkD p (arrF dk) 20 0 a) ∧ dk.size = n ∧ Aside (SWK enc k w blk off dk wr) ∧ Hid (Alike p (segF (arrF dk) 0 n) (segF (arrF d) 0 n)))
  case atStart => exact ⟨0, 0, 20, d, rfl, rfl, rfl, Nat.zero_le _, Nat.le_refl _, ⟨rfl, blk_none _ _⟩, HD.out.symm, S0, Alike.refl _ _⟩
  case round =>
    clear S0
    obtain ⟨q, a, b, dk, rfl, rfl, hb, han, hkx, HQ, hds, S1, HA⟩ := hrel
    have HBA : Hid (b = a + 20) := hb
    have hba : a < b := by omega
    by_cases hlt : b ≤ n
    · have hltz : (b : Int) ≤ (n : Int) := by omega
      have hc := HI.out a b dk wr hds.symm S1.out (by omega) hlt
      clear hb
      clear S1
      go_wp2_with (go_at_fn 87; refine hc.mono ?_; rintro e w1 ⟨rfl, d', hd', S3, hE⟩)
      go_roundg (n - b)
      case measure => omega
      case rel =>
        obtain ⟨q1, q2⟩ := HQ.out
        have hb := HBA.out
        refine ⟨q + 1, b, b + 20, d', rfl, by go_num, rfl, hlt, Nat.le_refl _, ⟨by omega, ?_⟩, hd', S3, (hE.whole (by omega) hlt).trans HA.out⟩
        rw [q1] at hE q2
        exact blk_more (by omega) q2 (by omega) (by omega) hE rfl
    · have hltz : ¬ (b : Int) ≤ (n : Int) := by omega
      have hc := HI.out a n dk wr hds.symm S1.out han (Nat.le_refl _)
      clear hb S1
      go_wp2_with (go_at_fn 87; refine hc.mono ?_; rintro e w1 ⟨rfl, d', hd', S3, hE⟩)
      have B1 : Hid (BlkD p (arrF d') 20 0 n ∧ Alike p (segF (arrF d') 0 n) (segF (arrF d) 0 n)) := by
        obtain ⟨q1, q2⟩ := HQ.out
        have hb := HBA.out
        refine ⟨?_, (hE.whole han (Nat.le_refl _)).trans HA.out⟩
        rw [q1] at hE q2
        exact blk_more (by omega) q2 (by omega) (by omega) hE rfl
      have S1 : Aside (SWK enc k w blk off d' w1) := S3
      clear S3 hE HQ HA hc
      obtain ⟨W1, hW1⟩ : ∃ W, W = w1 := ⟨_, rfl⟩
      rw [← hW1] at S1 ⊢
      clear hW1
      go_loopg [6, 7, 8, 9] n (fun kx s6 s7 s8 s9 wr => ∃ (s : Nat) (a b m : Value) (dk : Array α), s6 = .int .i64 s ∧ s7 = a ∧ s8 = b ∧ s9 = m ∧ 20 ≤ s ∧ n - s ≤ kx ∧ s ≤ n + n + 20 ∧ dk.size = n ∧ Aside (SWK enc k w blk off dk wr) ∧ Hid (BlkD p (arrF dk) s 0 n ∧ Alike p (segF (arrF dk) 0 n) (segF (arrF d) 0 n)))
      case atStart => exact ⟨20, _, _, _, d', rfl, rfl, rfl, rfl, by omega, by omega, by omega, hd', S1, B1⟩
      case round =>
        clear S1 B1
        obtain ⟨s, va, vb, vm, dk, rfl, rfl, rfl, rfl, hs20, hkx2, hs2, hds2, S1, B1⟩ := hrel
        by_cases hsn : s < n
        · have hsnz : (s : Int) < (n : Int) := by omega
          go_wp2
          obtain ⟨W2, hW2⟩ : ∃ W, W = wr := ⟨_, rfl⟩
          rw [← hW2] at S1 ⊢
          clear hW2
          go_loopg [7, 8] n (fun kx s7 s8 wr2 => ∃ (q a b : Nat) (dj : Array α), s7 = .int .i64 a ∧ s8 = .int .i64 b ∧ b = a + (s + s) ∧ a ≤ n ∧ n - a ≤ kx ∧ Hid (a = (s + s) * q ∧ BlkD p (arrF dj) (s + s) 0 a ∧ BlkD p (arrF dj) s a n) ∧ dj.size = n ∧ Aside (SWK enc k w blk off dj wr2) ∧ Hid (Alike p (segF (arrF dj) 0 n) (segF (arrF d) 0 n)))
          case atStart => exact ⟨0, 0, s + s, dk, rfl, by rw [show ((s + s : Nat) : Int) = 2 * (s : Int) by omega], by omega, Nat.zero_le _, Nat.le_refl _, ⟨by rw [Nat.mul_zero], blk_none _ _, B1.out.1⟩, hds2, S1, B1.out.2⟩
          case round =>
            clear S1 B1
            obtain ⟨q, a, b, dj, rfl, rfl, hb, han, hkx3, HQ, hdj, S1, HA⟩ := hrel
            have HBA : Hid (b = a + (s + s)) := hb
            have eas : ((a + s : Nat) : Int) = (a : Int) + (s : Int) := by omega
            have ess : (s + s) * q = s * (2 * q) := by rw [← Nat.two_mul, Nat.mul_comm 2 s, Nat.mul_assoc]
            have ess2 : (s + s) * q + s = s * (2 * q + 1) := by rw [ess, Nat.mul_add, Nat.mul_one]
            have ESS : Hid ((s + s) * q = s * (2 * q) ∧ (s + s) * q + s = s * (2 * q + 1)) := ⟨ess, ess2⟩
            clear ess ess2
            by_cases hlt : b ≤ n
            · have hltz : (b : Int) ≤ (n : Int) := by omega
              have hc := HM.out a (a + s) b dj wr hdj.symm S1.out (by omega) (by omega) hlt (by
                obtain ⟨q1, q2, q3⟩ := HQ.out
                have e1 := ESS.out.1
                rw [← q1] at e1
                have := blk_desc q3 (q := 2 * q) (by omega) (b := a + s) (by omega) (by omega)
                rw [← e1] at this; exact this) (by
                obtain ⟨q1, q2, q3⟩ := HQ.out
                have e1 := ESS.out.2
                rw [← q1] at e1
                have := blk_desc q3 (q := 2 * q + 1) (by omega) (b := b) (by omega) (by omega)
                rw [← e1] at this; exact this)
              rw [eas] at hc
              clear hb S1
              go_wp2_with (go_at_fn 88; refine hc.mono ?_; rintro e w1 ⟨rfl, d', hd', S3, hE⟩)
              go_roundg (n - b)
              case measure => have := HBA.out; omega
              case rel =>
                obtain ⟨q1, q2, q3⟩ := HQ.out
                have hb := HBA.out
                refine ⟨q + 1, b, b + (s + s), d', rfl, by rw [show ((b + (s + s) : Nat) : Int) = (b : Int) + 2 * (s : Int) by omega], rfl, hlt, Nat.le_refl _, ⟨by rw [Nat.mul_add, Nat.mul_one, ← q1]; exact hb, ?_, blk_behind q3 (by omega) hE⟩, hd', S3, (hE.whole (by omega) hlt).trans HA.out⟩
                rw [q1] at hE q2
                exact blk_more (by omega) q2 (by omega) (by omega) hE rfl
            · have hltz : ¬ (b : Int) ≤ (n : Int) := by omega
              by_cases hm : a + s < n
              · have hmz : (a : Int) + (s : Int) < (n : Int) := by omega
                have hc := HM.out a (a + s) n dj wr hdj.symm S1.out (by omega) hm (Nat.le_refl _) (by
                  obtain ⟨q1, q2, q3⟩ := HQ.out
                  have e1 := ESS.out.1
                  rw [← q1] at e1
                  have := blk_desc q3 (q := 2 * q) (by omega) (b := a + s) (by omega) (by omega)
                  rw [← e1] at this; exact this) (by
                  obtain ⟨q1, q2, q3⟩ := HQ.out
                  have e1 := ESS.out.2
                  rw [← q1] at e1
                  have := blk_desc q3 (q := 2 * q + 1) (by omega) (b := n) (by omega) (by omega)
                  rw [← e1] at this; exact this)
                rw [eas] at hc
                clear hb S1
                go_wp2_with (go_at_fn 88; refine hc.mono ?_; rintro e w1 ⟨rfl, d', hd', S3, hE⟩)
                go_roundg (n - (s + s))
                case measure => omega
                case rel =>
                  obtain ⟨q1, q2, q3⟩ := HQ.out
                  have hb := HBA.out
                  refine ⟨s + s, _, _, _, d', by rw [show ((s + s : Nat) : Int) = (s : Int) * 2 by omega], rfl, rfl, rfl, by omega, Nat.le_refl _, by omega, hd', S3, ⟨?_, (hE.whole han (Nat.le_refl _)).trans HA.out⟩⟩
                  rw [q1] at hE q2
                  exact blk_more (by omega) q2 (by omega) (by omega) hE rfl
              · have hmz : ¬ (a : Int) + (s : Int) < (n : Int) := by omega
                have M : Hid (BlkD p (arrF dj) (s + s) 0 n) := by
                  obtain ⟨q1, q2, q3⟩ := HQ.out
                  have e1 := ESS.out.1
                  rw [← q1] at e1
                  have hD := blk_desc q3 (q := 2 * q) (by omega) (b := n) (by omega) (Nat.le_refl _)
                  rw [← e1] at hD
                  have hE := Merged.refl hD
                  rw [q1] at hE q2
                  exact blk_more (by omega) q2 (by omega) (by omega) hE rfl
                clear hb
                go_wp2
                go_roundg (n - (s + s))
                case measure => omega
                case rel => exact ⟨s + s, _, _, _, dj, by rw [show ((s + s : Nat) : Int) = (s : Int) * 2 by omega], rfl, rfl, rfl, by omega, Nat.le_refl _, by omega, hdj, S1, ⟨M.out, HA.out⟩⟩
        · have hsnz : ¬ (s : Int) < (n : Int) := by omega
          go_wp2
          go_end0
          exact ⟨rfl, dk, hds2, S1.out, blk_all B1.out.1 (by omega), B1.out.2⟩
end Go.Proofs.YtnbklmmampdbfaaDoor
namespace Go.Proofs.YtnbklmmampdbfaaDoor
open Go Go.Shelf Go.RowKit Go.Lib Go.Sort
set_option maxRecDepth 20000

section
variable {α : Type} [Inhabited α]
theorem segF_all (d : Array α) : segF (arrF d) 0 d.size = d.toList := by
  apply List.ext_getElem?
  intro i
  unfold segF arrF
  by_cases hi : i < d.size
  · simp [hi]
  · simp [hi]
theorem gcells_len {β : Type} {enc : β → Array Value} {k : Nat} (hk : ∀ x, (enc x).size = k) (C : List β) : (gcells enc C).length = C.length * k := by
  induction C with
  | nil => simp [gcells]
  | cons c C ih => rw [gcells_cons, List.length_append, ih, Array.length_toList, hk, List.length_cons, Nat.add_mul, Nat.one_mul, Nat.add_comm]
theorem gcells_get {enc : α → Array Value} {k : Nat} (hk : ∀ x, (enc x).size = k) (C : List α) (t : Nat) (ht : t < C.length * k) : (gcells enc C)[t]? = some ((enc C.toArray[t / k]!).toList[t % k]!) := by
  have k0 : 0 < k := by
    rcases Nat.eq_zero_or_pos k with h | h
    · subst h; simp at ht
    · exact h
  have hi : t / k < C.length := (Nat.div_lt_iff_lt_mul k0).2 ht
  have hj : t % k < k := Nat.mod_lt _ k0
  have := gcells_at enc k C (fun c _ => hk c) (t / k) hi (t % k) hj
  rw [Nat.div_add_mod] at this
  rw [this]
  have e : C.toArray[t / k]! = C[t / k] := by simp [hi]
  rw [e]
  simp [hk, hj]
/-- A row of one's own, as the sort has it. -/
theorem holds_of_own {enc : α → Array Value} {k : Nat} (hk : ∀ x, (enc x).size = k) {w : World} {g : Nat} {cur : Array Value} {ty : TypeId} {C : List α} (hg : w.heap[g]? = some (.cells cur ty (0, 0))) (hc : cur.toList.take (C.length * k) = gcells enc C) :
    HoldsK (fun x => (enc x).toList) k w g 0 C.toArray := by
  intro t ht
  rw [size_flatK] at ht
  have ht' : t < C.length * k := by simpa using ht
  rw [get_flatK _ _ _ _ ht]
  refine ⟨?_, ?_⟩
  · rw [Nat.zero_add, cell_of_row w g t cur ty _ hg]
    have h1 := gcells_get hk C t ht'
    rw [← hc, List.getElem?_take_of_lt ht', Array.getElem?_toList] at h1
    exact h1
  · simp [World.frozen?, hg]
theorem SWK.grownBy {enc : α → List Value} {k : Nat} {w W : World} {g off : Nat} {d : Array α} (h : SWK enc k w g off d W) : w.grownBy W (some g) := by
  obtain ⟨n, os, rfl⟩ := h
  refine ⟨rfl, rfl, rfl, ?_, fun j hj hne => ?_⟩
  · unfold sortWorldK
    rw [size_grow, size_putRowK]
    exact Nat.le_add_right _ _
  · unfold sortWorldK grow putRowK putRow mapBlock Sort.ahead
    have : g ≠ j := fun e => hne (by rw [e])
    rw [Array.getElem?_append_left (by simpa using hj), Array.getElem?_modify, if_neg this]
/-- .. and as it is then. -/
theorem own_of_swk {enc : α → Array Value} {k : Nat} (hk : ∀ x, (enc x).size = k) {w W : World} {g : Nat} {cur : Array Value} {ty : TypeId} {d : Array α} (h : SWK (fun x => (enc x).toList) k w g 0 d W) (hg : w.heap[g]? = some (.cells cur ty (0, 0))) (hc : d.size * k ≤ cur.size) :
    ∃ cur', W.heap[g]? = some (.cells cur' ty (0, 0)) ∧ cur'.size = cur.size ∧ cur'.toList.take (d.size * k) = gcells enc d.toList := by
  obtain ⟨n, os, rfl⟩ := h
  have hlt : g < w.heap.size := (Array.getElem?_eq_some_iff.1 hg).1
  refine ⟨putCells id 0 (flatK (fun x => (enc x).toList) k d) cur, ?_, ?_, ?_⟩
  · unfold sortWorldK grow putRowK putRow mapBlock Sort.ahead
    simp only
    rw [Array.getElem?_append_left (by simpa using hlt), Array.getElem?_modify, if_pos rfl, hg]
    rfl
  · simp [putCells]
  · apply List.ext_getElem?
    intro t
    by_cases ht : t < d.size * k
    · rw [List.getElem?_take_of_lt ht]
      have := gcells_get hk d.toList t (by simpa using ht)
      rw [this, Array.getElem?_toList]
      unfold putCells
      rw [Array.getElem?_mapIdx, Array.getElem?_eq_getElem (by omega), Option.map_some, if_pos (by rw [size_flatK]; omega), Nat.sub_zero, get_flatK _ _ _ _ ht]
      simp
    · rw [List.getElem?_take_eq_none (by omega), List.getElem?_eq_none (by rw [gcells_len hk]; simp; omega)]
end
/-- A slice's elements appended to one's own row, and where the new row lies. -/
theorem wl_appendL {E : El} (H : E.Ok) {α : Type} (enc : α → Array Value) (hE : ∀ x, Fits E (enc x)) {ops : Array Oper} {rest : List Oper} {o : Oper} {a : Act} {w : World} {Q : Exit → Act → World → Prop} (hgd : o.guard = none) (s x : Operand) (ho : o.op = .call { callee := .builtin .append, args := #[s, x], argTypes := #[E.slice, E.slice] })
    (base base' : Nat) (v u : Value) (C D : List α) (hs : a.eval s = v) (hown : w.ownsRow base E.elem E.size v C.length (gcells enc C)) (hx : a.eval x = u) (hu : w.ownsRow base' E.elem E.size u D.length (gcells enc D))
    (hn : C.length + D.length ≤ 1000000) (hbase : base ≤ w.heap.size)
    (h : ∀ v' w', w'.ownsRow base E.elem E.size v' (C ++ D).length (gcells enc (C ++ D)) → w.grownBy w' v.ownBlock → (v'.ownBlock = v.ownBlock ∨ v'.ownBlock = some w.heap.size) → wpList Tryd.prog ops Q rest (a.put o.dst v') w') : wpList Tryd.prog ops Q (o :: rest) a w := by
  obtain ⟨i0, hi, hz0, hz1, hz2⟩ := H.info
  have hb := H.hb
  have hu0 := hu
  have hl : (gcells enc D).length = D.length * E.size := hu.1
  obtain ⟨_, ⟨rfl, h0⟩ | ⟨g, cap, cur, rfl, hB, hcur, h1, h2, h3, h4⟩⟩ := hu
  · have hD0 : D = [] := List.eq_nil_of_length_eq_zero h0
    subst hD0
    refine wpList_append_own_none hgd s x E.slice ho base E.elem i0 E.size H.hs hi v _ _ hs hown hx (h v w ?_ ?_ (.inl rfl))
    · rw [List.append_nil]; exact hown
    · exact ⟨rfl, rfl, rfl, Nat.le_refl _, fun k _ _ => rfl⟩
  · refine wpList_append_own_at w hgd s x E.slice ho base E.elem i0 (.agg E.zero) E.size E.bytes H.hs hi hz0 hz1 hz2 (by simpa [Value.cells] using H.hz) H.hp v _ _ hs hown ⟨g, 0, none⟩ D.length cap (gcells enc D) hx hl (fun j y hy => ?_) (fun y hy => ?_) (by unfold maxLen; omega) ?_ hbase ?_
    · have hj : j < D.length * E.size := by rw [← hl]; exact (List.getElem?_eq_some_iff.1 hy).1
      have hadd : (⟨g, 0, none⟩ : Addr).add j = ⟨g, j, none⟩ := by unfold Addr.add; split <;> simp_all
      rw [hadd, cell_of_row w g j _ _ _ hcur, ← hy, ← h4, List.getElem?_take_of_lt hj, Array.getElem?_toList]
    · unfold gcells at hy
      obtain ⟨c, _, hc⟩ := List.mem_flatMap.1 hy
      exact (Array.all_eq_true_iff_forall_mem.1 (hE c).2) y (by simpa using hc)
    · exact Nat.le_trans (Nat.mul_le_mul (show C.length + D.length ≤ 1000000 by omega) hb) (by decide)
    · intro v' w' h5 h6 _ h7
      refine h v' w' ?_ h6 h7
      rw [List.length_append, gcells_append]; exact h5
end Go.Proofs.YtnbklmmampdbfaaDoor
namespace Go.Proofs.YtnbklmmampdbfaaDoor
open Go Go.Shelf Go.RowKit Go.Lib Go.Sort
set_option maxRecDepth 20000

def cmpI (a b : Int) : Int := if a < b then -1 else if b < a then 1 else 0
theorem nan_any (x : Int) (w : World) : Calls Tryd.prog 73 #[.int .i64 x] w fun e w' => e = .returned (.bool false) ∧ w' = w := by
  go_enter Tryd.func73, Tryd.ntmps73
  go_wp2
  go_ret
  exact ⟨by simp, rfl⟩
theorem compare_any (x y : Int) (w : World) : Calls Tryd.prog 53 #[.int .i64 x, .int .i64 y] w fun e w' => e = .returned (.int .i64 (cmpI x y)) ∧ w' = w := by
  have HN : Hid (∀ x W, Calls Tryd.prog 73 #[.int .i64 x] W fun e w' => e = .returned (.bool false) ∧ w' = W) := nan_any
  by_cases h1 : x < y
  · have HV : Hid (cmpI x y = -1) := by show _ = _; unfold cmpI; rw [if_pos h1]
    go_enter Tryd.func53, Tryd.ntmps53
    go_wp2_with (go_at_call 73; refine (HN.out _ _).mono ?_; rintro e w' ⟨rfl, rfl⟩)
    go_ret
    exact ⟨by rw [HV.out]; rfl, rfl⟩
  · by_cases h2 : y < x
    · have HV : Hid (cmpI x y = 1) := by show _ = _; unfold cmpI; rw [if_neg h1, if_pos h2]
      go_enter Tryd.func53, Tryd.ntmps53
      go_wp2_with (go_at_call 73; refine (HN.out _ _).mono ?_; rintro e w' ⟨rfl, rfl⟩)
      go_ret
      exact ⟨by rw [HV.out]; rfl, rfl⟩
    · have HV : Hid (cmpI x y = 0) := by show _ = _; unfold cmpI; rw [if_neg h1, if_neg h2]
      go_enter Tryd.func53, Tryd.ntmps53
      go_wp2_with (go_at_call 73; refine (HN.out _ _).mono ?_; rintro e w' ⟨rfl, rfl⟩)
      go_ret
      exact ⟨by rw [HV.out]; rfl, rfl⟩
def prioF (x y : Ent) : Int := cmpI y.prio x.prio
theorem prioF_lt (x y : Ent) : prioF x y < 0 ↔ y.prio < x.prio := by
  unfold prioF cmpI
  split
  · simp; assumption
  · split <;> simp <;> omega
theorem closure_any (x y : Ent) (w : World) : Calls Tryd.prog 52 #[.agg (entV x), .agg (entV y)] w fun e w' => e = .returned (.int .i64 (prioF x y)) ∧ ∃ q os', w' = grow (w.drewN q) os' := by
  have HC : Hid (∀ a b W, Calls Tryd.prog 53 #[.int .i64 a, .int .i64 b] W fun e w' => e = .returned (.int .i64 (cmpI a b)) ∧ w' = W) := compare_any
  obtain ⟨r, hr⟩ : ∃ r, r = prioF x y := ⟨_, rfl⟩
  have HR : Hid (cmpI y.prio x.prio = r) := hr.symm
  rw [← hr]
  clear hr
  unfold entV
  go_enter Tryd.func52, Tryd.ntmps52
  go_wp2_with (go_at_call 53; refine (HC.out _ _ _).mono ?_; rintro e w' ⟨rfl, rfl⟩)
  go_ret
  exact ⟨by rw [HR.out]; rfl, 0, _, by rw [alloc_eq_grow, alloc_eq_grow, grow_grow]; rfl⟩
theorem lays_any [Inhabited Ent] (blk off size : Nat) (w : World) : CmpLays Tryd.prog 52 #[] (fun x => (entV x).toList) 12 prioF blk off size w := fun _ _ _ _ x y => by
  have := closure_any x y
  simpa using this _

/-- Sorted by the falling priority, those of one in their order. -/
structure Sorted8 (m m' : List Ent) : Prop where
  len : m'.length = m.length
  desc : Desc (·.prio) m'
  alike : Alike (·.prio) m' m
set_option maxHeartbeats 4000000 in
set_option maxRecDepth 1000000 in
theorem sortStable_any (B : Nat) (m : List Ent) (v : Value) (w : World) (hown : w.ownsRow B 47 12 v m.length (gcells entV m)) (hm : m.length ≤ 1000000) :
    Calls Tryd.prog 51 #[v, .func (.func 52) #[] #[]] w fun e w' => e = .returned (.tuple #[]) ∧ ∃ m', Sorted8 m m' ∧ w'.ownsRow B 47 12 v m'.length (gcells entV m') ∧ w.grownBy w' v.ownBlock := by
  letI : Inhabited Ent := ⟨⟨false, 0, 0, 0, 0, 0, 0, 0, 0, 0, 0, 0⟩⟩
  obtain ⟨h1, ⟨rfl, h2⟩ | ⟨g, cap, cur, rfl, hB, hcur, h5, h6, h7, h4⟩⟩ := hown
  · have hm0 : m = [] := List.eq_nil_of_length_eq_zero h2
    subst hm0
    have HS : Hid (∀ W, Calls Tryd.prog 72 #[.slice none 0 0, .int .i64 0, .func (.func 52) #[] #[]] W fun e w' => e = .returned (.tuple #[]) ∧ w' = W) := fun W => by
      have HI : Hid (∀ W, Calls Tryd.prog 87 #[.slice none 0 0, .int .i64 0, .int .i64 0, .func (.func 52) #[] #[]] W fun e w' => e = .returned (.tuple #[]) ∧ w' = W) := fun W => by
        go_enter Tryd.func87, Tryd.ntmps87
        go_wp2
        go_loopg [8] 0 (fun kx s wr => s = .int .i64 1 ∧ wr = W)
        case atStart => exact ⟨rfl, rfl⟩
        case round =>
          obtain ⟨rfl, rfl⟩ := hrel
          go_wp2
          go_end0
          exact ⟨rfl, rfl⟩
      go_enter Tryd.func72, Tryd.ntmps72
      go_wp2
      go_loopg [7, 8] 0 (fun kx s7 s8 wr => s7 = .int .i64 0 ∧ s8 = .int .i64 20 ∧ wr = W)
      case atStart => exact ⟨rfl, rfl, rfl⟩
      case round =>
        obtain ⟨rfl, rfl, rfl⟩ := hrel
        go_wp2_with (go_at_call 87; refine (HI.out _).mono ?_; rintro e w' ⟨rfl, rfl⟩)
        go_loopg [6, 7, 8, 9] 0 (fun kx s6 s7 s8 s9 wr2 => ∃ a b c : Value, s6 = .int .i64 20 ∧ s7 = a ∧ s8 = b ∧ s9 = c ∧ wr2 = w')
        case atStart => exact ⟨_, _, _, rfl, rfl, rfl, rfl, rfl⟩
        case round =>
          obtain ⟨a, b, c, rfl, rfl, rfl, rfl, rfl⟩ := hrel
          go_wp2
          go_end0
          exact ⟨rfl, rfl⟩
    go_enter Tryd.func51, Tryd.ntmps51
    go_wp2_with (go_at_call 72; refine (HS.out _).mono ?_; rintro e w' ⟨rfl, rfl⟩)
    go_end0
    exact ⟨rfl, [], ⟨rfl, List.Pairwise.nil, Alike.refl _ _⟩, World.ownsRow_nil _ _ _ _, ⟨rfl, rfl, rfl, Nat.le_refl _, fun k _ _ => rfl⟩⟩
  · have hc := stable_any stP (fun x => (entV x).toList) (fun x => x.prio) prioF prioF_lt 52 #[] g 0 cap m.toArray w (enters_of Tryd.func52 (by kernel_rfl) rfl) (lays_any _ _ _ _) ⟨fun _ => rfl, fun x u hu => by simp [entV] at hu; rcases hu with h | h | h | h | h | h | h | h | h | h | h | h <;> (rw [h]; rfl), holds_of_own (enc := entV) (k := 12) (fun _ => rfl) hcur h4, (Array.getElem?_eq_some_iff.1 hcur).1⟩ (by simp; omega)
    have HC : Hid (∀ W, W = w → Calls Tryd.prog 72 #[.slice (some ⟨g, 0, none⟩) m.length cap, .int .i64 m.length, .func (.func 52) #[] #[]] W fun e w' => e = .returned (.tuple #[]) ∧ ∃ d', d'.size = m.length ∧ SWK (fun x => (entV x).toList) 12 w g 0 d' w' ∧ DescF (·.prio) (arrF d') 0 m.length ∧ Alike (·.prio) (segF (arrF d') 0 m.length) (segF (arrF m.toArray) 0 m.length)) := fun W hW => by
      subst hW
      simpa using hc
    have FIN : Hid (∀ w' (d' : Array Ent), d'.size = m.length → SWK (fun x => (entV x).toList) 12 w g 0 d' w' → DescF (·.prio) (arrF d') 0 m.length → Alike (·.prio) (segF (arrF d') 0 m.length) (segF (arrF m.toArray) 0 m.length) → ∃ m', Sorted8 m m' ∧ w'.ownsRow B 47 12 (.slice (some ⟨g, 0, none⟩) m.length cap) m'.length (gcells entV m') ∧ w.grownBy w' (some g)) := fun w' d' q1 q2 q3 q4 => by
      obtain ⟨cur', c1, c2, c3⟩ := own_of_swk (enc := entV) (k := 12) (fun _ => rfl) q2 hcur (by rw [q1, h7]; exact Nat.mul_le_mul_right _ h5)
      have e1 := segF_all d'
      rw [q1] at e1
      have e2 := segF_all m.toArray
      simp only [List.size_toArray] at e2
      rw [e1, e2] at q4
      refine ⟨d'.toList, ⟨by simpa using q1, ?_, by simpa using q4⟩, ⟨by rw [gcells_len (k := 12) (fun _ => rfl)], .inr ⟨g, cap, cur', by simp [q1], hB, c1, by simpa [q1] using h5, h6, by rw [c2, h7], by simpa [q1] using c3⟩⟩, SWK.grownBy q2⟩
      have := DescF.seg (p := fun x : Ent => x.prio) (f := arrF d') (a := 0) (n := m.length) (by rw [Nat.zero_add]; exact q3)
      rw [e1] at this
      exact this
    clear hc hcur h4 h1 hB
    obtain ⟨n, hn⟩ : ∃ n, n = m.length := ⟨_, rfl⟩
    rw [← hn] at HC FIN hm h5 ⊢
    clear hn
    go_enter Tryd.func51, Tryd.ntmps51
    go_wp2_with (go_at_call 72; refine (HC.out _ rfl).mono ?_; rintro e w' ⟨rfl, d', q1, q2, q3, q4⟩)
    go_end0
    exact ⟨rfl, FIN.out _ _ q1 q2 q3 q4⟩
end Go.Proofs.YtnbklmmampdbfaaDoor
namespace Go.Proofs.YtnbklmmampdbfaaDoor
open Go Go.RowKit
set_option maxRecDepth 20000

theorem addr_facts {c : Cla} (h : goodC c) (hw : isAddrW c.word = true) (hp : isPortW c.word = false) (ho : (c.word == wProto) = false) : (c.nums.length = if c.slash then 5 else 4) ∧ ∀ k, k < 4 → 0 ≤ nth c k ∧ nth c k ≤ 255 := by
  have hm : mustN c = if c.slash then 5 else 4 := by unfold mustN; rw [if_pos hw]
  refine ⟨by rw [h.2.1, hm], fun k hk => ?_⟩
  have := nth_in h (k := k) (by rw [hm]; split <;> omega)
  have e : mostN c.word k = 255 := by
    unfold mostN
    rw [hp, ho, if_neg (by decide), if_neg]
    simp only [Bool.and_eq_true, beq_iff_eq]
    omega
  rw [e] at this
  exact ⟨this.1, this.2.1⟩
theorem good_pos {c : Cla} (h : goodC c) : 0 < c.nums.length := by
  have := h.1
  rw [h.2.1]
  omega
/-- The meaning of a line's first clauses. -/
def meanK (x : Raw) (k : Nat) : Ent := (x.clauses.take k).foldl setC (ent0 x)
theorem meanK_next {x : Raw} {k : Nat} {c : Cla} (h : x.clauses[k]? = some c) : meanK x (k + 1) = setC (meanK x k) c := by
  obtain ⟨hk, rfl⟩ := List.getElem?_eq_some_iff.1 h
  unfold meanK
  rw [List.take_succ_eq_append_getElem hk, List.foldl_append]
  rfl
theorem setC_src {x : Ent} {c : Cla} (h : c.word = wSrc) : entV (setC x c) = ((entV x).setIfInBounds 2 (.int .u32 (preC c).1)).setIfInBounds 3 (.int .i64 (preC c).2) := by
  unfold setC; rw [if_pos h]; rfl
theorem setC_dst {x : Ent} {c : Cla} (h : c.word = wDst) : entV (setC x c) = ((entV x).setIfInBounds 4 (.int .u32 (preC c).1)).setIfInBounds 5 (.int .i64 (preC c).2) := by
  unfold setC; rw [if_neg (by rw [h]; decide), if_pos h]; rfl
theorem setC_sport {x : Ent} {c : Cla} (h : c.word = wSport) : entV (setC x c) = ((entV x).setIfInBounds 6 (.int .i64 (porC c).1)).setIfInBounds 7 (.int .i64 (porC c).2) := by
  unfold setC; rw [if_neg (by rw [h]; decide), if_neg (by rw [h]; decide), if_pos h]; rfl
theorem setC_dport {x : Ent} {c : Cla} (h : c.word = wDport) : entV (setC x c) = ((entV x).setIfInBounds 8 (.int .i64 (porC c).1)).setIfInBounds 9 (.int .i64 (porC c).2) := by
  unfold setC; rw [if_neg (by rw [h]; decide), if_neg (by rw [h]; decide), if_neg (by rw [h]; decide), if_pos h]; rfl
theorem setC_proto {x : Ent} {c : Cla} (h : c.word = wProto) : entV (setC x c) = (entV x).setIfInBounds 10 (.int .i64 (nth c 0)) := by
  unfold setC; rw [if_neg (by rw [h]; decide), if_neg (by rw [h]; decide), if_neg (by rw [h]; decide), if_neg (by rw [h]; decide), if_pos h]; rfl
theorem tc_cell {w : World} {g k : Nat} {cs : Array Value} {t : TypeId} {fr : Nat × Nat} (h : w.heap[g]? = some (.cells cs t fr)) (hf : fr = (0, 0)) (i : Nat) (v : Value) (j : Nat) (hj : k ≠ j) (y : Value) (hy : cs[j]? = some y) : (w.setCell ⟨g, k, none⟩ v).cell? ⟨g, j, none⟩ = some y ∧ (w.setCell ⟨g, k, none⟩ v).frozen? ⟨g, i, none⟩ = false := by
  refine ⟨?_, tc_frozen (tc_row h v) hf⟩
  rw [cell_of_row _ _ _ _ _ _ (tc_row h v), Array.getElem?_setIfInBounds_ne hj]
  exact hy
theorem good_word {c : Cla} (h : goodC c) : c.word = wSrc ∨ c.word = wDst ∨ c.word = wSport ∨ c.word = wDport ∨ c.word = wProto := by
  rcases word_cases c.word with h1 | h1 | h1 | h1 | h1 | ⟨e0, e1, e2, e3, e4⟩
  · exact .inl h1
  · exact .inr (.inl h1)
  · exact .inr (.inr (.inl h1))
  · exact .inr (.inr (.inr (.inl h1)))
  · exact .inr (.inr (.inr (.inr h1)))
  · exfalso
    refine h.1 ?_
    unfold mustN isAddrW isPortW wSrc wDst wSport wDport wProto
    simp only [e0, e1, e2, e3, e4]
    rfl

set_option maxHeartbeats 16000000 in
set_option maxRecDepth 100000 in
theorem meaning_any (x : Raw) (u : Value) (w : World) (hu : ClasAt w x u) (hr : x.dflt = false → faultR x = .ok ()) :
    Calls Tryd.prog 32 #[.agg (rawV x u)] w fun e w' => e = .returned (.agg (entV (meaning x))) ∧ Below w.heap.size w w' := by
  have PF : Hid (∀ (c : Cla) (u : Value) W, FigsAt W c u → goodC c → isAddrW c.word = true → isPortW c.word = false → (c.word == wProto) = false → Calls Tryd.prog 49 #[.agg (claV c u)] W fun x w' => x = .returned (.tuple #[.int .u32 (preC c).1, .int .i64 (preC c).2]) ∧ Below W.heap.size W w') := fun c u W h1 h2 h3 h4 h5 => prefix_any c u W h1 (addr_facts h2 h3 h4 h5).1 (addr_facts h2 h3 h4 h5).2
  have PO : Hid (∀ (c : Cla) (u : Value) W, FigsAt W c u → goodC c → Calls Tryd.prog 50 #[.agg (claV c u)] W fun x w' => x = .returned (.tuple #[.int .i64 (porC c).1, .int .i64 (porC c).2]) ∧ Below W.heap.size W w') := fun c u W h1 h2 => ports7_any c u W h1 (good_pos h2)
  obtain ⟨o, cap, rfl, hc1, hc2⟩ := NSl.slice hu
  have AC : Hid (∀ W, Calls Tryd.prog 48 #[.agg (rawV x (.slice o x.clauses.length cap))] W fun e w' => e = .returned (.int .i64 (actOf x)) ∧ Below W.heap.size W w') := fun W => action7_any x _ ⟨_, _, _, rfl⟩ W
  obtain ⟨n, hn⟩ : ∃ n, n = x.clauses.length := ⟨_, rfl⟩
  have HN : Hid (n = x.clauses.length) := hn
  rw [← hn] at hu hc1 AC ⊢
  have HU : Hid (ClasAt w x (.slice o n cap)) := hu
  unfold maxLen at hc2
  have b1 : Hid (((w.alloc (.cells (rawV x (.slice o n cap)) 70)).alloc (.cells EntE.zero 47)).heap[w.heap.size]? = some (.cells (rawV x (.slice o n cap)) 70 (0, 0))) := heap_past _ _ _ _ (heap_new _ _ _ rfl)
  have b2 : Hid (((w.alloc (.cells (rawV x (.slice o n cap)) 70)).alloc (.cells EntE.zero 47)).heap[w.heap.size + 1]? = some (.cells EntE.zero 47 (0, 0))) := heap_new _ _ _ (by simp)
  have B0 : Hid (Below w.heap.size w ((w.alloc (.cells (rawV x (.slice o n cap)) 70)).alloc (.cells EntE.zero 47))) := below2 _ _ _
  have c1 := (raw_f b1.out).2.1
  unfold EntE at c1
  simp only at c1
  clear hu hn
  cases hd : x.dflt with
  | true =>
    have hm : entV (meaning x) = #[.bool true, .int .i64 0, .int .u32 0, .int .i64 0, .int .u32 0, .int .i64 0, .int .i64 0, .int .i64 0, .int .i64 0, .int .i64 0, .int .i64 0, .int .i64 (actOf x)] := by unfold meaning; rw [hd]; rfl
    rw [hm]
    rw [hd] at c1
    clear hm
    go_enter Tryd.func32, Tryd.ntmps32
    go_wp2_with (first
      | (refine wl_loadE (E := RawE) RawOk rfl _ rfl w.heap.size 0 rfl _ _ _ (rawV x (.slice o n cap)) rfl b1.out (own_cells _ _) ?_))
    refine (AC.out _).mono ?_
    rintro e w1 ⟨rfl, hb1⟩
    have k2 : Hid (w1.heap[w.heap.size + 1]? = some (.cells EntE.zero 47 (0, 0))) := (hb1.block _ (by simp)).trans b2.out
    have B1 : Hid (Below w.heap.size w w1) := B0.out.trans (hb1.mono (by simp; omega))
    clear hb1
    go_wp2_with (first
      | (refine wl_storeE (E := EntE) EntOk rfl _ _ rfl (w.heap.size + 1) #[.bool true, .int .i64 0, .int .u32 0, .int .i64 0, .int .u32 0, .int .i64 0, .int .i64 0, .int .i64 0, .int .i64 0, .int .i64 0, .int .i64 0, .int .i64 (actOf x)] ⟨rfl, by simp [Value.oneCell']⟩ rfl rfl _ k2.out rfl _ rfl ?_))
    refine retE (E := EntE) EntOk rfl rfl (w.heap.size + 1) rfl _ rfl (setRow_heap _ _ _ _ _ _ k2.out) ?_
    exact ⟨rfl, below_setRow B1.out (by omega) _⟩
  | false =>
    have hf := hr hd
    have hcs : faultCs [] x.clauses = .ok () := by
      unfold faultR at hf
      split at hf
      · cases hf
      · exact hf
    have GD : Hid (∀ c ∈ x.clauses, goodC c) := faultCs_in _ _ hcs
    have HM : Hid (meanK x n = meaning x) := by
      show _ = _
      unfold meanK
      rw [HN.out, List.take_length]
      exact mean_fold x hd hf
    have HD : Hid (x.dflt = false) := hd
    rw [hd] at c1
    clear hf hcs hd hr
    go_enter Tryd.func32, Tryd.ntmps32
    go_wp2_with fail
    refine mean3_region (by simp) w.heap.size x (.slice o n cap) rfl b1.out ⟨_, _, _, rfl⟩ ?_
    intro y w1 G hy hG hb1 hg1
    simp only [putsD, mean3_D, List.foldl_cons, List.foldl_nil, hy, Act.put, List.setIfInBounds_toArray, List.set_cons_succ, List.set_cons_zero]
    have hG' : w.heap.size + 1 < G := by simp at hG; omega
    have K0 : Hid (w1.heap[G]? = some (.cells (entV (meanK x 0)) 47 (0, 0))) := hg1
    have K1 : Hid (w1.heap[w.heap.size]? = some (.cells (rawV x (.slice o n cap)) 70 (0, 0))) := (hb1.block _ (by simp; omega)).trans b1.out
    have K2 : Hid (w1.heap[w.heap.size + 1]? = some (.cells EntE.zero 47 (0, 0))) := (hb1.block _ (by simp)).trans b2.out
    have B1 : Hid (Below w.heap.size w w1) := B0.out.trans (hb1.mono (by simp; omega))
    have c4 := (raw_f K1.out).2.2.2.1
    clear hb1 hg1 hG hy b1 b2 B0 c1
    go_wp2_with fail
    clear c4
    go_loopw [20] (fun i wr => ∃ k : Nat, k ≤ n ∧ i = .int .i64 (k : Int) ∧ wr.heap[G]? = some (.cells (entV (meanK x k)) 47 (0, 0)) ∧ wr.heap[w.heap.size + 1]? = some (.cells EntE.zero 47 (0, 0)) ∧ Below w.heap.size w wr) (fun i _ => n - (intOf i).toNat)
    case atStart => exact ⟨0, Nat.zero_le _, rfl, K0.out, K2.out, B1.out⟩
    case round =>
      clear K0 K1 K2 B1
      obtain ⟨k, hk, rfl, hr0, hr2, hb⟩ := hrel
      have R0 : Hid (wr.heap[G]? = some (.cells (entV (meanK x k)) 47 (0, 0))) := hr0
      have R2 : Hid (wr.heap[w.heap.size + 1]? = some (.cells EntE.zero 47 (0, 0))) := hr2
      have HB : Hid (Below w.heap.size w wr) := hb
      clear hr0 hr2 hb
      by_cases hlt : k < n
      · have hlt' : (k : Int) < (n : Int) := by omega
        obtain ⟨g, off, cur, ty, fr, c, u', rfl, hg, hc, hCk, hcl⟩ := NSl.at (NSl.below figs_below HU.out HB.out) k hlt
        have hgood := GD.out c (List.mem_of_getElem? hCk)
        have HG0 : Hid (goodC c) := hgood
        have HX : Hid (meanK x (k + 1) = setC (meanK x k) c) := meanK_next hCk
        have K1 : Hid (wr.heap[g]? = some (.cells cur ty fr)) := hg
        have H1 : Hid (∀ i, i < 5 → cur[off + k * 5 + i]? = (claV c u')[i]?) := hc
        have HF : Hid (FigsAt wr c u') := hcl
        have hGr : G < wr.heap.size := (Array.getElem?_eq_some_iff.1 R0.out).1
        obtain ⟨o1, cap1, rfl, hca1, hcb1⟩ := GSl.slice hcl
        obtain ⟨n1, hn1⟩ : ∃ n1, n1 = c.nums.length := ⟨_, rfl⟩
        rw [← hn1] at H1 HF hca1
        have hn0 : 0 < n1 := by rw [hn1]; exact good_pos hgood
        have HN1 : Hid (n1 = c.nums.length) := hn1
        unfold maxLen at hcb1
        have KN : Hid ((wr.alloc (.cells (claV c (.slice o1 n1 cap1)) 100)).heap[wr.heap.size]? = some (.cells (claV c (.slice o1 n1 cap1)) 100 (0, 0))) := heap_new _ _ _ rfl
        have n0 := (cla_f KN.out).1
        have BN : Hid (Below wr.heap.size wr (wr.alloc (.cells (claV c (.slice o1 n1 cap1)) 100))) := (Below.refl _ _).alloc (Nat.le_refl _) _
        have hw := good_word hgood
        clear hg hc hCk hcl hgood hn1
        rcases hw with hw | hw | hw | hw | hw
        · have HW : Hid (c.word = wSrc) := hw
          rw [hw] at n0
          have HS : Hid (entV (meanK x (k + 1)) = ((entV (meanK x k)).setIfInBounds 2 (.int .u32 (preC c).1)).setIfInBounds 3 (.int .i64 (preC c).2)) := by show _ = _; rw [HX.out]; exact setC_src hw
          clear hw
          unfold wSrc at n0
          go_wp2_with (first
          | (refine wl_loadE (E := ClaE) ClaOk rfl _ rfl g (off + k * 5) rfl cur ty fr (claV c (.slice o1 n1 cap1)) rfl K1.out H1.out ?_)
          | (refine wl_storeE (E := ClaE) ClaOk rfl _ _ rfl wr.heap.size (claV c (.slice o1 n1 cap1)) ⟨rfl, by simp [claV, Value.oneCell']⟩ rfl rfl _ (heap_new _ _ _ rfl) rfl _ (setRow_new _ _ _ _ _ rfl) ?_)
            | (refine wl_loadE (E := ClaE) ClaOk rfl _ rfl wr.heap.size 0 rfl _ _ _ (claV c (.slice o1 n1 cap1)) rfl KN.out (own_cells _ _) ?_))
          refine (PF.out c _ _ (figs_below _ _ _ _ BN.out HF.out) HG0.out (by rw [HW.out]; decide) (by rw [HW.out]; decide) (by rw [HW.out]; decide)).mono ?_
          rintro e w2 ⟨rfl, hb2⟩
          have B2 : Hid (Below wr.heap.size wr w2) := BN.out.trans (hb2.mono BN.out.size)
          have g2 : w2.heap[G]? = some (.cells (entV (meanK x k)) 47 (0, 0)) := (B2.out.block G hGr).trans R0.out
          have q1 : w2.cell? ⟨G, 2, none⟩ = some (.int .u32 (meanK x k).src) := by rw [cell_of_row _ _ _ _ _ _ g2]; rfl
          have z1 : w2.frozen? ⟨G, 2, none⟩ = false := tc_frozen g2 rfl
          obtain ⟨q2, z2⟩ := tc_cell (k := 2) g2 rfl 3 (.int .u32 (preC c).1) 3 (by decide) (.int .i64 (meanK x k).srcBits) rfl
          have G3 : Hid (((w2.setCell ⟨G, 2, none⟩ (.int .u32 (preC c).1)).setCell ⟨G, 3, none⟩ (.int .i64 (preC c).2)).heap[G]? = some (.cells (entV (meanK x (k + 1))) 47 (0, 0))) := by show _ = _; rw [HS.out]; exact tc_row (tc_row g2 _) _
          have R3 : Hid (((w2.setCell ⟨G, 2, none⟩ (.int .u32 (preC c).1)).setCell ⟨G, 3, none⟩ (.int .i64 (preC c).2)).heap[w.heap.size + 1]? = some (.cells EntE.zero 47 (0, 0))) := (tc_far (by omega) _).trans ((tc_far (by omega) _).trans ((B2.out.block _ (by omega)).trans R2.out))
          have B3 : Hid (Below w.heap.size w ((w2.setCell ⟨G, 2, none⟩ (.int .u32 (preC c).1)).setCell ⟨G, 3, none⟩ (.int .i64 (preC c).2))) := tc_below (tc_below (HB.out.trans (B2.out.mono HB.out.size)) (by omega) _ _) (by omega) _ _
          clear hb2 g2 n0
          go_wp2_with fail
          go_roundw
          case rel => exact ⟨k + 1, by omega, by go_num, G3.out, R3.out, B3.out⟩
          case measure => simp [intOf]; omega
        · have HW : Hid (c.word = wDst) := hw
          rw [hw] at n0
          have HS : Hid (entV (meanK x (k + 1)) = ((entV (meanK x k)).setIfInBounds 4 (.int .u32 (preC c).1)).setIfInBounds 5 (.int .i64 (preC c).2)) := by show _ = _; rw [HX.out]; exact setC_dst hw
          clear hw
          unfold wDst at n0
          go_wp2_with (first
          | (refine wl_loadE (E := ClaE) ClaOk rfl _ rfl g (off + k * 5) rfl cur ty fr (claV c (.slice o1 n1 cap1)) rfl K1.out H1.out ?_)
          | (refine wl_storeE (E := ClaE) ClaOk rfl _ _ rfl wr.heap.size (claV c (.slice o1 n1 cap1)) ⟨rfl, by simp [claV, Value.oneCell']⟩ rfl rfl _ (heap_new _ _ _ rfl) rfl _ (setRow_new _ _ _ _ _ rfl) ?_)
            | (refine wl_loadE (E := ClaE) ClaOk rfl _ rfl wr.heap.size 0 rfl _ _ _ (claV c (.slice o1 n1 cap1)) rfl KN.out (own_cells _ _) ?_))
          refine (PF.out c _ _ (figs_below _ _ _ _ BN.out HF.out) HG0.out (by rw [HW.out]; decide) (by rw [HW.out]; decide) (by rw [HW.out]; decide)).mono ?_
          rintro e w2 ⟨rfl, hb2⟩
          have B2 : Hid (Below wr.heap.size wr w2) := BN.out.trans (hb2.mono BN.out.size)
          have g2 : w2.heap[G]? = some (.cells (entV (meanK x k)) 47 (0, 0)) := (B2.out.block G hGr).trans R0.out
          have q1 : w2.cell? ⟨G, 4, none⟩ = some (.int .u32 (meanK x k).dst) := by rw [cell_of_row _ _ _ _ _ _ g2]; rfl
          have z1 : w2.frozen? ⟨G, 4, none⟩ = false := tc_frozen g2 rfl
          obtain ⟨q2, z2⟩ := tc_cell (k := 4) g2 rfl 5 (.int .u32 (preC c).1) 5 (by decide) (.int .i64 (meanK x k).dstBits) rfl
          have G3 : Hid (((w2.setCell ⟨G, 4, none⟩ (.int .u32 (preC c).1)).setCell ⟨G, 5, none⟩ (.int .i64 (preC c).2)).heap[G]? = some (.cells (entV (meanK x (k + 1))) 47 (0, 0))) := by show _ = _; rw [HS.out]; exact tc_row (tc_row g2 _) _
          have R3 : Hid (((w2.setCell ⟨G, 4, none⟩ (.int .u32 (preC c).1)).setCell ⟨G, 5, none⟩ (.int .i64 (preC c).2)).heap[w.heap.size + 1]? = some (.cells EntE.zero 47 (0, 0))) := (tc_far (by omega) _).trans ((tc_far (by omega) _).trans ((B2.out.block _ (by omega)).trans R2.out))
          have B3 : Hid (Below w.heap.size w ((w2.setCell ⟨G, 4, none⟩ (.int .u32 (preC c).1)).setCell ⟨G, 5, none⟩ (.int .i64 (preC c).2))) := tc_below (tc_below (HB.out.trans (B2.out.mono HB.out.size)) (by omega) _ _) (by omega) _ _
          clear hb2 g2 n0
          go_wp2_with fail
          go_roundw
          case rel => exact ⟨k + 1, by omega, by go_num, G3.out, R3.out, B3.out⟩
          case measure => simp [intOf]; omega
        · have HW : Hid (c.word = wSport) := hw
          rw [hw] at n0
          have HS : Hid (entV (meanK x (k + 1)) = ((entV (meanK x k)).setIfInBounds 6 (.int .i64 (porC c).1)).setIfInBounds 7 (.int .i64 (porC c).2)) := by show _ = _; rw [HX.out]; exact setC_sport hw
          clear hw
          unfold wSport at n0
          go_wp2_with (first
          | (refine wl_loadE (E := ClaE) ClaOk rfl _ rfl g (off + k * 5) rfl cur ty fr (claV c (.slice o1 n1 cap1)) rfl K1.out H1.out ?_)
          | (refine wl_storeE (E := ClaE) ClaOk rfl _ _ rfl wr.heap.size (claV c (.slice o1 n1 cap1)) ⟨rfl, by simp [claV, Value.oneCell']⟩ rfl rfl _ (heap_new _ _ _ rfl) rfl _ (setRow_new _ _ _ _ _ rfl) ?_)
            | (refine wl_loadE (E := ClaE) ClaOk rfl _ rfl wr.heap.size 0 rfl _ _ _ (claV c (.slice o1 n1 cap1)) rfl KN.out (own_cells _ _) ?_))
          refine (PO.out c _ _ (figs_below _ _ _ _ BN.out HF.out) HG0.out).mono ?_
          rintro e w2 ⟨rfl, hb2⟩
          have B2 : Hid (Below wr.heap.size wr w2) := BN.out.trans (hb2.mono BN.out.size)
          have g2 : w2.heap[G]? = some (.cells (entV (meanK x k)) 47 (0, 0)) := (B2.out.block G hGr).trans R0.out
          have q1 : w2.cell? ⟨G, 6, none⟩ = some (.int .i64 (meanK x k).slow) := by rw [cell_of_row _ _ _ _ _ _ g2]; rfl
          have z1 : w2.frozen? ⟨G, 6, none⟩ = false := tc_frozen g2 rfl
          obtain ⟨q2, z2⟩ := tc_cell (k := 6) g2 rfl 7 (.int .i64 (porC c).1) 7 (by decide) (.int .i64 (meanK x k).shigh) rfl
          have G3 : Hid (((w2.setCell ⟨G, 6, none⟩ (.int .i64 (porC c).1)).setCell ⟨G, 7, none⟩ (.int .i64 (porC c).2)).heap[G]? = some (.cells (entV (meanK x (k + 1))) 47 (0, 0))) := by show _ = _; rw [HS.out]; exact tc_row (tc_row g2 _) _
          have R3 : Hid (((w2.setCell ⟨G, 6, none⟩ (.int .i64 (porC c).1)).setCell ⟨G, 7, none⟩ (.int .i64 (porC c).2)).heap[w.heap.size + 1]? = some (.cells EntE.zero 47 (0, 0))) := (tc_far (by omega) _).trans ((tc_far (by omega) _).trans ((B2.out.block _ (by omega)).trans R2.out))
          have B3 : Hid (Below w.heap.size w ((w2.setCell ⟨G, 6, none⟩ (.int .i64 (porC c).1)).setCell ⟨G, 7, none⟩ (.int .i64 (porC c).2))) := tc_below (tc_below (HB.out.trans (B2.out.mono HB.out.size)) (by omega) _ _) (by omega) _ _
          clear hb2 g2 n0
          go_wp2_with fail
          go_roundw
          case rel => exact ⟨k + 1, by omega, by go_num, G3.out, R3.out, B3.out⟩
          case measure => simp [intOf]; omega
        · have HW : Hid (c.word = wDport) := hw
          rw [hw] at n0
          have HS : Hid (entV (meanK x (k + 1)) = ((entV (meanK x k)).setIfInBounds 8 (.int .i64 (porC c).1)).setIfInBounds 9 (.int .i64 (porC c).2)) := by show _ = _; rw [HX.out]; exact setC_dport hw
          clear hw
          unfold wDport at n0
          go_wp2_with (first
          | (refine wl_loadE (E := ClaE) ClaOk rfl _ rfl g (off + k * 5) rfl cur ty fr (claV c (.slice o1 n1 cap1)) rfl K1.out H1.out ?_)
          | (refine wl_storeE (E := ClaE) ClaOk rfl _ _ rfl wr.heap.size (claV c (.slice o1 n1 cap1)) ⟨rfl, by simp [claV, Value.oneCell']⟩ rfl rfl _ (heap_new _ _ _ rfl) rfl _ (setRow_new _ _ _ _ _ rfl) ?_)
            | (refine wl_loadE (E := ClaE) ClaOk rfl _ rfl wr.heap.size 0 rfl _ _ _ (claV c (.slice o1 n1 cap1)) rfl KN.out (own_cells _ _) ?_))
          refine (PO.out c _ _ (figs_below _ _ _ _ BN.out HF.out) HG0.out).mono ?_
          rintro e w2 ⟨rfl, hb2⟩
          have B2 : Hid (Below wr.heap.size wr w2) := BN.out.trans (hb2.mono BN.out.size)
          have g2 : w2.heap[G]? = some (.cells (entV (meanK x k)) 47 (0, 0)) := (B2.out.block G hGr).trans R0.out
          have q1 : w2.cell? ⟨G, 8, none⟩ = some (.int .i64 (meanK x k).dlow) := by rw [cell_of_row _ _ _ _ _ _ g2]; rfl
          have z1 : w2.frozen? ⟨G, 8, none⟩ = false := tc_frozen g2 rfl
          obtain ⟨q2, z2⟩ := tc_cell (k := 8) g2 rfl 9 (.int .i64 (porC c).1) 9 (by decide) (.int .i64 (meanK x k).dhigh) rfl
          have G3 : Hid (((w2.setCell ⟨G, 8, none⟩ (.int .i64 (porC c).1)).setCell ⟨G, 9, none⟩ (.int .i64 (porC c).2)).heap[G]? = some (.cells (entV (meanK x (k + 1))) 47 (0, 0))) := by show _ = _; rw [HS.out]; exact tc_row (tc_row g2 _) _
          have R3 : Hid (((w2.setCell ⟨G, 8, none⟩ (.int .i64 (porC c).1)).setCell ⟨G, 9, none⟩ (.int .i64 (porC c).2)).heap[w.heap.size + 1]? = some (.cells EntE.zero 47 (0, 0))) := (tc_far (by omega) _).trans ((tc_far (by omega) _).trans ((B2.out.block _ (by omega)).trans R2.out))
          have B3 : Hid (Below w.heap.size w ((w2.setCell ⟨G, 8, none⟩ (.int .i64 (porC c).1)).setCell ⟨G, 9, none⟩ (.int .i64 (porC c).2))) := tc_below (tc_below (HB.out.trans (B2.out.mono HB.out.size)) (by omega) _ _) (by omega) _ _
          clear hb2 g2 n0
          go_wp2_with fail
          go_roundw
          case rel => exact ⟨k + 1, by omega, by go_num, G3.out, R3.out, B3.out⟩
          case measure => simp [intOf]; omega
        · have HS : Hid (entV (meanK x (k + 1)) = (entV (meanK x k)).setIfInBounds 10 (.int .i64 (nth c 0))) := by show _ = _; rw [HX.out]; exact setC_proto hw
          rw [hw] at n0
          clear hw
          unfold wProto at n0
          obtain ⟨g1, off1, cur1, ty1, fr1, f, rfl, hg1, hc1', hf1⟩ := HF.out.at 0 hn0
          have hnf := nth_q hf1
          have cg : (wr.alloc (.cells (claV c (.slice (some ⟨g1, off1, none⟩) n1 cap1)) 100)).cell? ⟨g1, off1, none⟩ = some (.int .i64 (nth c 0)) := by
            rw [cell_of_row _ _ _ _ _ _ (heap_past _ _ _ _ hg1), hnf]
            have := hc1' 0 (by decide)
            rw [show off1 + 0 * FigE.size + 0 = off1 by simp] at this
            exact this
          have n2 := (cla_f KN.out).2.2.1
          have g2 : (wr.alloc (.cells (claV c (.slice (some ⟨g1, off1, none⟩) n1 cap1)) 100)).heap[G]? = some (.cells (entV (meanK x k)) 47 (0, 0)) := (BN.out.block G hGr).trans R0.out
          have q1 : (wr.alloc (.cells (claV c (.slice (some ⟨g1, off1, none⟩) n1 cap1)) 100)).cell? ⟨G, 10, none⟩ = some (.int .i64 (meanK x k).proto) := by rw [cell_of_row _ _ _ _ _ _ g2]; rfl
          have z1 : (wr.alloc (.cells (claV c (.slice (some ⟨g1, off1, none⟩) n1 cap1)) 100)).frozen? ⟨G, 10, none⟩ = false := tc_frozen g2 rfl
          have hp0 : (0 : Int) < (n1 : Int) := by omega
          obtain ⟨N, hN⟩ : ∃ N, N = nth c 0 := ⟨_, rfl⟩
          rw [← hN] at cg HS
          have G3 : Hid (((wr.setCell ⟨G, 10, none⟩ (.int .i64 N)).alloc (.cells (claV c (.slice (some ⟨g1, off1, none⟩) n1 cap1)) 100)).heap[G]? = some (.cells (entV (meanK x (k + 1))) 47 (0, 0))) := by show _ = _; rw [HS.out]; exact heap_past _ _ _ _ (tc_row R0.out _)
          have R3 : Hid (((wr.setCell ⟨G, 10, none⟩ (.int .i64 N)).alloc (.cells (claV c (.slice (some ⟨g1, off1, none⟩) n1 cap1)) 100)).heap[w.heap.size + 1]? = some (.cells EntE.zero 47 (0, 0))) := heap_past _ _ _ _ ((tc_far (by omega) _).trans R2.out)
          have B3 : Hid (Below w.heap.size w ((wr.setCell ⟨G, 10, none⟩ (.int .i64 N)).alloc (.cells (claV c (.slice (some ⟨g1, off1, none⟩) n1 cap1)) 100))) := (tc_below HB.out (by omega) _ _).alloc (tc_below HB.out (by omega) _ _).size _
          clear hg1 hc1' hf1 hnf g2 hN
          go_wp2_with (first
          | (refine wl_loadE (E := ClaE) ClaOk rfl _ rfl g (off + k * 5) rfl cur ty fr (claV c (.slice (some ⟨g1, off1, none⟩) n1 cap1)) rfl K1.out H1.out ?_)
          | (refine wl_storeE (E := ClaE) ClaOk rfl _ _ rfl wr.heap.size (claV c (.slice (some ⟨g1, off1, none⟩) n1 cap1)) ⟨rfl, by simp [claV, Value.oneCell']⟩ rfl rfl _ (heap_new _ _ _ rfl) rfl _ (setRow_new _ _ _ _ _ rfl) ?_)
            | fail)
          go_roundw
          case rel => exact ⟨k + 1, by omega, by go_num, G3.out, R3.out, B3.out⟩
          case measure => simp [intOf]; omega
      · have hlt' : (n : Int) ≤ (k : Int) := by omega
        obtain rfl : k = n := by omega
        clear hlt
        go_wp2_with (first
          | (refine wl_loadE (E := EntE) EntOk rfl _ rfl G 0 rfl _ _ _ (entV (meanK x k)) rfl R0.out (own_cells _ _) ?_)
          | (refine wl_storeE (E := EntE) EntOk rfl _ _ rfl (w.heap.size + 1) (entV (meanK x k)) (ent_fits _) rfl rfl _ R2.out rfl _ rfl ?_))
        refine retE (E := EntE) EntOk rfl rfl (w.heap.size + 1) rfl (entV (meanK x k)) rfl (setRow_heap _ _ _ _ _ _ R2.out) ?_
        exact ⟨by rw [HM.out], below_setRow HB.out (by omega) _⟩
end Go.Proofs.YtnbklmmampdbfaaDoor
namespace Go.Proofs.YtnbklmmampdbfaaDoor
open Go Go.RowKit
set_option maxRecDepth 20000

/-- What a check comes to: entries, error, place. -/
def outC : ResI (List Ent) → List Ent × Int × Int
  | .ok m => (m, 0, 0)
  | .error x => ([], (x.1 : Int), x.2)
def checkP (size : Int) (l : List Raw) : List Ent × Int × Int := outC (checkGo size 0 false l)
theorem map_app {m : List Ent} {x : ResI (List Ent)} {r : Ent} : ((x.map fun y => r :: y).map fun y => m ++ y) = x.map fun y => (m ++ [r]) ++ y := by
  cases x <;> simp [Except.map]
theorem map_nil' {x : ResI (List Ent)} : (x.map fun y => [] ++ y) = x := by
  cases x <;> simp [Except.map]
def EntsOwn (B : Nat) (w : World) (m : List Ent) (v : Value) : Prop := w.ownsRow B 47 12 v m.length (gcells entV m)
def EntsAt (w : World) (v : Value) (m : List Ent) : Prop := GSl EntE entV w v m
theorem ents_sl {B : Nat} {w : World} {m : List Ent} {v : Value} (h : EntsOwn B w m v) : EntsAt w v m := gsl_of (E := EntE) h fun _ _ => rfl
theorem pos_err {a : Int} {x : Int × Int} (h : x.1 ≠ 0) : x.1 = a → a ≠ 0 := fun e => e ▸ h

set_option maxHeartbeats 16000000 in
set_option maxRecDepth 100000 in
theorem check_any (l : List Raw) (vl : Value) (size : Int) (w : World) (hl : RawsAt w vl l) :
    Calls Tryd.prog 19 #[vl, .int .i64 size] w fun e w' => ∃ v, e = .returned (.tuple #[v, .int .i64 (checkP size l).2.1, .int .i64 (checkP size l).2.2]) ∧ EntsOwn w.heap.size w' (checkP size l).1 v ∧ Below w.heap.size w w' := by
  have ME : Hid (∀ (x : Raw) (u : Value) W, ClasAt W x u → rightR x → Calls Tryd.prog 32 #[.agg (rawV x u)] W fun e w' => e = .returned (.agg (entV (meaning x))) ∧ Below W.heap.size W w') := fun x u W h1 h2 => meaning_any x u W h1 h2.rule
  obtain ⟨o, cap, rfl, hc1, hc2⟩ := NSl.slice hl
  obtain ⟨n, hn⟩ : ∃ n, n = l.length := ⟨_, rfl⟩
  have HN : Hid (n = l.length) := hn
  rw [← hn] at hl hc1 ⊢
  have HL : Hid (RawsAt w (.slice o n cap) l) := hl
  unfold maxLen at hc2
  obtain ⟨P, hP⟩ : ∃ P, P = checkP size l := ⟨_, rfl⟩
  have HP : Hid (P = outC (checkGo size 0 false l)) := hP
  rw [← hP]
  clear hl hn hP
  go_enter Tryd.func19, Tryd.ntmps19
  go_wp2_with fail
  go_loopw [7, 8, 14] (fun v b i wr => ∃ (k : Nat) (had : Bool) (m : List Ent), k ≤ n ∧ k ≤ 64 ∧ i = .int .i64 (k : Int) ∧ b = .bool had ∧ m.length = k ∧ Hid (checkGo size 0 false l = (checkGo size k had (l.drop k)).map fun y => m ++ y) ∧ EntsOwn w.heap.size wr m v ∧ Below w.heap.size w wr) (fun _ _ i _ => n - (intOf i).toNat)
  case atStart => exact ⟨0, false, [], Nat.zero_le _, Nat.zero_le _, rfl, rfl, rfl, (by show _ = _; rw [List.drop_zero, map_nil']), World.ownsRow_nil _ _ _ _, Below.refl _ _⟩
  case round =>
    obtain ⟨k, had, m, hk, hk64, rfl, rfl, hm, HC, hown, hb⟩ := hrel
    have HO : Hid (EntsOwn w.heap.size wr m u7) := hown
    have HB : Hid (Below w.heap.size w wr) := hb
    have HM : Hid (m.length = k) := hm
    clear hown hb hm
    by_cases hlt : k < n
    · have hlt' : (k : Int) < (n : Int) := by omega
      obtain ⟨g, off, cur, ty, fr, r, u', rfl, hg, hc, hCk, hcl⟩ := NSl.at (NSl.below clas_below HL.out HB.out) k hlt
      have HD : Hid (l.drop k = r :: l.drop (k + 1)) := by
        obtain ⟨hk', rfl⟩ := List.getElem?_eq_some_iff.1 hCk
        exact List.drop_eq_getElem_cons hk'
      have K1 : Hid (wr.heap[g]? = some (.cells cur ty fr)) := hg
      have H1 : Hid (∀ i, i < 8 → cur[off + k * 8 + i]? = (rawV r u')[i]?) := hc
      have HF : Hid (ClasAt wr r u') := hcl
      obtain ⟨o1, cap1, rfl, -, -⟩ := NSl.slice hcl
      have BN : Hid (Below wr.heap.size wr (wr.alloc (.cells (rawV r (.slice o1 r.clauses.length cap1)) 70))) := (Below.refl _ _).alloc (Nat.le_refl _) _
      have KN : Hid ((wr.alloc (.cells (rawV r (.slice o1 r.clauses.length cap1)) 70)).heap[wr.heap.size]? = some (.cells (rawV r (.slice o1 r.clauses.length cap1)) 70 (0, 0))) := heap_new _ _ _ rfl
      have HFN : Hid (ClasAt (wr.alloc (.cells (rawV r (.slice o1 r.clauses.length cap1)) 70)) r (.slice o1 r.clauses.length cap1)) := clas_below _ _ _ _ BN.out HF.out
      clear hg hc hCk hcl
      go_wp2_with (first
        | (refine wl_loadE (E := RawE) RawOk rfl _ rfl g (off + k * 8) rfl cur ty fr (rawV r (.slice o1 r.clauses.length cap1)) rfl K1.out H1.out ?_)
        | (refine wl_storeE (E := RawE) RawOk rfl _ _ rfl wr.heap.size (rawV r (.slice o1 r.clauses.length cap1)) ⟨rfl, by simp [rawV, Value.oneCell']⟩ rfl rfl _ (heap_new _ _ _ rfl) rfl _ (setRow_new _ _ _ _ _ rfl) ?_))
      refine chk6_region (by exact Nat.le_refl _) k wr.heap.size had r (.slice o1 r.clauses.length cap1) rfl rfl rfl KN.out HFN.out ?_
      intro y w1 G hy hG hb1 hg1
      simp only [putsD, chk6_D, List.foldl_cons, List.foldl_nil, hy, Act.put, List.setIfInBounds_toArray, List.set_cons_succ, List.set_cons_zero]
      have B1 : Hid (Below wr.heap.size wr w1) := BN.out.trans (hb1.mono BN.out.size)
      have KR : Hid (w1.heap[wr.heap.size]? = some (.cells (rawV r (.slice o1 r.clauses.length cap1)) 70 (0, 0))) := (hb1.block _ (by simp)).trans KN.out
      have HF1 : Hid (ClasAt w1 r (.slice o1 r.clauses.length cap1)) := clas_below _ _ _ _ B1.out HF.out
      have HO1 : Hid (EntsOwn w.heap.size w1 m u7) := gown_below HO.out B1.out
      have BW : Hid (Below w.heap.size w w1) := HB.out.trans (B1.out.mono HB.out.size)
      have G0 : Hid (w1.heap[G]? = some (.cells (fltV (rowF k had r)) 72 (0, 0))) := hg1
      have f0 : w1.cell? ⟨G, 0, none⟩ = some (.int .i64 (rowF k had r).1) := by rw [cell_of_row _ _ _ _ _ _ G0.out]; rfl
      clear hy hG hb1 hg1 BN KN HFN K1 H1
      by_cases hz : (rowF k had r).1 = 0
      · have hz' : ((rowF k had r).1 != 0) = false := by simp [hz]
        obtain ⟨hgo, hright, h64⟩ := check_good size k had r (l.drop (k + 1)) hz
        have HRT : Hid (rightR r) := hright
        have HC2 : Hid (checkGo size 0 false l = (checkGo size (k + 1) (had || r.dflt) (l.drop (k + 1))).map fun y => (m ++ [meaning r]) ++ y) := by
          show _ = _
          rw [HC.out, HD.out, hgo, map_app]
        have hd1 := (raw_f KR.out).2.1
        clear hgo hright hz
        have step : ∀ (w2 : World), Below w1.heap.size w1 w2 → True := fun _ _ => trivial
        clear step
        cases had with
        | false =>
          go_wp2_with (first
            | (refine wl_loadE (E := RawE) RawOk rfl _ rfl wr.heap.size 0 rfl _ _ _ (rawV r (.slice o1 r.clauses.length cap1)) rfl KR.out (own_cells _ _) ?_))
          refine (ME.out _ _ _ HF1.out HRT.out).mono ?_
          rintro e w2 ⟨rfl, hb2⟩
          have B2 : Hid (Below w.heap.size w w2) := BW.out.trans (hb2.mono BW.out.size)
          have HO2 : Hid (EntsOwn w.heap.size (w2.alloc (.cells (entV (meaning r)) 47)) m u7) := (gown_below HO1.out hb2).alloc _
          clear hb2 hd1 f0
          go_wp2_with (first
            | (refine wl_buildE (E := EntE) EntOk rfl _ rfl (entV (meaning r)) rfl rfl ?_)
            | (at_builtin; refine of_stopT ?_))
          unfold StopT
          refine wl_appendE (E := EntE) EntOk entV rfl _ _ rfl w.heap.size u7 m (meaning r) (ent_fits _) rfl HO2.out w2.heap.size 1 rfl (heap_new _ _ _ rfl) (by have := HM.out; omega) (by have := B2.out.size; simp; omega) ?_
          intro v' w3 hown3 hgr3 _
          have B3 : Hid (Below w.heap.size w w3) := (B2.out.alloc B2.out.size _).trans ((Below.refl _ _).grown hgr3 (B2.out.alloc B2.out.size _).size fun k hk => (HO2.out.lt k hk).1)
          have HO3 : Hid (EntsOwn w.heap.size w3 (m ++ [meaning r]) v') := hown3
          clear hown3 hgr3
          simp only [Act.put, List.setIfInBounds_toArray, List.set_cons_succ, List.set_cons_zero]
          go_wp2_with fail
          go_roundw
          case rel => exact ⟨k + 1, r.dflt, m ++ [meaning r], by omega, by omega, by go_num, by simp, by rw [List.length_append, HM.out]; rfl, (by have := HC2.out; rw [Bool.false_or] at this; exact this), HO3.out, B3.out⟩
          case measure => simp [intOf]; omega
        | true =>
          go_wp2_with (first
            | (refine wl_loadE (E := RawE) RawOk rfl _ rfl wr.heap.size 0 rfl _ _ _ (rawV r (.slice o1 r.clauses.length cap1)) rfl KR.out (own_cells _ _) ?_))
          refine (ME.out _ _ _ HF1.out HRT.out).mono ?_
          rintro e w2 ⟨rfl, hb2⟩
          have B2 : Hid (Below w.heap.size w w2) := BW.out.trans (hb2.mono BW.out.size)
          have HO2 : Hid (EntsOwn w.heap.size (w2.alloc (.cells (entV (meaning r)) 47)) m u7) := (gown_below HO1.out hb2).alloc _
          clear hb2 hd1 f0
          go_wp2_with (first
            | (refine wl_buildE (E := EntE) EntOk rfl _ rfl (entV (meaning r)) rfl rfl ?_)
            | (at_builtin; refine of_stopT ?_))
          unfold StopT
          refine wl_appendE (E := EntE) EntOk entV rfl _ _ rfl w.heap.size u7 m (meaning r) (ent_fits _) rfl HO2.out w2.heap.size 1 rfl (heap_new _ _ _ rfl) (by have := HM.out; omega) (by have := B2.out.size; simp; omega) ?_
          intro v' w3 hown3 hgr3 _
          have B3 : Hid (Below w.heap.size w w3) := (B2.out.alloc B2.out.size _).trans ((Below.refl _ _).grown hgr3 (B2.out.alloc B2.out.size _).size fun k hk => (HO2.out.lt k hk).1)
          have HO3 : Hid (EntsOwn w.heap.size w3 (m ++ [meaning r]) v') := hown3
          clear hown3 hgr3
          simp only [Act.put, List.setIfInBounds_toArray, List.set_cons_succ, List.set_cons_zero]
          go_wp2_with fail
          go_roundw
          case rel => exact ⟨k + 1, true, m ++ [meaning r], by omega, by omega, by go_num, by simp, by rw [List.length_append, HM.out]; rfl, (by have := HC2.out; rw [Bool.true_or] at this; exact this), HO3.out, B3.out⟩
          case measure => simp [intOf]; omega
      · have hz' : ((rowF k had r).1 != 0) = true := by simp [hz]
        obtain ⟨e0, hgo, he0⟩ := check_bad size k had r (l.drop (k + 1)) hz
        have HPE : Hid (P = ([], (rowF k had r).1, (rowF k had r).2)) := by
          show _ = _
          rw [HP.out, HC.out, HD.out, hgo, he0]
          rfl
        have l0 : ∀ u : Later w1, u.world.cell? ⟨G, 0, none⟩ = some (.int .i64 (rowF k had r).1) := later_cell7 G0.out rfl
        have l1 : ∀ u : Later w1, u.world.cell? ⟨G, 1, none⟩ = some (.int .i64 (rowF k had r).2) := later_cell7 G0.out rfl
        clear hgo he0 hz
        go_wp2_with fail
        have ne1 := Later.ne w1
        refine wp_region_later (by kernel_rfl) (by kernel_rfl) ?_
        repeat go_big_quiet_step (rfl)
        refine wpQuiet_nil ?_
        rintro w' ⟨v, rfl⟩
        go_wp2_with fail
        go_ret3
        rw [HPE.out]
        exact ⟨_, rfl, World.ownsRow_nil _ _ _ _, BW.out.trans (v.below.mono BW.out.size)⟩
    · have hlt' : (n : Int) ≤ (k : Int) := by omega
      have hdrop : l.drop k = [] := List.drop_of_length_le (by have := HN.out; omega)
      have HC3 : Hid (checkGo size 0 false l = (checkGo size k had []).map fun y => m ++ y) := by rw [← hdrop]; exact HC.out
      clear hlt hdrop
      cases had with
      | true =>
        have HPE : Hid (P = (m, 0, 0)) := by
          show _ = _
          rw [HP.out, HC3.out]
          simp [checkGo, Except.map, outC]
        go_wp2_with fail
        go_ret3
        rw [HPE.out]
        exact ⟨_, rfl, HO.out, HB.out⟩
      | false =>
        have HPE : Hid (P = ([], 11, size)) := by
          show _ = _
          rw [HP.out, HC3.out]
          simp [checkGo, Except.map, outC]
        go_wp2_with fail
        go_ret3
        rw [HPE.out]
        exact ⟨_, rfl, World.ownsRow_nil _ _ _ _, HB.out⟩
end Go.Proofs.YtnbklmmampdbfaaDoor
