import Derived.Test.YtpbinkmeldkehaaJ25
import Derived.Test.YtpbinkmeldkehaaJ29
import Derived.Deep.QuietTactic
import Derived.BigQuiet
import Derived.Test.YtpbinkmeldkehaaJ26
import Derived.Test.YtpbinkmeldkehaaJ21
import Derived.Test.YtpbinkmeldkehaaJ24
import Derived.Test.YtpbinkmeldkehaaJ9
namespace Go.Proofs.Ytpbinkmeldkehaa
open Go Go.Lib Go.RowKit
set_option maxRecDepth 20000

theorem below_dn14 (w : World) (n : Nat) : Below w.heap.size w (w.drewN n) := by
  induction n with
  | zero => exact Below.refl _ _
  | succ n ih => exact ih.drew
/-! Who is there counts from 1 to 6 alone. -/
theorem giveGo_th {th th' : Nat → Bool} {ld : Nat → Int} {wt : Nat → Nat} {room size : Int} {but : Nat} : ∀ k, (∀ m, 1 ≤ m → m ≤ k → th m = th' m) → giveGo th ld wt room size but k = giveGo th' ld wt room size but k
  | 0, _ => rfl
  | k + 1, h => by
    rw [giveGo, giveGo, giveGo_th k fun m h1 h2 => h m h1 (by omega)]
    unfold mayG
    rw [h (k + 1) (by omega) (Nat.le_refl _)]
theorem giveN_th {th th' : Nat → Bool} (h : ∀ m, 1 ≤ m → m ≤ 6 → th m = th' m) (ld : Nat → Int) (wt : Nat → Nat) (room size : Int) (but : Nat) : giveN th ld wt room size but = giveN th' ld wt room size but := by
  unfold giveN
  rw [giveGo_th 6 h]
theorem oneOf_th {th th' : Nat → Bool} (h : ∀ m, 1 ≤ m → m ≤ 6 → th m = th' m) (wt : Nat → Nat) (room : Int) (ld : Nat → Int) (s : Int) : oneOf th wt room ld s = oneOf th' wt room ld s := by
  unfold oneOf
  rw [giveN_th h]
theorem twoOf_th {th th' : Nat → Bool} (h : ∀ m, 1 ≤ m → m ≤ 6 → th m = th' m) (wt : Nat → Nat) (room : Int) (ld : Nat → Int) (s : Int) : twoOf th wt room ld s = twoOf th' wt room ld s := by
  unfold twoOf
  rw [oneOf_th h, giveN_th h]
theorem nextL_th {th th' : Nat → Bool} (h : ∀ m, 1 ≤ m → m ≤ 6 → th m = th' m) (wt : Nat → Nat) (room : Int) (ld : Nat → Int) (s : Int) : nextL th wt room ld s = nextL th' wt room ld s := by
  unfold nextL
  rw [oneOf_th h, twoOf_th h]
theorem dealF_th {th th' : Nat → Bool} (h : ∀ m, 1 ≤ m → m ≤ 6 → th m = th' m) (wt : Nat → Nat) (room : Int) (cnt : Nat) (f : Nat → Int) : ∀ (o : List Nat) (ld : Nat → Int) (out : Nat → Nat × Nat), dealF th wt room cnt f o ld out = dealF th' wt room cnt f o ld out
  | [], _, _ => rfl
  | i :: o, ld, out => by
    rw [dealF, dealF]
    unfold badG
    rw [oneOf_th h, twoOf_th h, nextL_th h, dealF_th h wt room cnt f o]
theorem cntT_th {th th' : Nat → Bool} (h : ∀ m, 1 ≤ m → m ≤ 6 → th m = th' m) : cntT th = cntT th' := by
  unfold cntT
  rw [h 1 (by omega) (by omega), h 2 (by omega) (by omega), h 3 (by omega) (by omega), h 4 (by omega) (by omega), h 5 (by omega) (by omega), h 6 (by omega) (by omega)]
/-- Those up to a number. -/
def leL (a : Int) (live : List Int) : List Int := live.filter fun x => decide (x ≤ a)
theorem leL_take {a : Int} {live : List Int} {k : Nat} {x : Int} (h : live[k]? = some x) : leL a (live.take (k + 1)) = if x ≤ a then leL a (live.take k) ++ [x] else leL a (live.take k) := by
  unfold leL
  rw [List.take_add_one, h, List.filter_append]
  simp only [Option.toList_some, List.filter_cons, List.filter_nil]
  by_cases hx : x ≤ a
  · simp [hx]
  · simp [hx]
theorem leL_len (a : Int) (live : List Int) : (leL a live).length ≤ live.length := List.length_filter_le _ _
theorem le_cnt (a : Int) (live : List Int) (m : Nat) (h1 : 1 ≤ m) : thT (leL a live) m = thT (cntL a live) m := by
  unfold thT leL cntL
  rw [List.any_filter, List.any_filter]
  congr 1
  funext x
  unfold inT
  by_cases hx : x = (m : Int)
  · subst hx
    have : decide ((m : Int) ≥ 1) = true := by simp; omega
    rw [this]
    simp
  · have : (x == (m : Int)) = false := by simpa using hx
    rw [this]
    simp
theorem dealO_le (T : List LeafM) (a : Int) (live : List Int) (wl : List Nat) (room : Int) (o : List Nat) : dealO T (leL a live) wl room o = dealO T (cntL a live) wl room o := by
  have h : ∀ m, 1 ≤ m → m ≤ 6 → thT (leL a live) m = thT (cntL a live) m := fun m h1 _ => le_cnt a live m h1
  unfold dealO
  rw [cntT_th h]
  exact dealF_th h _ _ _ _ _ _ _
theorem szL_key (T : List LeafM) : (fun i => -max ((szL T).getD i 0) 0) = keyZ (szL T) := by
  funext i
  unfold keyZ
  have : 0 ≤ (szL T).getD i 0 := by
    rw [List.getD_eq_getElem?_getD]
    unfold szL
    rw [List.getElem?_map]
    cases T[i]? with
    | none => exact Int.le_refl _
    | some x => show (0 : Int) ≤ (x.rules.length : Int); omega
  omega
set_option maxHeartbeats 16000000 in
set_option maxRecDepth 100000 in
theorem rdealt_any (l : List RuleM) (hl0 : ∀ r ∈ l, okR8 r) (hn1 : l.length ≤ 100000) (s : Stp) (hro : 2 ≤ s.ro ∧ s.ro ≤ 2048) (hbi : Wd s.bi) (live : List Int) (hlv : live.length ≤ 1000) (wl : List Nat) (hW : AllW wl) (L : Int) (hL : L ≤ 1000) (vl vv vw : Value) (w : World) (hl : RulesAt w vl l) (hv : ISl w vv live) (hw : FSl w vw wl) :
    Calls Try.prog 31 #[vl, .agg (stA s), vv, vw, .int .i64 L] w fun e w' => (∃ o, IsOrd (keyZ (szL (treeT s.bi L s.gr l))) (treeT s.bi L s.gr l).length o ∧ ∃ v er, e = .returned (.tuple #[v, .int .i64 er]) ∧ dealtV w.heap.size w' (treeT s.bi L s.gr l) (dealO (treeT s.bi L s.gr l) (leL s.au live) wl (s.ro.tdiv 2) o) v er) ∧ Below w.heap.size w w' := by
  have hr1 : -9223372036854775808 ≤ s.ro.tdiv 2 ∧ s.ro.tdiv 2 ≤ 9223372036854775807 := by rw [Int.tdiv_eq_ediv_of_nonneg (by omega)]; omega
  obtain ⟨T, hT⟩ : ∃ T, T = treeT s.bi L s.gr l := ⟨_, rfl⟩
  have TR : Hid (∀ W, RulesAt W vl l → Calls Try.prog 40 #[vl, .int .i64 L, .int .i64 s.gr, .float .f64 s.bi] W fun e w' => (∃ v, e = .returned v ∧ LeavesOwn W.heap.size w' v T) ∧ Below W.heap.size W w') := fun W h => by rw [hT]; exact rtree_any l hl0 hn1 vl L s.gr hL s.bi hbi W h
  have sm := tree_small s.bi L s.gr hL l hn1
  rw [← hT] at sm ⊢
  have hlen := leL_len s.au live
  have DE : Hid (∀ W vz vt, ISl W vz (szL T) → ISl W vt (leL s.au live) → FSl W vw wl → Calls Try.prog 41 #[vz, vt, vw, .int .i64 (s.ro.tdiv 2)] W fun e w' => (∃ o, IsOrd (keyZ (szL T)) T.length o ∧ dealR W w' T.length (dealO T (leL s.au live) wl (s.ro.tdiv 2) o) e) ∧ Below W.heap.size W w') := fun W vz vt h1 h2 h3 => by
    have := rdeal_any (szL T) (leL s.au live) (by rw [szL_len]; exact sm.1) (by omega) wl hW (s.ro.tdiv 2) hr1.1 hr1.2 (fun x hx => by
      unfold szL at hx
      obtain ⟨y, hy, rfl⟩ := List.mem_map.1 hx
      have := sm.2 y hy
      omega) vz vt vw W h1 h2 h3
    rw [szL_len, szL_key] at this
    exact this
  obtain ⟨DF, hDF⟩ : ∃ D : List Nat → Option ((Nat → Int) × (Nat → Nat × Nat)), D = dealO T (leL s.au live) wl (s.ro.tdiv 2) := ⟨_, rfl⟩
  rw [← hDF] at DE ⊢
  obtain ⟨n, hn⟩ : ∃ n, n = T.length := ⟨_, rfl⟩
  have HN : Hid (n = T.length) := hn
  have hn1000 : n ≤ 1000 := by rw [hn]; exact sm.1
  have HR1 : Hid (∀ x ∈ T, x.rules.length ≤ 100000) := sm.2
  rw [← hn] at DE ⊢
  have HL : Hid (RulesAt w vl l) := hl
  have HV : Hid (ISl w vv live) := hv
  have HF : Hid (FSl w vw wl) := hw
  have SA : Hid ((w.alloc (.cells (stA s) 24)).heap[w.heap.size]? = some (.cells (stA s) 24 (0, 0))) := heap_new _ _ _ rfl
  have BA : Hid (Below w.heap.size w (w.alloc (.cells (stA s) 24))) := (Below.refl _ _).alloc (Nat.le_refl _) _
  obtain ⟨ov, capv, rfl, hv1, hv2⟩ := hv.slice
  obtain ⟨nv, hnv⟩ : ∃ n, n = live.length := ⟨_, rfl⟩
  have HNV : Hid (nv = live.length) := hnv
  rw [← hnv] at hv1 HV hlv hlen ⊢
  unfold maxLen at hv2
  have c7 := (st_cells SA.out).2.2.2.2.2.2.2.1
  have c8 := (st_cells SA.out).2.2.2.2.2.2.2.2.1
  clear hl hv hw hW hT sm hDF hn hnv hl0 hbi
  go_enter Try.func31, Try.ntmps31
  go_wp2_with fail
  refine (TR.out _ (GSl.below HL.out BA.out)).mono ?_
  rintro e w2 ⟨⟨vt, rfl, hvt⟩, hb2⟩
  have B2 : Hid (Below w.heap.size w w2) := BA.out.trans (hb2.mono BA.out.size)
  have S2 : Hid (w2.heap[w.heap.size]? = some (.cells (stA s) 24 (0, 0))) := (hb2.block _ (Array.getElem?_eq_some_iff.1 SA.out).1).trans SA.out
  have T2 : Hid (LeavesOwn w.heap.size w2 vt T) := leaves_base hvt BA.out.size
  clear hb2 hvt SA BA c7 c8 TR HL
  obtain ⟨oc, capc, rfl, hc1, hc2⟩ := leaves_own_slice T2.out
  rw [← HN.out] at T2 hc1 ⊢
  unfold maxLen at hc2
  have B3 : Hid (Below w2.heap.size w2 (w2.alloc (.cells #[] 3))) := (Below.refl _ _).alloc (Nat.le_refl _) _
  have O3 : Hid (VOwn 3 w2.heap.size (w2.alloc (.cells #[] 3)) (.slice (some ⟨w2.heap.size, 0, none⟩) 0 0) []) := vown0 w2 _
  go_wp2_with (refine wl_build0V scI rfl rfl ?_)
  go_loopw [13, 14] (fun v i wr => ∃ k : Nat, k ≤ n ∧ i = .int .i64 (k : Int) ∧ Hid (VOwn 3 w2.heap.size wr v (inI (szL (T.take k)))) ∧ Hid (Below w2.heap.size w2 wr)) (fun _ i _ => n - (intOf i).toNat)
  case atStart => exact ⟨0, Nat.zero_le _, rfl, O3, B3⟩
  case round =>
    clear B3 O3
    obtain ⟨k, hk, rfl, HO, HB⟩ := hrel
    by_cases hlt : k < n
    · have hlt' : (k : Int) < (n : Int) := by omega
      obtain ⟨g, off, cur, ty, fr, x, u, rfl, hg, hc, hxk, hxu⟩ := (NSl.below LfR.below (leaves_sl T2.out) HB.out).at k hlt
      obtain ⟨o2, cap2, rfl⟩ := hxu.slice
      have HT : Hid (szL (T.take (k + 1)) = szL (T.take k) ++ [(x.rules.length : Int)]) := szL_take hxk
      have hrl : x.rules.length ≤ 100000 := HR1.out x (List.mem_of_getElem? hxk)
      have c28 : wr.cell? ⟨g, off + k * 29 + 28, none⟩ = some (.slice o2 x.rules.length cap2) := (cell_of_row _ _ _ _ _ _ hg).trans ((hc 28 (by decide)).trans (leaf_at hxu.1 _).2.2.2)
      clear hg hc hxk hxu
      generalize x.rules.length = r at c28 HT hrl
      obtain ⟨wa, hwa⟩ : ∃ wa, wa = wr.alloc (.cells #[.int .i64 (r : Int)] 3) := ⟨_, rfl⟩
      obtain ⟨q2, hq⟩ : ∃ q, q = wr.heap.size := ⟨_, rfl⟩
      have ba : Below wr.heap.size wr wa := by rw [hwa]; exact (Below.refl _ _).alloc (Nat.le_refl _) _
      have OA : Hid (VOwn 3 w2.heap.size wa u13 (inI (szL (T.take k)))) := HO.out.below ba
      have BA : Hid (Below w2.heap.size w2 wa) := HB.out.trans (ba.mono HB.out.size)
      have GA : Hid (wa.heap[q2]? = some (.cells #[.int .i64 (r : Int)] 3 (0, 0))) := by show _ = _; rw [hwa, hq]; exact heap_new _ _ _ rfl
      have hle : (inI (szL (T.take k))).length ≤ 1000000 := by rw [inI_len, szL_len, List.length_take]; omega
      clear ba HO HB
      go_wp2_with (at_builtin; refine of_stopT ?_)
      unfold StopT
      rw [← hwa, ← hq]
      clear hwa hq c28
      refine wl_app1V scI rfl _ _ rfl w2.heap.size u13 (inI (szL (T.take k))) (.int .i64 (r : Int)) rfl rfl OA.out q2 1 rfl GA.out hle BA.out.size ?_
      intro v3 w3 ho3 hg3 hb3
      have O3 : Hid (VOwn 3 w2.heap.size w3 v3 (inI (szL (T.take (k + 1))))) := by show VOwn _ _ _ _ _; rw [HT.out, ← inI_snoc14]; exact ho3
      have B3 : Hid (Below w2.heap.size w2 w3) := BA.out.grown hg3 BA.out.size fun j hj => (OA.out.ge j hj).1
      clear ho3 hg3 hb3 OA BA GA HT
      simp only [Act.put, List.setIfInBounds_toArray, List.set_cons_succ, List.set_cons_zero]
      go_wp2_with fail
      go_roundw
      case rel => exact ⟨k + 1, by omega, by go_num, O3, B3⟩
      case measure => simp [intOf]; omega
    · have hlt' : ¬ (k : Int) < (n : Int) := by omega
      obtain rfl : n = k := by omega
      obtain ⟨w4, hw4⟩ : ∃ w4 : World, w4 = wr := ⟨_, rfl⟩
      rw [← hw4] at HO HB ⊢
      clear hw4
      obtain ⟨vz, hvz⟩ : ∃ vz, vz = u13 := ⟨_, rfl⟩
      rw [← hvz] at HO ⊢
      clear hvz
      have Z4 : Hid (ISl w4 vz (szL T)) := by
        have h := HO.out.sl
        rw [HN.out, List.take_length] at h
        exact h
      have T4 : Hid (LeavesOwn w.heap.size w4 (.slice oc n capc) T) := NOwn.below LfR.below T2.out HB.out
      have S4 : Hid (w4.heap[w.heap.size]? = some (.cells (stA s) 24 (0, 0))) := (HB.out.block _ (Array.getElem?_eq_some_iff.1 S2.out).1).trans S2.out
      have B4 : Hid (Below w.heap.size w w4) := B2.out.trans (HB.out.mono B2.out.size)
      clear HO HB T2 S2 B2
      have B5 : Hid (Below w4.heap.size w4 (w4.alloc (.cells #[] 3))) := (Below.refl _ _).alloc (Nat.le_refl _) _
      have O5 : Hid (VOwn 3 w4.heap.size (w4.alloc (.cells #[] 3)) (.slice (some ⟨w4.heap.size, 0, none⟩) 0 0) []) := vown0 w4 _
      have HLEN : Hid (∀ k, (leL s.au (live.take k)).length ≤ 1000) := fun k => Nat.le_trans (leL_len _ _) (by rw [List.length_take]; have := HNV.out; omega)
      go_wp2_with (refine wl_build0V scI rfl rfl ?_)
      go_loopw [15, 16] (fun v i wr => ∃ k : Nat, k ≤ nv ∧ i = .int .i64 (k : Int) ∧ Hid (VOwn 3 w4.heap.size wr v (inI (leL s.au (live.take k)))) ∧ Hid (Below w4.heap.size w4 wr)) (fun _ i _ => nv - (intOf i).toNat)
      case atStart => exact ⟨0, Nat.zero_le _, rfl, O5, B5⟩
      case round =>
        clear B5 O5
        obtain ⟨k, hk, rfl, HO, HB⟩ := hrel
        have HBW : Hid (Below w.heap.size w wr) := B4.out.trans (HB.out.mono B4.out.size)
        have c1 := (st_cells ((HB.out.block _ (Array.getElem?_eq_some_iff.1 S4.out).1).trans S4.out)).2.1
        by_cases hlt : k < nv
        · have hlt' : (k : Int) < (nv : Int) := by omega
          obtain ⟨g, off, x, rfl, hx, hzk⟩ := ISl.cell (VSl.below HV.out HBW.out) k hlt
          have HT : Hid (leL s.au (live.take (k + 1)) = if x ≤ s.au then leL s.au (live.take k) ++ [x] else leL s.au (live.take k)) := leL_take hzk
          have hle : (inI (leL s.au (live.take k))).length ≤ 1000000 := by rw [inI_len]; have := HLEN.out k; omega
          clear hzk
          by_cases hin : x ≤ s.au
          · have HT2 : Hid (leL s.au (live.take (k + 1)) = leL s.au (live.take k) ++ [x]) := by show _ = _; rw [HT.out, if_pos hin]
            clear HT
            go_wp2_with fail
            go_quiet (fail)
            obtain ⟨wq, hwq⟩ : ∃ wq, wq = wr.drewN nq := ⟨_, rfl⟩
            have bq : Below wr.heap.size wr wq := by rw [hwq]; exact below_dn14 _ _
            have hxq : wq.cell? ⟨g, off + k, none⟩ = some (.int .i64 x) := by rw [hwq]; exact hx
            have OQ : Hid (VOwn 3 w4.heap.size wq u15 (inI (leL s.au (live.take k)))) := HO.out.below bq
            have BQ : Hid (Below w4.heap.size w4 wq) := HB.out.trans (bq.mono HB.out.size)
            rw [← hwq]
            clear hwq bq HO HB hx c1 HBW
            obtain ⟨wa, hwa⟩ : ∃ wa, wa = wq.alloc (.cells #[.int .i64 x] 3) := ⟨_, rfl⟩
            obtain ⟨q2, hq⟩ : ∃ q, q = wq.heap.size := ⟨_, rfl⟩
            have ba : Below wq.heap.size wq wa := by rw [hwa]; exact (Below.refl _ _).alloc (Nat.le_refl _) _
            have OA : Hid (VOwn 3 w4.heap.size wa u15 (inI (leL s.au (live.take k)))) := OQ.out.below ba
            have BA : Hid (Below w4.heap.size w4 wa) := BQ.out.trans (ba.mono BQ.out.size)
            have GA : Hid (wa.heap[q2]? = some (.cells #[.int .i64 x] 3 (0, 0))) := by show _ = _; rw [hwa, hq]; exact heap_new _ _ _ rfl
            clear ba OQ BQ
            go_wp2_with (at_builtin; refine of_stopT ?_)
            unfold StopT
            rw [← hwa, ← hq]
            clear hwa hq hxq
            refine wl_app1V scI rfl _ _ rfl w4.heap.size u15 (inI (leL s.au (live.take k))) (.int .i64 x) rfl rfl OA.out q2 1 rfl GA.out hle BA.out.size ?_
            intro v3 w3 ho3 hg3 hb3
            have O3 : Hid (VOwn 3 w4.heap.size w3 v3 (inI (leL s.au (live.take (k + 1))))) := by show VOwn _ _ _ _ _; rw [HT2.out, ← inI_snoc14]; exact ho3
            have B3 : Hid (Below w4.heap.size w4 w3) := BA.out.grown hg3 BA.out.size fun j hj => (OA.out.ge j hj).1
            clear ho3 hg3 hb3 OA BA GA HT2
            simp only [Act.put, List.setIfInBounds_toArray, List.set_cons_succ, List.set_cons_zero]
            go_wp2_with fail
            go_roundw
            case rel => exact ⟨k + 1, by omega, by go_num, O3, B3⟩
            case measure => simp [intOf]; omega
          · have O3 : Hid (VOwn 3 w4.heap.size wr u15 (inI (leL s.au (live.take (k + 1))))) := by show VOwn _ _ _ _ _; rw [HT.out, if_neg hin]; exact HO.out
            clear HT
            go_wp2_with fail
            go_quiet (fail)
            have bq : Below wr.heap.size wr (wr.drewN nq) := below_dn14 _ _
            have OQ : Hid (VOwn 3 w4.heap.size (wr.drewN nq) u15 (inI (leL s.au (live.take (k + 1))))) := O3.out.below bq
            have BQ : Hid (Below w4.heap.size w4 (wr.drewN nq)) := HB.out.trans (bq.mono HB.out.size)
            clear bq HO HB O3
            go_wp2_with fail
            go_roundw
            case rel => exact ⟨k + 1, by omega, by go_num, OQ, BQ⟩
            case measure => simp [intOf]; omega
        · have hlt' : ¬ (k : Int) < (nv : Int) := by omega
          obtain rfl : nv = k := by omega
          have L5 : Hid (ISl wr u15 (leL s.au live)) := by
            have h := HO.out.sl
            rw [HNV.out, List.take_length] at h
            exact h
          have Z5 : Hid (ISl wr vz (szL T)) := VSl.below Z4.out HB.out
          have T5 : Hid (LeavesOwn w.heap.size wr (.slice oc n capc) T) := NOwn.below LfR.below T4.out HB.out
          have F5 : Hid (FSl wr vw wl) := VSl.below HF.out HBW.out
          have c3 := (st_cells ((HB.out.block _ (Array.getElem?_eq_some_iff.1 S4.out).1).trans S4.out)).2.2.2.1
          clear HO HB Z4 T4 c1 S4
          go_wp2_with fail
          refine (DE.out _ _ _ Z5.out L5.out F5.out).mono ?_
          rintro e w6 ⟨⟨o, ho, hr⟩, hb6⟩
          have HO : Hid (IsOrd (keyZ (szL T)) n o) := ho
          have T6 : Hid (LeavesOwn w.heap.size w6 (.slice oc n capc) T) := NOwn.below LfR.below T5.out hb6
          have B6 : Hid (Below w.heap.size w w6) := HBW.out.trans (hb6.mono HBW.out.size)
          have hsz : Hid (w.heap.size ≤ wr.heap.size) := HBW.out.size
          clear hb6 T5 Z5 L5 F5 c3 HBW ho
          cases hd : DF o with
          | none =>
            rw [hd] at hr
            obtain rfl : e = .returned (.tuple #[.slice none 0 0, .int .i64 15]) := hr
            have HD : Hid (DF o = none) := hd
            clear hd
            go_wp2_with fail
            go_ret2
            refine ⟨⟨o, HO.out, _, _, rfl, ?_⟩, B6.out⟩
            rw [HD.out]
            exact ⟨rfl, rfl⟩
          | some st =>
            rw [hd] at hr
            obtain ⟨v, rfl, hv⟩ := hr
            have HD : Hid (DF o = some st) := hd
            have hv0 := own_base hv hsz.out
            have hv := POwn.at_ hv
            obtain ⟨ol, cl, rfl, hl1, hl2⟩ := GSl.slice hv
            rw [pairs_len] at hl1 ⊢
            have P6 : Hid (POwn w.heap.size w6 (.slice ol n cl) (pairsT st.2 n)) := by
              have h := hv0
              rw [pairs_len] at h
              show POwn _ _ _ _
              unfold POwn
              rw [pairs_len]
              exact h
            unfold maxLen at hl2
            clear hd hv hv0
            go_wp2_with fail
            go_loopw [19] (fun i wr => ∃ k : Nat, k ≤ n ∧ i = .int .i64 (k : Int) ∧ Hid (LeavesOwn w.heap.size wr (.slice oc n capc) (givL T st.2 k)) ∧ Hid (POwn w.heap.size wr (.slice ol n cl) (pairsT st.2 n)) ∧ Hid (Below w.heap.size w wr)) (fun i _ => n - (intOf i).toNat)
            case atStart => exact ⟨0, Nat.zero_le _, rfl, by show LeavesOwn _ _ _ _; rw [givL_zero]; exact T6.out, P6, B6⟩
            case round =>
              clear T6 P6 B6
              obtain ⟨k, hk, rfl, HC, HP, HB⟩ := hrel
              by_cases hlt : k < n
              · have hlt' : (k : Int) < (n : Int) := by omega
                obtain ⟨g2, off2, cur2, t2, fr2, p, rfl, hg2, hc2', hlk⟩ := (POwn.at_ HP.out).at k (by first | exact hlt | (rw [pairs_len]; exact hlt))
                have p0 : wr.cell? ⟨g2, off2 + k * 2, none⟩ = some (.int .i64 p.1) := (cell_of_row _ _ _ _ _ _ hg2).trans (hc2' 0 (by show 0 < 2; omega))
                have p1 : wr.cell? ⟨g2, off2 + k * 2 + 1, none⟩ = some (.int .i64 p.2) := (cell_of_row _ _ _ _ _ _ hg2).trans (hc2' 1 (by show 1 < 2; omega))
                have hpk : p = (((st.2 k).1 : Int), ((st.2 k).2 : Int)) := by
                  unfold pairsT at hlk
                  rw [List.getElem?_map, List.getElem?_range hlt] at hlk
                  exact (Option.some.inj hlk).symm
                rw [hpk] at p0 p1
                simp only at p0 p1
                clear hpk hlk hg2 hc2'
                obtain ⟨g, x, rfl, hBg, hxk, l26, l27, f26, f27⟩ := leaves_cell HC.out k hlt
                have hne : g2 ≠ g := fun e => (own_apart HC.out.choose_spec.2.1 HP.out (by decide)) g rfl (by rw [e]; rfl)
                have SET : Hid ((givL T st.2 k).set k ⟨x.cube, ((st.2 k).1 : Int), ((st.2 k).2 : Int), x.rules⟩ = givL T st.2 (k + 1)) := givL_set hxk
                generalize ((st.2 k).1 : Int) = a at p0 p1 SET
                generalize ((st.2 k).2 : Int) = b at p0 p1 SET
                have s1 : (wr.setCell ⟨g, k * 29 + 26, none⟩ (.int .i64 a)).cell? ⟨g2, off2 + k * 2 + 1, none⟩ = some (.int .i64 b) := (World.cell?_setCell_other _ _ _ _ (fun h => hne (congrArg Addr.block h).symm)).trans p1
                have s27 : (wr.setCell ⟨g, k * 29 + 26, none⟩ (.int .i64 a)).cell? ⟨g, k * 29 + 27, none⟩ = some (.int .i64 x.two) := (World.cell?_setCell_other _ _ _ _ (fun h => by have := congrArg Addr.off h; simp at this)).trans l27
                have z27 : (wr.setCell ⟨g, k * 29 + 26, none⟩ (.int .i64 a)).frozen? ⟨g, k * 29 + 27, none⟩ = false := (World.frozen?_setCell _ _ _ _).trans f27
                obtain ⟨HC2, hgr⟩ := leaves_set HC.out hxk a b
                rw [SET.out] at HC2
                have HC3 : Hid (LeavesOwn w.heap.size ((wr.setCell ⟨g, k * 29 + 26, none⟩ (.int .i64 a)).setCell ⟨g, k * 29 + 27, none⟩ (.int .i64 b)) (.slice (some ⟨g, 0, none⟩) n capc) (givL T st.2 (k + 1))) := HC2
                have HP3 : Hid (POwn w.heap.size ((wr.setCell ⟨g, k * 29 + 26, none⟩ (.int .i64 a)).setCell ⟨g, k * 29 + 27, none⟩ (.int .i64 b)) (.slice (some ⟨g2, off2, none⟩) n cl) (pairsT st.2 n)) := own_grown hgr HP.out (own_apart HC.out.choose_spec.2.1 HP.out (by decide))
                have HB3 : Hid (Below w.heap.size w ((wr.setCell ⟨g, k * 29 + 26, none⟩ (.int .i64 a)).setCell ⟨g, k * 29 + 27, none⟩ (.int .i64 b))) := HB.out.grown hgr HB.out.size (fun j hj => by cases hj; exact hBg)
                clear HC2 hgr HC HP HB SET hxk
                go_wp2_with fail
                go_roundw
                case rel => exact ⟨k + 1, by omega, by go_num, HC3, HP3, HB3⟩
                case measure => simp [intOf]; omega
              · have hlt' : ¬ (k : Int) < (n : Int) := by omega
                obtain rfl : n = k := by omega
                have HC2 : Hid (LeavesOwn w.heap.size wr (.slice oc n capc) (givL T st.2 T.length)) := by
                  show LeavesOwn _ _ _ _
                  rw [← HN.out]
                  exact HC.out
                clear HC HP
                go_wp2_with fail
                go_ret2
                refine ⟨⟨o, HO.out, _, _, rfl, ?_⟩, HB.out⟩
                rw [HD.out]
                exact ⟨rfl, HC2.out⟩
end Go.Proofs.Ytpbinkmeldkehaa
namespace Go.Proofs.Ytpbinkmeldkehaa
open Go Go.Lib Go.RowKit
set_option maxRecDepth 20000

set_option maxHeartbeats 16000000 in
set_option maxRecDepth 100000 in
theorem rmake_no (s : Stp) (hs : rightT s = false) (vl vv vw : Value) (w : World) : Calls Try.prog 13 #[vl, .agg (stA s), vv, vw] w fun e w' => e = .returned (.tuple #[.slice none 0 0, .int .i64 1]) ∧ Below w.heap.size w w' := by
  have RI : Hid (∀ W, Calls Try.prog 11 #[.agg (stA s)] W fun e w' => e = .returned (.bool false) ∧ Below W.heap.size W w') := fun W => by have := rright_any s W; rw [hs] at this; exact this
  have SA : Hid ((w.alloc (.cells (stA s) 24)).heap[w.heap.size]? = some (.cells (stA s) 24 (0, 0))) := heap_new _ _ _ rfl
  have BA : Hid (Below w.heap.size w (w.alloc (.cells (stA s) 24))) := (Below.refl _ _).alloc (Nat.le_refl _) _
  go_enter Try.func13, Try.ntmps13
  go_wp2_with (refine wl_loadA StpOk rfl _ rfl w.heap.size 0 rfl _ _ _ (stA s) rfl SA.out (own_cells _ _) ?_)
  refine (RI.out _).mono ?_
  rintro e w2 ⟨rfl, hb2⟩
  have B2 : Hid (Below w.heap.size w w2) := BA.out.trans (hb2.mono BA.out.size)
  clear hb2
  go_wp2_with fail
  go_ret2
  exact ⟨rfl, B2.out⟩
set_option maxHeartbeats 16000000 in
set_option maxRecDepth 100000 in
theorem rmake_yes (l : List RuleM) (hl0 : ∀ r ∈ l, okR8 r) (hn1 : l.length ≤ 100000) (s : Stp) (hs : rightT s = true) (hbi : Wd s.bi) (live : List Int) (hlv : live.length ≤ 1000) (wl : List Nat) (hW : AllW wl) (vl vv vw : Value) (w : World) (hl : RulesAt w vl l) (hv : ISl w vv live) (hw : FSl w vw wl) :
    Calls Try.prog 13 #[vl, .agg (stA s), vv, vw] w fun e w' => (∃ R, MkP l s (cntL s.au live) wl R ∧ makeR w.heap.size w' R e) ∧ Below w.heap.size w w' := by
  obtain ⟨b1, b2, b3, b4, b5, b6, b7, b8⟩ := right_rooms hs
  have hq1 : s.pa.tdiv 2 ≤ 1000 := by rw [Int.tdiv_eq_ediv_of_nonneg (by omega)]; omega
  have RI : Hid (∀ W, Calls Try.prog 11 #[.agg (stA s)] W fun e w' => e = .returned (.bool true) ∧ Below W.heap.size W w') := fun W => by have := rright_any s W; rw [hs] at this; exact this
  have DA : Hid (∀ W, Below w.heap.size w W → Calls Try.prog 31 #[vl, .agg (stA s), vv, vw, .int .i64 (s.pa.tdiv 2)] W fun e w' => (∃ o, IsOrd (keyZ (szL (tr1 s l))) (tr1 s l).length o ∧ ∃ v er, e = .returned (.tuple #[v, .int .i64 er]) ∧ dealtV W.heap.size w' (tr1 s l) (dealO (tr1 s l) (cntL s.au live) wl (s.ro.tdiv 2) o) v er) ∧ Below W.heap.size W w') := fun W hb => by
    refine (rdealt_any l hl0 hn1 s ⟨b5, b6⟩ hbi live hlv wl hW (s.pa.tdiv 2) hq1 vl vv vw W (GSl.below hl hb) (VSl.below hv hb) (VSl.below hw hb)).mono ?_
    rintro e w' ⟨⟨o, h1, v, er, h2, h3⟩, h4⟩
    rw [dealO_le] at h3
    exact ⟨⟨o, h1, v, er, h2, h3⟩, h4⟩
  have DB : Hid (∀ W, Below w.heap.size w W → Calls Try.prog 31 #[vl, .agg (stA s), vv, vw, .int .i64 1] W fun e w' => (∃ o, IsOrd (keyZ (szL (tr2 s l))) (tr2 s l).length o ∧ ∃ v er, e = .returned (.tuple #[v, .int .i64 er]) ∧ dealtV W.heap.size w' (tr2 s l) (dealO (tr2 s l) (cntL s.au live) wl (s.ro.tdiv 2) o) v er) ∧ Below W.heap.size W w') := fun W hb => by
    refine (rdealt_any l hl0 hn1 s ⟨b5, b6⟩ hbi live hlv wl hW 1 (by omega) vl vv vw W (GSl.below hl hb) (VSl.below hv hb) (VSl.below hw hb)).mono ?_
    rintro e w' ⟨⟨o, h1, v, er, h2, h3⟩, h4⟩
    rw [dealO_le] at h3
    exact ⟨⟨o, h1, v, er, h2, h3⟩, h4⟩
  obtain ⟨lv, hlvE⟩ : ∃ lv, lv = cntL s.au live := ⟨_, rfl⟩
  rw [← hlvE] at DA DB ⊢
  have FIN1 : Hid (∀ o st, IsOrd (keyZ (szL (tr1 s l))) (tr1 s l).length o → dealO (tr1 s l) lv wl (s.ro.tdiv 2) o = some st → MkP l s lv wl (some (givL (tr1 s l) st.2 (tr1 s l).length))) := fun o st h1 h2 => ⟨o, h1, by rw [h2]⟩
  have FIN2 : Hid (∀ o1 o2, IsOrd (keyZ (szL (tr1 s l))) (tr1 s l).length o1 → dealO (tr1 s l) lv wl (s.ro.tdiv 2) o1 = none → IsOrd (keyZ (szL (tr2 s l))) (tr2 s l).length o2 → MkP l s lv wl ((dealO (tr2 s l) lv wl (s.ro.tdiv 2) o2).map fun st => givL (tr2 s l) st.2 (tr2 s l).length)) := fun o1 o2 h1 h2 h3 => by
    refine ⟨o1, h1, ?_⟩
    rw [h2]
    exact ⟨o2, h3, rfl⟩
  generalize tr1 s l = T1 at DA FIN1 FIN2
  generalize tr2 s l = T2 at DB FIN2
  generalize dealO T1 lv wl (s.ro.tdiv 2) = D1 at DA FIN1 FIN2
  generalize dealO T2 lv wl (s.ro.tdiv 2) = D2 at DB FIN2
  have SA : Hid ((w.alloc (.cells (stA s) 24)).heap[w.heap.size]? = some (.cells (stA s) 24 (0, 0))) := heap_new _ _ _ rfl
  have BA : Hid (Below w.heap.size w (w.alloc (.cells (stA s) 24))) := (Below.refl _ _).alloc (Nat.le_refl _) _
  have hpa1 : -9223372036854775808 ≤ s.pa := by omega
  have hpa2 : s.pa ≤ 9223372036854775807 := by omega
  clear hl hv hw hs hW hl0 hbi hlvE hq1 b1 b2 b3 b4 b5 b6 b7 b8
  go_enter Try.func13, Try.ntmps13
  go_wp2_with (refine wl_loadA StpOk rfl _ rfl w.heap.size 0 rfl _ _ _ (stA s) rfl SA.out (own_cells _ _) ?_)
  refine (RI.out _).mono ?_
  rintro e w2 ⟨rfl, hb2⟩
  have B2 : Hid (Below w.heap.size w w2) := BA.out.trans (hb2.mono BA.out.size)
  have S2 : Hid (w2.heap[w.heap.size]? = some (.cells (stA s) 24 (0, 0))) := (hb2.block _ (Array.getElem?_eq_some_iff.1 SA.out).1).trans SA.out
  have c4 := (st_cells S2.out).2.2.2.2.1
  clear hb2 BA SA
  go_wp2_with (refine wl_loadA StpOk rfl _ rfl w.heap.size 0 rfl _ _ _ (stA s) rfl S2.out (own_cells _ _) ?_)
  refine (DA.out _ B2.out).mono ?_
  rintro e w3 ⟨⟨o, ho, v, er, rfl, hv⟩, hb3⟩
  have B3 : Hid (Below w.heap.size w w3) := B2.out.trans (hb3.mono B2.out.size)
  have S3 : Hid (w3.heap[w.heap.size]? = some (.cells (stA s) 24 (0, 0))) := (hb3.block _ (Array.getElem?_eq_some_iff.1 S2.out).1).trans S2.out
  have hsz := B2.out.size
  clear hb3 S2 B2 c4
  cases hd : D1 o with
  | some st =>
    rw [hd] at hv
    obtain ⟨rfl, hlv⟩ := hv
    have RR : Hid (MkP l s lv wl (some (givL T1 st.2 T1.length))) := FIN1.out o st ho hd
    have LV : Hid (LeavesOwn w.heap.size w3 v (givL T1 st.2 T1.length)) := leaves_base hlv hsz
    clear hd ho hlv
    go_wp2_with fail
    go_ret2
    exact ⟨⟨_, RR.out, v, rfl, LV.out⟩, B3.out⟩
  | none =>
    rw [hd] at hv
    obtain ⟨rfl, rfl⟩ := hv
    have F2 : Hid (∀ o2, IsOrd (keyZ (szL T2)) T2.length o2 → MkP l s lv wl ((D2 o2).map fun st => givL T2 st.2 T2.length)) := fun o2 h => FIN2.out o o2 ho hd h
    clear hd ho
    go_wp2_with (refine wl_loadA StpOk rfl _ rfl w.heap.size 0 rfl _ _ _ (stA s) rfl S3.out (own_cells _ _) ?_)
    refine (DB.out _ B3.out).mono ?_
    rintro e w4 ⟨⟨o2, ho, v, er, rfl, hv⟩, hb4⟩
    have B4 : Hid (Below w.heap.size w w4) := B3.out.trans (hb4.mono B3.out.size)
    have hsz := B3.out.size
    have RR := F2.out o2 ho
    clear hb4
    cases hd : D2 o2 with
    | some st =>
      rw [hd] at hv RR
      obtain ⟨rfl, hlv⟩ := hv
      have RR : Hid (MkP l s lv wl (some (givL T2 st.2 T2.length))) := RR
      have LV : Hid (LeavesOwn w.heap.size w4 v (givL T2 st.2 T2.length)) := leaves_base hlv hsz
      clear hd ho hlv
      go_wp2_with fail
      go_ret2
      exact ⟨⟨_, RR.out, v, rfl, LV.out⟩, B4.out⟩
    | none =>
      rw [hd] at hv RR
      obtain ⟨rfl, rfl⟩ := hv
      have RR : Hid (MkP l s lv wl none) := RR
      clear hd ho
      go_wp2_with fail
      go_ret2
      exact ⟨⟨_, RR.out, rfl⟩, B4.out⟩
end Go.Proofs.Ytpbinkmeldkehaa
namespace Go.Proofs.Ytpbinkmeldkehaa
open Go Go.Lib Go.RowKit
set_option maxRecDepth 20000

/-! What the laws share: lists cut to their first 24 rules, 50 numbers; the setup with at most 24 partitions. -/
theorem slice_ints14 {o : Option Addr} {n0 cap : Nat} {w : World} {z : List Int} (h : ISl w (.slice o n0 cap) z) (n : Nat) (hn : n ≤ n0) (hc : n0 ≤ cap) (W : World) :
    (Instr.sliceAt 28 (.slice o n0 cap) none (some (.int .i64 (n : Int))) none).run Try.prog W = .ok (.slice o n cap) W := by
  rcases Nat.eq_zero_or_pos n0 with h0 | h0
  · obtain rfl : n = 0 := by omega
    cases o with
    | none => simp [go_sem, Try.underlying28]
    | some a => simp [go_sem, Try.underlying28]
  · obtain ⟨g, off, _, rfl, _⟩ := ISl.cell h 0 h0
    simp [go_sem, Try.underlying28]
    omega
theorem front14 {w : World} {o : Option Addr} {n cap : Nat} {z : List Int} (h : ISl w (.slice o n cap) z) (q : Nat) (hq : q ≤ n) : ISl w (.slice o q cap) (z.take q) := by
  have h2 := VSl.front h q hq
  show VSl w _ (inI (z.take q))
  have e : inI (z.take q) = (inI z).take q := by unfold inI; rw [List.map_take]
  rw [e]
  exact h2
structure Cut50 (w : World) (o : Option Addr) (n0 n cap : Nat) (z : List Int) : Prop where
  cap1 : n0 ≤ cap
  cap2 : cap ≤ maxLen
  le : n ≤ n0
  min : (n : Int) = min (n0 : Int) 50
  len : z.length = n
  at_ : ISl w (.slice o n cap) z
  slice : ∀ W, (Instr.sliceAt 28 (.slice o n0 cap) none (some (.int .i64 (n : Int))) none).run Try.prog W = .ok (.slice o n cap) W
theorem cut50 {w : World} {v : Value} {z0 : List Int} (h : ISl w v z0) : ∃ o n0 n cap z, v = .slice o n0 cap ∧ Cut50 w o n0 n cap z := by
  obtain ⟨o, cap, rfl, hc1, hc2⟩ := h.slice
  exact ⟨o, z0.length, min z0.length 50, cap, z0.take (min z0.length 50), rfl, hc1, hc2, Nat.min_le_left _ _, by omega, by rw [List.length_take]; omega, front14 h _ (Nat.min_le_left _ _), slice_ints14 h _ (Nat.min_le_left _ _) hc1⟩
def stM (s : Stp) (m : Int) : Stp := ⟨s.sw, s.au, s.ca, s.ro, m, s.idl, s.hd, s.gr, s.bi, s.wi, s.qu, s.wa, s.tr, s.ti, s.be, s.le, s.lo⟩
theorem st_set {s : Stp} {w : World} {g : Nat} (h : w.heap[g]? = some (.cells (stA s) 24 (0, 0))) (m : Int) : (w.setCell ⟨g, 4, none⟩ (.int .i64 m)).heap[g]? = some (.cells (stA (stM s m)) 24 (0, 0)) := by
  simp [World.setCell, Array.getElem?_modify, h]
  rfl
theorem st_free {s : Stp} {w : World} {g : Nat} (h : w.heap[g]? = some (.cells (stA s) 24 (0, 0))) (k : Nat) : w.frozen? ⟨g, k, none⟩ = false := by simp [World.frozen?, h]
theorem mk_one {l : List RuleM} {s : Stp} {lv : List Int} {wl : List Nat} {R R' : Option (List LeafM)} (h : MkP l s lv wl R) (h' : MkP l s lv wl R') : R = R' := by
  obtain ⟨o, h1, h2⟩ := h
  obtain ⟨o', h1', h2'⟩ := h'
  obtain rfl := ord_one h1 h1'
  cases hd : dealO (tr1 s l) lv wl (s.ro.tdiv 2) o with
  | some st => rw [hd] at h2 h2'; exact h2.trans h2'.symm
  | none =>
    rw [hd] at h2 h2'
    obtain ⟨p, h3, h4⟩ := h2
    obtain ⟨p', h3', h4'⟩ := h2'
    obtain rfl := ord_one h3 h3'
    exact h4.trans h4'.symm
/-- What Make tells, as leaves and an error. -/
def mkE (R : Option (List LeafM)) : Int := match R with | none => 15 | some _ => 0
def mkC (R : Option (List LeafM)) : List LeafM := match R with | none => [] | some D => D
theorem makeR_at {B : Nat} {w' : World} {R : Option (List LeafM)} {e : Ending} (h : makeR B w' R e) : ∃ v, e = .returned (.tuple #[v, .int .i64 (mkE R)]) ∧ LeavesOwn B w' v (mkC R) := by
  cases R with
  | none => exact ⟨_, h, NOwn.nil _ _ _ _ _⟩
  | some D =>
    obtain ⟨v, he, hv⟩ := h
    exact ⟨v, he, hv⟩
theorem mk_len {l : List RuleM} {s : Stp} (hs : rightT s = true) (hn : l.length ≤ 100000) {lv : List Int} {wl : List Nat} {R : Option (List LeafM)} (h : MkP l s lv wl R) : (mkC R).length ≤ 100000 := by
  obtain ⟨b1, b2, b3, b4, b5, b6, b7, b8⟩ := right_rooms hs
  have t1 := (tree_small s.bi (s.pa.tdiv 2) s.gr (by rw [Int.tdiv_eq_ediv_of_nonneg (by omega)]; omega) l hn).1
  have t2 := (tree_small s.bi 1 s.gr (by omega) l hn).1
  obtain ⟨o, h1, h2⟩ := h
  cases hd : dealO (tr1 s l) lv wl (s.ro.tdiv 2) o with
  | some st =>
    rw [hd] at h2
    rw [h2]
    show (givL _ _ _).length ≤ _
    rw [givL_len]
    exact Nat.le_trans t1 (by omega)
  | none =>
    rw [hd] at h2
    obtain ⟨p, h3, h4⟩ := h2
    rw [h4]
    cases dealO (tr2 s l) lv wl (s.ro.tdiv 2) p with
    | none => exact Nat.zero_le _
    | some st =>
      show (givL _ _ _).length ≤ _
      rw [givL_len]
      exact Nat.le_trans t2 (by omega)
end Go.Proofs.Ytpbinkmeldkehaa
namespace Go.Proofs.Ytpbinkmeldkehaa
open Go Go.Lib Go.RowKit
set_option maxRecDepth 20000

set_option maxHeartbeats 16000000 in
set_option maxRecDepth 100000 in
theorem lawPlanMakes_any (l0 : List RuleM) (hok0 : ∀ r ∈ l0, okR8 r) (s : Stp) (hs0 : okS s) (z0 : List Int) (wl : List Nat) (hW : AllW wl) (vl vv vw : Value) (w : World) (hl : RulesAt w vl l0) (hv : ISl w vv z0) (hw : FSl w vw wl) :
    Calls Try.prog 4 #[vl, .agg (stA s), vv, vw] w fun e w' => e = .returned (.bool true) ∧ Below w.heap.size w w' := by
  obtain ⟨ol, nl0, nl, cl, l, rfl, K⟩ := cut24 hok0 hl
  obtain ⟨ov, nv0, nv, cv', z, rfl, J⟩ := cut50 hv
  have hc1 := K.cap1
  have hc2 := K.cap2
  have hd1 := J.cap1
  have hd2 := J.cap2
  unfold maxLen at hc2 hd2
  have hlle := K.le
  have hvle := J.le
  have HNM : Hid ((nl : Int) = min (nl0 : Int) 24) := K.min
  have HVM : Hid ((nv : Int) = min (nv0 : Int) 50) := J.min
  have hsl := K.slice
  have hsv := J.slice
  have hlen : l.length ≤ 100000 := by rw [K.len]; have := K.min; omega
  have hzl : z.length ≤ 1000 := by rw [J.len]; have := J.min; omega
  obtain ⟨m, hm⟩ : ∃ m, m = min s.pa 24 := ⟨_, rfl⟩
  have HMM : Hid (m = min s.pa 24) := hm
  have AW : Hid (∀ W, Calls Try.prog 9 #[] W fun e w' => e = .returned (.bool true) ∧ Below W.heap.size W w') := fun W => awake14_any W
  obtain ⟨t, ht⟩ : ∃ t, t = stM s m := ⟨_, rfl⟩
  have hbt : Wd t.bi := by rw [ht]; exact hs0.2.2.2
  have NO : Hid (rightT t = false → ∀ W, Calls Try.prog 12 #[.slice ol nl cl, .agg (stA t), .slice ov nv cv', vw] W fun e w' => e = .returned (.tuple #[.slice none 0 0, .int .i64 1]) ∧ Below W.heap.size W w') := fun h W => make_no t h _ _ _ W
  have RNO : Hid (rightT t = false → ∀ W, Calls Try.prog 13 #[.slice ol nl cl, .agg (stA t), .slice ov nv cv', vw] W fun e w' => e = .returned (.tuple #[.slice none 0 0, .int .i64 1]) ∧ Below W.heap.size W w') := fun h W => rmake_no t h _ _ _ W
  have YES : Hid (rightT t = true → ∀ W, Below w.heap.size w W → Calls Try.prog 12 #[.slice ol nl cl, .agg (stA t), .slice ov nv cv', vw] W fun e w' => (∃ R v, MkP l t (cntL t.au z) wl R ∧ e = .returned (.tuple #[v, .int .i64 (mkE R)]) ∧ LeavesOwn W.heap.size w' v (mkC R)) ∧ Below W.heap.size W w') := fun h W hb => by
    refine (make_yes l K.ok hlen t h hbt z hzl wl hW _ _ _ W (GSl.below K.at_ hb) (VSl.below J.at_ hb) (VSl.below hw hb)).mono ?_
    rintro e w' ⟨⟨R, h1, h2⟩, h3⟩
    obtain ⟨v, h4, h5⟩ := makeR_at h2
    exact ⟨⟨R, v, h1, h4, h5⟩, h3⟩
  have RYES : Hid (rightT t = true → ∀ W, Below w.heap.size w W → Calls Try.prog 13 #[.slice ol nl cl, .agg (stA t), .slice ov nv cv', vw] W fun e w' => (∃ R v, MkP l t (cntL t.au z) wl R ∧ e = .returned (.tuple #[v, .int .i64 (mkE R)]) ∧ LeavesOwn W.heap.size w' v (mkC R)) ∧ Below W.heap.size W w') := fun h W hb => by
    refine (rmake_yes l K.ok hlen t h hbt z hzl wl hW _ _ _ W (GSl.below K.at_ hb) (VSl.below J.at_ hb) (VSl.below hw hb)).mono ?_
    rintro e w' ⟨⟨R, h1, h2⟩, h3⟩
    obtain ⟨v, h4, h5⟩ := makeR_at h2
    exact ⟨⟨R, v, h1, h4, h5⟩, h3⟩
  have SAME : Hid (∀ (C : List LeafM) Ba Bb va vb W, C.length ≤ 100000 → LeavesAt Ba W va C → LeavesAt Bb W vb C → Calls Try.prog 14 #[va, vb] W fun e w' => e = .returned (.bool true) ∧ Below W.heap.size W w') := fun C Ba Bb va vb W h1 h2 h3 => rsame12_any C h1 Ba Bb va vb W h2 h3
  have LEN : Hid (rightT t = true → ∀ R, MkP l t (cntL t.au z) wl R → (mkC R).length ≤ 100000) := fun h R hR => mk_len h hlen hR
  have ST : Hid (t = stM s m) := ht
  have SA : Hid ((w.alloc (.cells (stA s) 24)).heap[w.heap.size]? = some (.cells (stA s) 24 (0, 0))) := heap_new _ _ _ rfl
  have BA : Hid (Below w.heap.size w (w.alloc (.cells (stA s) 24))) := (Below.refl _ _).alloc (Nat.le_refl _) _
  clear K J hok0 hs0 hW hl hv hw hm ht hbt hlen hzl
  go_enter Try.func4, Try.ntmps4
  go_wp2_with fail
  refine (AW.out _).mono ?_
  rintro e w1 ⟨rfl, hb1⟩
  have B1 : Hid (Below w.heap.size w w1) := BA.out.trans (hb1.mono BA.out.size)
  have S1 : Hid (w1.heap[w.heap.size]? = some (.cells (stA s) 24 (0, 0))) := (hb1.block _ (Array.getElem?_eq_some_iff.1 SA.out).1).trans SA.out
  clear hb1 SA BA AW
  have c4 := (st_cells S1.out).2.2.2.2.1
  have f4 := st_free S1.out 4
  obtain ⟨w2, hw2⟩ : ∃ w2, w2 = w1.setCell ⟨w.heap.size, 4, none⟩ (.int .i64 m) := ⟨_, rfl⟩
  have S2 : Hid (w2.heap[w.heap.size]? = some (.cells (stA t) 24 (0, 0))) := by show _ = _; rw [hw2, ST.out]; exact st_set S1.out m
  have B2 : Hid (Below w.heap.size w w2) := by show Below _ _ _; rw [hw2]; exact B1.out.setCell (p := ⟨w.heap.size, 4, none⟩) (Nat.le_refl _) _
  go_upto_region 6 with (first | (refine wl_min7 rfl _ _ rfl (nl0 : Int) 24 (nl : Int) rfl rfl HNM.out ?_) | (refine wl_min7 rfl _ _ rfl (nv0 : Int) 50 (nv : Int) rfl rfl HVM.out ?_) | (refine wl_min7 rfl _ _ rfl s.pa 24 m rfl rfl HMM.out ?_))
  rw [← hw2]
  clear hw2 c4 f4 S1 B1 HMM HNM HVM hsl hsv ST
  cases hr : rightT t with
  | false =>
    have NO := NO.out hr
    have RNO := RNO.out hr
    go_wp2_with (refine wl_loadA StpOk rfl _ rfl w.heap.size 0 rfl _ _ _ (stA t) rfl S2.out (own_cells _ _) ?_)
    refine (NO _).mono ?_
    rintro e w3 ⟨rfl, hb3⟩
    have B3 : Hid (Below w.heap.size w w3) := B2.out.trans (hb3.mono B2.out.size)
    have S3 : Hid (w3.heap[w.heap.size]? = some (.cells (stA t) 24 (0, 0))) := (hb3.block _ (Array.getElem?_eq_some_iff.1 S2.out).1).trans S2.out
    clear hb3
    go_wp2_with (refine wl_loadA StpOk rfl _ rfl w.heap.size 0 rfl _ _ _ (stA t) rfl S3.out (own_cells _ _) ?_)
    refine (RNO _).mono ?_
    rintro e w4 ⟨rfl, hb4⟩
    have B4 : Hid (Below w.heap.size w w4) := B3.out.trans (hb4.mono B3.out.size)
    clear hb4
    have L4 : Hid (LeavesAt 0 w4 (.slice none 0 0) []) := leaves_sl (NOwn.nil _ _ _ _ _)
    go_wp2_with fail
    refine (SAME.out [] 0 0 _ _ _ (by simp) L4.out L4.out).mono ?_
    rintro e w5 ⟨rfl, hb5⟩
    have B5 : Hid (Below w.heap.size w w5) := B4.out.trans (hb5.mono B4.out.size)
    clear hb5
    go_wp2_with fail
    go_ret
    exact ⟨rfl, B5.out⟩
  | true =>
    have YES : Hid (∀ W, Below w.heap.size w W → Calls Try.prog 12 #[.slice ol nl cl, .agg (stA t), .slice ov nv cv', vw] W fun e w' => (∃ R v, MkP l t (cntL t.au z) wl R ∧ e = .returned (.tuple #[v, .int .i64 (mkE R)]) ∧ LeavesOwn W.heap.size w' v (mkC R)) ∧ Below W.heap.size W w') := YES.out hr
    have RYES : Hid (∀ W, Below w.heap.size w W → Calls Try.prog 13 #[.slice ol nl cl, .agg (stA t), .slice ov nv cv', vw] W fun e w' => (∃ R v, MkP l t (cntL t.au z) wl R ∧ e = .returned (.tuple #[v, .int .i64 (mkE R)]) ∧ LeavesOwn W.heap.size w' v (mkC R)) ∧ Below W.heap.size W w') := RYES.out hr
    have LEN : Hid (∀ R, MkP l t (cntL t.au z) wl R → (mkC R).length ≤ 100000) := LEN.out hr
    clear hr NO RNO
    go_wp2_with (refine wl_loadA StpOk rfl _ rfl w.heap.size 0 rfl _ _ _ (stA t) rfl S2.out (own_cells _ _) ?_)
    refine (YES.out _ B2.out).mono ?_
    rintro e w3 ⟨⟨R, va, hR, rfl, hva⟩, hb3⟩
    have HR : Hid (MkP l t (cntL t.au z) wl R) := hR
    have B3 : Hid (Below w.heap.size w w3) := B2.out.trans (hb3.mono B2.out.size)
    have S3 : Hid (w3.heap[w.heap.size]? = some (.cells (stA t) 24 (0, 0))) := (hb3.block _ (Array.getElem?_eq_some_iff.1 S2.out).1).trans S2.out
    have LA : Hid (LeavesOwn w2.heap.size w3 va (mkC R)) := hva
    clear hb3 hva hR YES
    go_wp2_with (refine wl_loadA StpOk rfl _ rfl w.heap.size 0 rfl _ _ _ (stA t) rfl S3.out (own_cells _ _) ?_)
    refine (RYES.out _ B3.out).mono ?_
    rintro e w4 ⟨⟨R', vb, hR', rfl, hvb⟩, hb4⟩
    obtain rfl : R = R' := mk_one HR.out hR'
    have B4 : Hid (Below w.heap.size w w4) := B3.out.trans (hb4.mono B3.out.size)
    have LA4 : Hid (LeavesAt w2.heap.size w4 va (mkC R)) := NSl.below LfR.below (leaves_sl LA.out) hb4
    have LB4 : Hid (LeavesAt w3.heap.size w4 vb (mkC R)) := leaves_sl hvb
    have SM := SAME.out (mkC R) _ _ va vb w4 (LEN.out R HR.out) LA4.out LB4.out
    clear hb4 hvb hR' RYES LA LA4 LB4 LEN HR
    go_wp2_with fail
    refine SM.mono ?_
    rintro e w5 ⟨rfl, hb5⟩
    have B5 : Hid (Below w.heap.size w w5) := B4.out.trans (hb5.mono B4.out.size)
    clear hb5
    go_wp2_with fail
    go_ret
    exact ⟨rfl, B5.out⟩
end Go.Proofs.Ytpbinkmeldkehaa
namespace Go.Proofs.Ytpbinkmeldkehaa

/-- A slot. -/
structure Slt where
  bank : Int
  epoch : Int
  place : Int
  order : Int
  cube : List Int × List Int
  action : Int
  one : Int
  two : Int
  born : Int
  used : Int
  count : Int

section
variable (m : Slt → Bool) (k : Slt → Int)
variable {m k}
variable (m k)
variable {m k}
end
end Go.Proofs.Ytpbinkmeldkehaa
