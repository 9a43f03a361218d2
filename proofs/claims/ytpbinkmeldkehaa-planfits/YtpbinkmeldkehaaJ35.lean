import Derived.Test.YtpbinkmeldkehaaJ30
import Derived.Test.YtpbinkmeldkehaaJ33
import Derived.Test.YtpbinkmeldkehaaJ34
import Derived.Test.YtpbinkmeldkehaaJ24
import Derived.Test.YtpbinkmeldkehaaJ31
import Derived.Test.YtpbinkmeldkehaaJ26
namespace Go.Proofs.Ytpbinkmeldkehaa
open Go Go.Lib Go.RowKit
set_option maxRecDepth 20000

def thB (a : Int) (z : List Int) : Bool := z.any fun x => inT x 1 a
theorem thB_take {a : Int} {z : List Int} {k : Nat} {x : Int} (h : z[k]? = some x) : thB a (z.take (k + 1)) = (thB a (z.take k) || inT x 1 a) := by
  unfold thB
  rw [List.take_add_one, h, List.any_append]
  simp
theorem thB_cnt (a : Int) (z : List Int) : thB a z = true ↔ cntL a z ≠ [] := by
  unfold thB cntL
  rw [List.any_eq_true]
  constructor
  · rintro ⟨x, hx, h⟩ hn
    have := (List.mem_filter (p := fun x => inT x 1 a)).2 ⟨hx, h⟩
    rw [hn] at this
    simp at this
  · intro h
    obtain ⟨x, hx⟩ := List.exists_mem_of_ne_nil _ h
    exact ⟨x, (List.mem_filter.1 hx).1, (List.mem_filter.1 hx).2⟩
set_option maxHeartbeats 16000000 in
set_option maxRecDepth 100000 in
theorem lawPlanFits_any (l0 : List RuleM) (hok0 : ∀ r ∈ l0, okR8 r) (s : Stp) (hs0 : okS s) (z0 : List Int) (wl : List Nat) (hW : AllW wl) (vl vv vw : Value) (w : World) (hl : RulesAt w vl l0) (hv : ISl w vv z0) (hw : FSl w vw wl) :
    Calls Try.prog 5 #[vl, .agg (stA s), vv, vw] w fun e w' => e = .returned (.bool true) ∧ Below w.heap.size w w' := by
  obtain ⟨ol, nl0, nl, cl, l, rfl, K⟩ := cut24 hok0 hl
  obtain ⟨ov, nv0, nv, cv', z, rfl, J⟩ := cut50 hv
  have hc1 := K.cap1
  have hc2 := K.cap2
  have hd1 := J.cap1
  have hd2 := J.cap2
  unfold maxLen at hc2 hd2
  have hlle := K.le
  have hvle := J.le
  have HNM : Hid ((nl : Int) = min (nl0 : Int) 24) := K.min
  have HVM : Hid ((nv : Int) = min (nv0 : Int) 50) := J.min
  have hsl := K.slice
  have hsv := J.slice
  have hlen : l.length ≤ 100000 := by rw [K.len]; have := K.min; omega
  have hzl : z.length ≤ 1000 := by rw [J.len]; have := J.min; omega
  obtain ⟨m, hm⟩ : ∃ m, m = min s.pa 24 := ⟨_, rfl⟩
  have HMM : Hid (m = min s.pa 24) := hm
  have AW : Hid (∀ W, Calls Try.prog 9 #[] W fun e w' => e = .returned (.bool true) ∧ Below W.heap.size W w') := fun W => awake14_any W
  obtain ⟨t, ht⟩ : ∃ t, t = stM s m := ⟨_, rfl⟩
  have hbt : Wd t.bi := by rw [ht]; exact hs0.2.2.2
  have RI : Hid (∀ W, Calls Try.prog 10 #[.agg (stA t)] W fun e w' => e = .returned (.bool (rightT t)) ∧ Below W.heap.size W w') := fun W => right_any t W
  have YES : Hid (rightT t = true → ∀ W, Below w.heap.size w W → Calls Try.prog 12 #[.slice ol nl cl, .agg (stA t), .slice ov nv cv', vw] W fun e w' => (∃ R v, MkP l t (cntL t.au z) wl R ∧ e = .returned (.tuple #[v, .int .i64 (mkE R)]) ∧ LeavesOwn W.heap.size w' v (mkC R)) ∧ Below W.heap.size W w') := fun h W hb => by
    refine (make_yes l K.ok hlen t h hbt z hzl wl hW _ _ _ W (GSl.below K.at_ hb) (VSl.below J.at_ hb) (VSl.below hw hb)).mono ?_
    rintro e w' ⟨⟨R, h1, h2⟩, h3⟩
    obtain ⟨v, h4, h5⟩ := makeR_at h2
    exact ⟨⟨R, v, h1, h4, h5⟩, h3⟩
  have hokt : okS t := by rw [ht]; exact ⟨hs0.1, hs0.2.1, ⟨by show -9223372036854775808 ≤ m; have := hs0.2.2.1.1; omega, by show m ≤ 9223372036854775807; omega⟩, hs0.2.2.2⟩
  have hl24 : l.length ≤ 24 := by rw [K.len]; have := K.min; omega
  have OUT : Hid (rightT t = true → ∀ R, MkP l t (cntL t.au z) wl R → (∃ D, R = some D ∧ fitsT t D = true ∧ thB t.au z = true ∧ D.length ≤ 1000 ∧ ∀ x ∈ D, x.rules.length ≤ 500) ∨ (R = none ∧ ((l.length : Int) > t.ro.tdiv 2 ∨ thB t.au z = false))) := fun h R hR => by
    rcases mk_cases h hR with ⟨T, o, st, hT, t1, t2, ho, hd, he⟩ | ⟨he, hor⟩
    · obtain ⟨f1, f2, _, _⟩ := dealt_fits h t1 t2 ho hd
      refine .inl ⟨_, he, f1, (thB_cnt _ _).2 f2, ?_, fun x hx => ?_⟩
      · have := mk_len h hlen hR
        obtain ⟨b1, b2, b3, b4, b5, b6, b7, b8⟩ := right_rooms h
        rw [givL_len]
        have : t.pa.tdiv 2 ≤ 64 := by rw [Int.tdiv_eq_ediv_of_nonneg (by omega)]; omega
        omega
      · have := tree_rules hT st.2 T.length x hx
        omega
    · refine .inr ⟨he, hor.imp id fun h0 => ?_⟩
      cases hb : thB t.au z with
      | false => rfl
      | true => exact absurd h0 ((thB_cnt _ _).1 hb)
  have FT : Hid (∀ (D : List LeafM) v B W, D.length ≤ 1000 → (∀ x ∈ D, x.rules.length ≤ 500) → LeavesAt B W v D → Calls Try.prog 15 #[v, .agg (stA t)] W fun e w' => e = .returned (.bool (fitsT t D)) ∧ Below W.heap.size W w') := fun D v B W h1 h2 h3 => fits_any D h1 h2 t hokt v W (leaves_in h3)
  have RFT : Hid (∀ (D : List LeafM) v B W, D.length ≤ 1000 → (∀ x ∈ D, x.rules.length ≤ 500) → LeavesAt B W v D → Calls Try.prog 16 #[v, .agg (stA t)] W fun e w' => e = .returned (.bool (fitsT t D)) ∧ Below W.heap.size W w') := fun D v B W h1 h2 h3 => rfits_any D h1 h2 t hokt v W (leaves_in h3)
  have HZ : Hid (ISl w (.slice ov nv cv') z) := J.at_
  have HZL : Hid (z.length = nv) := J.len
  have HLL : Hid (l.length = nl) := K.len
  have hro1 := hokt.2.1.1
  have hro2 := hokt.2.1.2
  have ST : Hid (t = stM s m) := ht
  have SA : Hid ((w.alloc (.cells (stA s) 24)).heap[w.heap.size]? = some (.cells (stA s) 24 (0, 0))) := heap_new _ _ _ rfl
  have BA : Hid (Below w.heap.size w (w.alloc (.cells (stA s) 24))) := (Below.refl _ _).alloc (Nat.le_refl _) _
  clear K J hok0 hs0 hW hl hv hw hm ht hbt hlen hzl hokt hl24
  go_enter Try.func5, Try.ntmps5
  go_wp2_with fail
  refine (AW.out _).mono ?_
  rintro e w1 ⟨rfl, hb1⟩
  have B1 : Hid (Below w.heap.size w w1) := BA.out.trans (hb1.mono BA.out.size)
  have S1 : Hid (w1.heap[w.heap.size]? = some (.cells (stA s) 24 (0, 0))) := (hb1.block _ (Array.getElem?_eq_some_iff.1 SA.out).1).trans SA.out
  clear hb1 SA BA AW
  have c4 := (st_cells S1.out).2.2.2.2.1
  have f4 := st_free S1.out 4
  obtain ⟨w2, hw2⟩ : ∃ w2, w2 = w1.setCell ⟨w.heap.size, 4, none⟩ (.int .i64 m) := ⟨_, rfl⟩
  have S2 : Hid (w2.heap[w.heap.size]? = some (.cells (stA t) 24 (0, 0))) := by show _ = _; rw [hw2, ST.out]; exact st_set S1.out m
  have B2 : Hid (Below w.heap.size w w2) := by show Below _ _ _; rw [hw2]; exact B1.out.setCell (p := ⟨w.heap.size, 4, none⟩) (Nat.le_refl _) _
  go_upto_region 6 with (first | (refine wl_min7 rfl _ _ rfl (nl0 : Int) 24 (nl : Int) rfl rfl HNM.out ?_) | (refine wl_min7 rfl _ _ rfl (nv0 : Int) 50 (nv : Int) rfl rfl HVM.out ?_) | (refine wl_min7 rfl _ _ rfl s.pa 24 m rfl rfl HMM.out ?_))
  rw [← hw2]
  clear hw2 c4 f4 S1 B1 HMM HNM HVM hsl hsv ST
  go_wp2_with (refine wl_loadA StpOk rfl _ rfl w.heap.size 0 rfl _ _ _ (stA t) rfl S2.out (own_cells _ _) ?_)
  refine (RI.out _).mono ?_
  rintro e w3 ⟨rfl, hb3⟩
  have B3 : Hid (Below w.heap.size w w3) := B2.out.trans (hb3.mono B2.out.size)
  have S3 : Hid (w3.heap[w.heap.size]? = some (.cells (stA t) 24 (0, 0))) := (hb3.block _ (Array.getElem?_eq_some_iff.1 S2.out).1).trans S2.out
  clear hb3 S2 B2
  cases hr : rightT t with
  | false =>
    go_wp2_with fail
    go_ret
    exact ⟨rfl, B3.out⟩
  | true =>
    have YES : Hid (∀ W, Below w.heap.size w W → Calls Try.prog 12 #[.slice ol nl cl, .agg (stA t), .slice ov nv cv', vw] W fun e w' => (∃ R v, MkP l t (cntL t.au z) wl R ∧ e = .returned (.tuple #[v, .int .i64 (mkE R)]) ∧ LeavesOwn W.heap.size w' v (mkC R)) ∧ Below W.heap.size W w') := YES.out hr
    have OUT := OUT.out hr
    have OUT : Hid (∀ R, MkP l t (cntL t.au z) wl R → (∃ D, R = some D ∧ fitsT t D = true ∧ thB t.au z = true ∧ D.length ≤ 1000 ∧ ∀ x ∈ D, x.rules.length ≤ 500) ∨ (R = none ∧ ((l.length : Int) > t.ro.tdiv 2 ∨ thB t.au z = false))) := OUT
    clear hr RI
    go_wp2_with (refine wl_loadA StpOk rfl _ rfl w.heap.size 0 rfl _ _ _ (stA t) rfl S3.out (own_cells _ _) ?_)
    refine (YES.out _ B3.out).mono ?_
    rintro e w4 ⟨⟨R, va, hR, rfl, hva⟩, hb4⟩
    have HO := OUT.out R hR
    have B4 : Hid (Below w.heap.size w w4) := B3.out.trans (hb4.mono B3.out.size)
    have S4 : Hid (w4.heap[w.heap.size]? = some (.cells (stA t) 24 (0, 0))) := (hb4.block _ (Array.getElem?_eq_some_iff.1 S3.out).1).trans S3.out
    have LA : Hid (LeavesOwn w3.heap.size w4 va (mkC R)) := hva
    have HO : Hid ((∃ D, R = some D ∧ fitsT t D = true ∧ thB t.au z = true ∧ D.length ≤ 1000 ∧ ∀ x ∈ D, x.rules.length ≤ 500) ∨ (R = none ∧ ((l.length : Int) > t.ro.tdiv 2 ∨ thB t.au z = false))) := HO
    clear hb4 hva hR YES OUT S3 B3
    obtain ⟨gs, hgs⟩ : ∃ gs, gs = w.heap.size := ⟨_, rfl⟩
    rw [← hgs] at S4 ⊢
    clear hgs
    go_wp2_with fail
    go_loopw [11, 12] (fun v i wr => ∃ k : Nat, k ≤ nv ∧ i = .int .i64 (k : Int) ∧ v = .bool (thB t.au (z.take k)) ∧ Hid (Below w4.heap.size w4 wr)) (fun _ i _ => nv - (intOf i).toNat)
    case atStart => exact ⟨0, Nat.zero_le _, rfl, rfl, Below.refl _ _⟩
    case round =>
      obtain ⟨k, hk, rfl, rfl, HB⟩ := hrel
      have BW : Hid (Below w.heap.size w wr) := B4.out.trans (HB.out.mono B4.out.size)
      have c1 := (st_cells ((HB.out.block _ (Array.getElem?_eq_some_iff.1 S4.out).1).trans S4.out)).2.1
      by_cases hlt : k < nv
      · have hlt' : (k : Int) < (nv : Int) := by omega
        obtain ⟨g, off, x, rfl, hx, hzk⟩ := ISl.cell (VSl.below HZ.out BW.out) k hlt
        have HT : Hid (thB t.au (z.take (k + 1)) = (thB t.au (z.take k) || inT x 1 t.au)) := thB_take hzk
        clear hzk
        generalize thB t.au (z.take k) = b at HT ⊢
        cases b with
        | true =>
          have HT2 : Hid (thB t.au (z.take (k + 1)) = true) := by show _ = _; rw [HT.out]; rfl
          go_wp2_with fail
          go_quiet (fail)
          have bq : Below wr.heap.size wr (wr.drewN nq) := below_dn14 _ _
          have BQ : Hid (Below w4.heap.size w4 (wr.drewN nq)) := HB.out.trans (bq.mono HB.out.size)
          clear bq HB
          go_wp2_with fail
          go_roundw
          case rel => exact ⟨k + 1, by omega, by go_num, by rw [HT2.out], BQ⟩
          case measure => simp [intOf]; omega
        | false =>
          by_cases h1 : x ≥ 1
          · have h1' : decide (x ≥ 1) = true := by simpa using h1
            have h1'' : decide (1 ≤ x) = true := by simpa using h1
            have HT2 : Hid (thB t.au (z.take (k + 1)) = decide (x ≤ t.au)) := by show _ = _; rw [HT.out]; unfold inT; rw [h1']; rfl
            go_wp2_with fail
            go_quiet (fail)
            have bq : Below wr.heap.size wr (wr.drewN nq) := below_dn14 _ _
            have BQ : Hid (Below w4.heap.size w4 (wr.drewN nq)) := HB.out.trans (bq.mono HB.out.size)
            clear bq HB
            go_wp2_with fail
            go_roundw
            case rel => exact ⟨k + 1, by omega, by go_num, by rw [HT2.out], BQ⟩
            case measure => simp [intOf]; omega
          · have h1' : decide (x ≥ 1) = false := by simpa using h1
            have h1'' : decide (1 ≤ x) = false := by simpa using h1
            have HT2 : Hid (thB t.au (z.take (k + 1)) = false) := by show _ = _; rw [HT.out]; unfold inT; rw [h1']; rfl
            go_wp2_with fail
            go_quiet (fail)
            have bq : Below wr.heap.size wr (wr.drewN nq) := below_dn14 _ _
            have BQ : Hid (Below w4.heap.size w4 (wr.drewN nq)) := HB.out.trans (bq.mono HB.out.size)
            clear bq HB
            go_wp2_with fail
            go_roundw
            case rel => exact ⟨k + 1, by omega, by go_num, by rw [HT2.out], BQ⟩
            case measure => simp [intOf]; omega
      · have hlt' : ¬ (k : Int) < (nv : Int) := by omega
        obtain rfl : nv = k := by omega
        have S5 : Hid (wr.heap[gs]? = some (.cells (stA t) 24 (0, 0))) := (HB.out.block _ (Array.getElem?_eq_some_iff.1 S4.out).1).trans S4.out
        have LA5 : Hid (LeavesAt w3.heap.size wr va (mkC R)) := NSl.below LfR.below (leaves_sl LA.out) HB.out
        have c3 := (st_cells S5.out).2.2.2.1
        rw [show z.take nv = z by rw [← HZL.out]; exact List.take_length]
        clear HB LA S4 B4 c1
        rcases HO.out with ⟨D, rfl, hF, hth, d1, d2⟩ | ⟨rfl, hor⟩
        · rw [hth]
          have HFT := fun W hb => FT.out D va _ W d1 d2 (NSl.below LfR.below LA5.out hb)
          have HRFT := fun W hb => RFT.out D va _ W d1 d2 (NSl.below LfR.below LA5.out hb)
          rw [hF] at HFT HRFT
          have HFT : Hid (∀ W, Below wr.heap.size wr W → Calls Try.prog 15 #[va, .agg (stA t)] W fun e w' => e = .returned (.bool true) ∧ Below W.heap.size W w') := HFT
          have HRFT : Hid (∀ W, Below wr.heap.size wr W → Calls Try.prog 16 #[va, .agg (stA t)] W fun e w' => e = .returned (.bool true) ∧ Below W.heap.size W w') := HRFT
          have e0 : mkE (some D) = 0 := rfl
          rw [e0]
          clear e0 hF hth HO d1 d2 FT RFT
          go_wp2_with (refine wl_loadA StpOk rfl _ rfl gs 0 rfl _ _ _ (stA t) rfl S5.out (own_cells _ _) ?_)
          refine (HFT.out _ (Below.refl _ _)).mono ?_
          rintro e w6 ⟨rfl, hb6⟩
          have B6 : Hid (Below wr.heap.size wr w6) := hb6
          have S6 : Hid (w6.heap[gs]? = some (.cells (stA t) 24 (0, 0))) := (hb6.block _ (Array.getElem?_eq_some_iff.1 S5.out).1).trans S5.out
          clear hb6
          go_wp2_with (refine wl_loadA StpOk rfl _ rfl gs 0 rfl _ _ _ (stA t) rfl S6.out (own_cells _ _) ?_)
          refine (HRFT.out _ B6.out).mono ?_
          rintro e w7 ⟨rfl, hb7⟩
          have B7 : Hid (Below w.heap.size w w7) := BW.out.trans ((B6.out.trans (hb7.mono B6.out.size)).mono BW.out.size)
          clear hb7
          go_wp2_with fail
          go_ret
          exact ⟨rfl, B7.out⟩
        · have e0 : mkE none = 15 := rfl
          have hnil : va.ownBlock = va.ownBlock := rfl
          obtain ⟨oa, ca, hva0, _, _⟩ := NSl.slice LA5.out
          have hva1 : va = .slice oa 0 ca := hva0
          subst hva1
          rw [e0]
          clear e0 hnil hva0 HO
          by_cases hgt : (nl : Int) > t.ro.tdiv 2
          · have hgt' : decide ((nl : Int) > t.ro.tdiv 2) = true := by simpa using hgt
            have hgt'' : decide (t.ro.tdiv 2 < (nl : Int)) = true := by simpa using hgt
            generalize thB t.au z = b
            go_wp2_with fail
            go_ret
            exact ⟨rfl, BW.out⟩
          · have hgt' : decide ((nl : Int) > t.ro.tdiv 2) = false := by simpa using hgt
            have hgt'' : decide (t.ro.tdiv 2 < (nl : Int)) = false := by simpa using hgt
            have hth : thB t.au z = false := by
              rcases hor with h | h
              · rw [HLL.out] at h; exact absurd h hgt
              · exact h
            rw [hth]
            clear hth hor
            go_wp2_with fail
            go_ret
            exact ⟨rfl, BW.out⟩
end Go.Proofs.Ytpbinkmeldkehaa
namespace Go.Proofs.Ytpbinkmeldkehaa
open Go.ChangeShapes Go.WideShapes Go.ChangeAt Go.WideMaps Go.WideElems Go.RowKit
set_option maxRecDepth 20000

/-- A slice of rules that comes in, by its one cell. -/
theorem rules_cell14 {H : Type} {enc : TypeId × Value → H} {W : World} {base : Nat} {spare : Nat → Bool} {held : Bool} {fuel : Nat} {v : Value} {x : DataW H × List MemPlace} (hf : DataW.trod enc Try.prog W base spare held fuel 27 [v] = some x) : ∃ l, RulesAt W v l ∧ ∀ r ∈ l, okR8 r := by
  have hin : Inhabited { r : RuleM // okR8 r } := ⟨⟨rule0, rule0_ok⟩⟩
  have hsz : ∀ a : { r : RuleM // okR8 r }, (ruleV a.1).size = RuleE.size := fun a => ruleV_size a.2
  have hof : ∀ (fuel : Nat) (cs : List Value) (x : DataW H × List MemPlace), cs.length = RuleE.size → DataW.trod enc Try.prog W base spare held fuel RuleE.elem cs = some x → ∃ r : { r : RuleM // okR8 r }, cs = (ruleV r.1).toList ∧ True := fun fuel cs x h1 h2 => rule_of12 fuel cs x h1 h2
  obtain ⟨l, h1, _⟩ := open_any (E := RuleE) RuleOk (fun r : { r : RuleM // okR8 r } => ruleV r.1) hsz (fun _ => True) hof hf
  refine ⟨l.map (fun q : { r : RuleM // okR8 r } => q.1), gsl_map12 (enc := ruleV) (f := fun q : { r : RuleM // okR8 r } => q.1) h1, fun r hr => ?_⟩
  obtain ⟨q, _, rfl⟩ := List.mem_map.1 hr
  exact q.2
theorem leaf_of14 {H : Type} {enc : TypeId × Value → H} {W : World} {base : Nat} {spare : Nat → Bool} {held : Bool} (fuel : Nat) (cs : List Value) (x : DataW H × List MemPlace) (hl : cs.length = 29)
    (h : DataW.trod enc Try.prog W base spare held fuel 48 cs = some x) : ∃ p : { p : LeafM × Value // LvR W p.1 p.2 }, cs = (leafV p.1.1 p.1.2).toList ∧ True := by
  have c3 : Try.prog.cellsOf 3 = 1 := by kernel_rfl
  have c26 : Try.prog.cellsOf 42 = 26 := by kernel_rfl
  have c1 : Try.prog.cellsOf 27 = 1 := by kernel_rfl
  obtain ⟨xs, n, _, _, _, hxl, hf⟩ := DataW.trod_struct Try.underlying48 h
  have h0 : DataW.trod enc Try.prog W base spare held n 42 ((cs.drop 0).take (Try.prog.cellsOf 42)) = xs[0]? := hf 0 _ rfl
  have h3 : DataW.trod enc Try.prog W base spare held n 27 ((cs.drop 28).take (Try.prog.cellsOf 27)) = xs[3]? := hf 3 _ rfl
  obtain ⟨n1, h1⟩ := field_int12 (i := 26) Try.underlying3 c3 (hf 1 _ rfl) (xs_some12 hxl (by decide))
  obtain ⟨n2, h2⟩ := field_int12 (i := 27) Try.underlying3 c3 (hf 2 _ rfl) (xs_some12 hxl (by decide))
  obtain ⟨y, hy⟩ := Option.isSome_iff_exists.1 (xs_some12 hxl (show 0 < 4 by decide))
  obtain ⟨y3, hy3⟩ := Option.isSome_iff_exists.1 (xs_some12 hxl (show 3 < 4 by decide))
  rw [hy, c26] at h0
  rw [hy3, c1] at h3
  obtain ⟨u, hu⟩ : ∃ u, cs[28]? = some u := ⟨_, List.getElem?_eq_getElem (by omega)⟩
  have hone : (cs.drop 28).take 1 = [u] := by
    rw [List.take_one, List.head?_drop, hu]
    rfl
  rw [hone] at h3
  obtain ⟨T, hT1, hT2⟩ := rules_cell14 h3
  obtain ⟨V, M, hVM, bV, bM⟩ := cube_of12 (by simp; omega) h0
  have hR : okL ⟨(V, M), n1, n2, T⟩ := ⟨bV, bM, hT2⟩
  refine ⟨⟨(⟨(V, M), n1, n2, T⟩, u), hR, hT1⟩, ?_, trivial⟩
  have hsz := leafV_size hR u
  obtain ⟨r0, r1, r2, r3⟩ := leaf_at hR u
  apply List.ext_getElem?
  intro k
  have e : (leafV ⟨(V, M), n1, n2, T⟩ u).toList[k]? = (leafV ⟨(V, M), n1, n2, T⟩ u)[k]? := Array.getElem?_toList
  show cs[k]? = (leafV ⟨(V, M), n1, n2, T⟩ u).toList[k]?
  rw [e]
  rcases (show k < 26 ∨ k = 26 ∨ k = 27 ∨ k = 28 ∨ 29 ≤ k by omega) with hk | rfl | rfl | rfl | hk
  · rw [r0 k hk, ← Array.getElem?_toList, ← hVM, List.getElem?_take_of_lt (by omega), List.drop_zero]
  · rw [r1]; exact h1
  · rw [r2]; exact h2
  · rw [r3]; exact hu
  · rw [List.getElem?_eq_none (by omega), Array.getElem?_eq_none (by omega)]
/-- Leaves that come in, with their rules. -/
theorem open_leaves14 {H : Type} {enc : TypeId × Value → H} {W : World} {r : Reach} {b0 base : Nat} {spare : Nat → Bool} {held : Bool} {v : Value} {d : DataW H} {p : List MemPlace}
    (hok : Value.okWide Try.prog W r b0 30 v) (h : DataW.Trod enc Try.prog W base spare held 30 v d p) :
    ∃ C, LeavesIn W v C ∧ True := by
  obtain ⟨fuel, hf⟩ := h
  have hv1 : v.cells.toList = [v] := by
    simp only [Value.okWide, Cell.okWide, Cell.ok, Try.underlying30] at hok
    cases v <;> simp_all [Value.cells]
  rw [hv1] at hf
  have hin : Inhabited { p : LeafM × Value // LvR W p.1 p.2 } := ⟨⟨(⟨(Z, Z), 0, 0, []⟩, .slice none 0 0), ⟨Z_byt, Z_byt, fun r hr => by simp at hr⟩, gsl_nil _ _ _⟩⟩
  have hsz : ∀ a : { p : LeafM × Value // LvR W p.1 p.2 }, (leafV a.1.1 a.1.2).size = LeafE.size := fun a => leafV_size a.2.1 _
  have hof : ∀ (fuel : Nat) (cs : List Value) (x : DataW H × List MemPlace), cs.length = LeafE.size → DataW.trod enc Try.prog W base spare held fuel LeafE.elem cs = some x → ∃ p : { p : LeafM × Value // LvR W p.1 p.2 }, cs = (leafV p.1.1 p.1.2).toList ∧ True := fun fuel cs x h1 h2 => leaf_of14 fuel cs x h1 h2
  obtain ⟨l, h1, _⟩ := open_any (E := LeafE) LeafOk (fun p : { p : LeafM × Value // LvR W p.1 p.2 } => leafV p.1.1 p.1.2) hsz (fun _ => True) hof hf
  refine ⟨(l.map (fun q : { p : LeafM × Value // LvR W p.1 p.2 } => q.1)).map (·.1), ⟨l.map (fun q : { p : LeafM × Value // LvR W p.1 p.2 } => q.1), rfl, gsl_map12 (enc := fun p : LeafM × Value => leafV p.1 p.2) (f := fun q : { p : LeafM × Value // LvR W p.1 p.2 } => q.1) h1, fun q hq => ?_⟩, trivial⟩
  obtain ⟨z, _, rfl⟩ := List.mem_map.1 hq
  exact z.2
end Go.Proofs.Ytpbinkmeldkehaa
namespace Go.Proofs.Ytpbinkmeldkehaa
open Go Go.Lib Go.RowKit
set_option maxRecDepth 20000

theorem slice_leaves14 {o : Option Addr} {n0 cap : Nat} {w : World} {C : List LeafM} (h : LeavesIn w (.slice o n0 cap) C) (n : Nat) (hn : n ≤ n0) (hc : n0 ≤ cap) (W : World) :
    (Instr.sliceAt 30 (.slice o n0 cap) none (some (.int .i64 (n : Int))) none).run Try.prog W = .ok (.slice o n cap) W := by
  rcases Nat.eq_zero_or_pos n0 with h0 | h0
  · obtain rfl : n = 0 := by omega
    cases o with
    | none => simp [go_sem, Try.underlying30]
    | some a => simp [go_sem, Try.underlying30]
  · obtain ⟨g, off, _, _, _, _, _, rfl, _⟩ := NSl.at h 0 h0
    simp [go_sem, Try.underlying30]
    omega
theorem leaves_take14 {o : Option Addr} {n0 cap : Nat} {w : World} {C : List LeafM} (h : LeavesIn w (.slice o n0 cap) C) (n : Nat) (hn : n ≤ n0) : LeavesIn w (.slice o n cap) (C.take n) := by
  obtain ⟨P, h1, h2, h3⟩ := h
  exact ⟨P.take n, by rw [List.map_take, h1], GSl.take7 h2 hn, fun p hp => h3 p (List.mem_of_mem_take hp)⟩
set_option maxHeartbeats 32000000 in
set_option maxRecDepth 100000 in
theorem lawPlanItems_any (C0 : List LeafM) (n0 : Int) (s : Stp) (hs : okS s) (vc : Value) (w : World) (hc0 : LeavesIn w vc C0) :
    Calls Try.prog 7 #[vc, .int .i64 n0, .agg (stA s)] w fun e w' => e = .returned (.bool true) ∧ Below w.heap.size w w' := by
  obtain ⟨oc, capc, rfl, hc1, hc2⟩ := NSl.slice hc0
  obtain ⟨m0, hm0⟩ : ∃ m, m = C0.length := ⟨_, rfl⟩
  rw [← hm0] at hc0 hc1 ⊢
  obtain ⟨n, hn⟩ : ∃ n, n = min m0 40 := ⟨_, rfl⟩
  have HNM : Hid ((n : Int) = min (m0 : Int) 40) := (by omega : (n : Int) = min (m0 : Int) 40)
  have hle : n ≤ m0 := by omega
  have hn40 : n ≤ 40 := by omega
  have hsl := slice_leaves14 hc0 n hle hc1
  obtain ⟨C, hC⟩ : ∃ C, C = C0.take n := ⟨_, rfl⟩
  have hcn : C.length = n := by rw [hC, List.length_take]; omega
  have HC : Hid (LeavesIn w (.slice oc n capc) C) := by show NSl _ _ _ _ _ _; rw [hC]; exact leaves_take14 hc0 n hle
  unfold maxLen at hc2
  have HLEN : Hid (C.length = n) := hcn
  have AW : Hid (∀ W, Calls Try.prog 9 #[] W fun e w' => e = .returned (.bool true) ∧ Below W.heap.size W w') := fun W => awake14_any W
  obtain ⟨I, hI⟩ : ∃ I, I = itemsT C n0 := ⟨_, rfl⟩
  obtain ⟨ld, hld⟩ : ∃ ld : Int, ld = (loadT C n0 : Nat) := ⟨_, rfl⟩
  obtain ⟨ft, hft⟩ : ∃ ft, ft = fitsT s C := ⟨_, rfl⟩
  have h1000 : C.length ≤ 1000 := by omega
  have IT : Hid ((∀ x ∈ C, x.rules.length ≤ 500) → ∀ W, Below w.heap.size w W → Calls Try.prog 19 #[.slice oc n capc, .int .i64 n0] W fun e w' => (∃ v, e = .returned v ∧ SlotsOwn W.heap.size w' v I) ∧ Below W.heap.size W w') := fun h W hb => by rw [hI]; exact items_any C h1000 h n0 _ W (NSl.below LvR.below HC.out hb)
  have RIT : Hid ((∀ x ∈ C, x.rules.length ≤ 500) → ∀ W, Below w.heap.size w W → Calls Try.prog 21 #[.slice oc n capc, .int .i64 n0] W fun e w' => (∃ v, e = .returned v ∧ SlotsOwn W.heap.size w' v I) ∧ Below W.heap.size W w') := fun h W hb => by rw [hI]; exact ritems_any C h1000 h n0 _ W (NSl.below LvR.below HC.out hb)
  have LO : Hid ((∀ x ∈ C, x.rules.length ≤ 500) → ∀ W, Below w.heap.size w W → Calls Try.prog 22 #[.slice oc n capc, .int .i64 n0] W fun e w' => e = .returned (.int .i64 ld) ∧ Below W.heap.size W w') := fun h W hb => by rw [hld]; exact load_any C h1000 h n0 _ W (NSl.below LvR.below HC.out hb)
  have RLO : Hid ((∀ x ∈ C, x.rules.length ≤ 500) → ∀ W, Below w.heap.size w W → Calls Try.prog 23 #[.slice oc n capc, .int .i64 n0] W fun e w' => e = .returned (.int .i64 ld) ∧ Below W.heap.size W w') := fun h W hb => by rw [hld]; exact rload_any C h1000 h n0 _ W (NSl.below LvR.below HC.out hb)
  have FT : Hid ((∀ x ∈ C, x.rules.length ≤ 500) → ∀ W, Below w.heap.size w W → Calls Try.prog 15 #[.slice oc n capc, .agg (stA s)] W fun e w' => e = .returned (.bool ft) ∧ Below W.heap.size W w') := fun h W hb => by rw [hft]; exact fits_any C h1000 h s hs _ W (NSl.below LvR.below HC.out hb)
  have RFT : Hid ((∀ x ∈ C, x.rules.length ≤ 500) → ∀ W, Below w.heap.size w W → Calls Try.prog 16 #[.slice oc n capc, .agg (stA s)] W fun e w' => e = .returned (.bool ft) ∧ Below W.heap.size W w') := fun h W hb => by rw [hft]; exact rfits_any C h1000 h s hs _ W (NSl.below LvR.below HC.out hb)
  have ILEN : Hid ((∀ x ∈ C, x.rules.length ≤ 500) → I.length ≤ 1000000) := fun h => by
    rw [hI]
    unfold itemsT
    rw [seqS_len]
    have h1 := rulesN_len C n0 500 h
    have h3 := Nat.mul_le_mul_right 500 h1000
    omega
  have SAME : Hid (I.length ≤ 1000000 → ∀ va vb W, GSl SlotE slotV W va I → GSl SlotE slotV W vb I → Calls Try.prog 20 #[va, vb] W fun e w' => e = .returned (.bool true) ∧ Below W.heap.size W w') := fun h va vb W h1 h2 => rsameT_any I va vb W h1 h2 h
  have SA : Hid ((w.alloc (.cells (stA s) 24)).heap[w.heap.size]? = some (.cells (stA s) 24 (0, 0))) := heap_new _ _ _ rfl
  have BA : Hid (Below w.heap.size w (w.alloc (.cells (stA s) 24))) := (Below.refl _ _).alloc (Nat.le_refl _) _
  clear hc0 hm0 hn hC hcn hI hld hft h1000 hs
  go_enter Try.func7, Try.ntmps7
  go_wp2_with fail
  refine (AW.out _).mono ?_
  rintro e w1 ⟨rfl, hb1⟩
  have B1 : Hid (Below w.heap.size w w1) := BA.out.trans (hb1.mono BA.out.size)
  have S1 : Hid (w1.heap[w.heap.size]? = some (.cells (stA s) 24 (0, 0))) := (hb1.block _ (Array.getElem?_eq_some_iff.1 SA.out).1).trans SA.out
  clear hb1 SA BA AW
  obtain ⟨gs, hgs⟩ : ∃ gs, gs = w.heap.size := ⟨_, rfl⟩
  rw [← hgs] at S1 ⊢
  clear hgs
  go_wp2_with (refine wl_min7 rfl _ _ rfl (m0 : Int) 40 (n : Int) rfl rfl HNM.out ?_)
  go_loopw [7] (fun i wr => ∃ k : Nat, k ≤ n ∧ i = .int .i64 (k : Int) ∧ Hid (∀ j x, j < k → C[j]? = some x → x.rules.length ≤ 100) ∧ wr = w1) (fun i _ => n - (intOf i).toNat)
  case atStart => exact ⟨0, Nat.zero_le _, rfl, (fun j x hj => by omega), rfl⟩
  case round =>
    obtain ⟨k, hk, rfl, HK, hwr⟩ := hrel
    replace hwr := hwr.symm
    subst hwr
    by_cases hlt : k < n
    · have hlt' : (k : Int) < (n : Int) := by omega
      obtain ⟨g, off, cur, ty, fr, x, u, rfl, hg, hc, hxk, hxu⟩ := (NSl.below LvR.below HC.out B1.out).at k hlt
      obtain ⟨o2, cap2, rfl⟩ := hxu.slice
      have c28 : w1.cell? ⟨g, off + k * 29 + 28, none⟩ = some (.slice o2 x.rules.length cap2) := (cell_of_row _ _ _ _ _ _ hg).trans ((hc 28 (by decide)).trans (leaf_at hxu.1 _).2.2.2)
      have NEXT : Hid (x.rules.length ≤ 100 → ∀ j y, j < k + 1 → C[j]? = some y → y.rules.length ≤ 100) := fun h j y hj hy => by
        by_cases hjk : j = k
        · subst hjk
          rw [hxk] at hy
          cases hy
          exact h
        · exact HK.out j y (by omega) hy
      obtain ⟨_, _, e2, hcm1, hcm2⟩ := GSl.slice hxu.2
      simp only [Value.slice.injEq] at e2
      obtain ⟨rfl, -, rfl⟩ := e2
      unfold maxLen at hcm2
      clear hg hc hxk hxu
      generalize x.rules.length = r at c28 NEXT hcm1
      by_cases hr : (r : Int) > 100
      · have hr' : decide ((r : Int) > 100) = true := by simpa using hr
        have hr'' : decide (100 < (r : Int)) = true := by simpa using hr
        go_wp2_with fail
        go_ret
        exact ⟨rfl, B1.out⟩
      · have hr' : decide ((r : Int) > 100) = false := by simpa using hr
        have hr'' : decide (100 < (r : Int)) = false := by simpa using hr
        have HK2 : Hid (∀ j y, j < k + 1 → C[j]? = some y → y.rules.length ≤ 100) := NEXT.out (by omega)
        clear NEXT
        go_wp2_with fail
        go_roundw
        case rel => first | exact ⟨k + 1, by omega, by go_num, HK2, trivial⟩ | exact ⟨k + 1, by omega, by go_num, HK2⟩ | exact ⟨k + 1, by omega, by go_num, HK2, rfl⟩
        case measure => simp [intOf]; omega
    · have hlt' : ¬ (k : Int) < (n : Int) := by omega
      obtain rfl : n = k := by omega
      have H500 : ∀ x ∈ C, x.rules.length ≤ 500 := fun x hx => by
        obtain ⟨i, hi⟩ := List.mem_iff_getElem?.1 hx
        have := HK.out i x (by rw [← HLEN.out]; exact (List.getElem?_eq_some_iff.1 hi).1) hi
        omega
      have IT : Hid (∀ W, Below w.heap.size w W → Calls Try.prog 19 #[.slice oc n capc, .int .i64 n0] W fun e w' => (∃ v, e = .returned v ∧ SlotsOwn W.heap.size w' v I) ∧ Below W.heap.size W w') := IT.out H500
      have RIT : Hid (∀ W, Below w.heap.size w W → Calls Try.prog 21 #[.slice oc n capc, .int .i64 n0] W fun e w' => (∃ v, e = .returned v ∧ SlotsOwn W.heap.size w' v I) ∧ Below W.heap.size W w') := RIT.out H500
      have LO : Hid (∀ W, Below w.heap.size w W → Calls Try.prog 22 #[.slice oc n capc, .int .i64 n0] W fun e w' => e = .returned (.int .i64 ld) ∧ Below W.heap.size W w') := LO.out H500
      have RLO : Hid (∀ W, Below w.heap.size w W → Calls Try.prog 23 #[.slice oc n capc, .int .i64 n0] W fun e w' => e = .returned (.int .i64 ld) ∧ Below W.heap.size W w') := RLO.out H500
      have FT : Hid (∀ W, Below w.heap.size w W → Calls Try.prog 15 #[.slice oc n capc, .agg (stA s)] W fun e w' => e = .returned (.bool ft) ∧ Below W.heap.size W w') := FT.out H500
      have RFT : Hid (∀ W, Below w.heap.size w W → Calls Try.prog 16 #[.slice oc n capc, .agg (stA s)] W fun e w' => e = .returned (.bool ft) ∧ Below W.heap.size W w') := RFT.out H500
      have SAME : Hid (∀ va vb W, GSl SlotE slotV W va I → GSl SlotE slotV W vb I → Calls Try.prog 20 #[va, vb] W fun e w' => e = .returned (.bool true) ∧ Below W.heap.size W w') := SAME.out (ILEN.out H500)
      clear H500 HK ILEN hsl HNM
      go_wp2_with fail
      refine (IT.out _ B1.out).mono ?_
      rintro e w2 ⟨⟨v8, rfl, hv8⟩, hb2⟩
      have B2 : Hid (Below w.heap.size w w2) := B1.out.trans (hb2.mono B1.out.size)
      have S2 : Hid (w2.heap[gs]? = some (.cells (stA s) 24 (0, 0))) := (hb2.block _ (Array.getElem?_eq_some_iff.1 S1.out).1).trans S1.out
      have V2 : Hid (GSl SlotE slotV w2 v8 I) := hv8.at_
      clear hb2 hv8
      go_upto_region 10 with fail
      refine region_cut (fun a a' w' => ∃ y32 y33 y34 y35 y36 y37 y38 y39 y40 y41 y42 y43 y44 y45 y46 y47 y48 y49 y50 y51 y52 y53 y54, a' = (((((((((((((((((((((((a.put (some 32) y32).put (some 33) y33).put (some 34) y34).put (some 35) y35).put (some 36) y36).put (some 37) y37).put (some 38) y38).put (some 39) y39).put (some 40) y40).put (some 41) y41).put (some 42) y42).put (some 43) y43).put (some 44) y44).put (some 45) y45).put (some 46) y46).put (some 47) y47).put (some 48) y48).put (some 49) y49).put (some 50) y50).put (some 51) y51).put (some 52) y52).put (some 53) y53).put (some 54) y54).put (some 6) (.bool true) ∧ Below w2.heap.size w2 w') ?_ ?_
      · have h0 : Below w2.heap.size w2 (World.drew w2) := (Below.refl _ _).drew
        have s0 : (World.drew w2).heap[gs]? = some (.cells (stA s) 24 (0, 0)) := S2.out
        have ne9 : Nonempty (KeepS gs s) := ⟨⟨w2, S2.out⟩⟩
        have HBW : ∀ W, Below w2.heap.size w2 W → Below w.heap.size w W := fun W hb => B2.out.trans (hb.mono B2.out.size)
        refine region_beginS (InS gs s) 24 rfl (by kernel_rfl) ?_
        refine region_reads 0 3 21 rfl (by kernel_rfl) (by kernel_rfl) (by kernel_rfl) (by intro d v c a w h; exact absurd h.1 (by simp)) (InS.of s0) ?_
        simp only [List.drop_zero, List.take_succ_cons, List.take_zero]
        go_big_quiet_step (rfl)
        go_big_quiet_step (rfl)
        go_big_quiet_step (rfl)
        refine wpQuiet_nil ?_
        refine wpAnyH_all (rs := [3]) (by kernel_rfl) (by decide) ?_
        intro i hi
        obtain rfl := List.mem_singleton.1 hi
        refine wpOp_call rfl rfl 21 #[.tmp 33, .tmp 34] (by intro b w; have hf := Try.func21; simp [go_sem]) #[.slice oc n capc, .int .i64 n0] rfl (fun v w' => SlotsOwn (World.drew w2).heap.size w' v I ∧ Below (World.drew w2).heap.size (World.drew w2) w') ((RIT.out _ (HBW _ h0)).mono fun e w' h => by obtain ⟨⟨v, h1, h2⟩, h3⟩ := h; exact ⟨v, h1, h2, h3⟩) (some 35) rfl ?_
        rintro v x1 ⟨hv35, k1⟩
        have h1 : Below w2.heap.size w2 x1 := h0.trans (k1.mono h0.size)
        have s1 : x1.heap[gs]? = some (.cells (stA s) 24 (0, 0)) := (h1.block _ (Array.getElem?_eq_some_iff.1 S2.out).1).trans S2.out
        refine ⟨InS.of s1, ?_⟩
        simp only [Act.put, List.setIfInBounds_toArray, List.set_cons_succ, List.set_cons_zero]
        refine wpAnyH_all (rs := [4]) (by kernel_rfl) (by decide) ?_
        intro i hi
        obtain rfl := List.mem_singleton.1 hi
        refine wpOp_call rfl rfl 20 #[.tmp 32, .tmp 35] (by intro b w; have hf := Try.func20; simp [go_sem]) #[v8, v] rfl (fun v w' => v = .bool true ∧ Below x1.heap.size x1 w') ((SAME.out _ _ _ (GSl.below V2.out h1) hv35.at_).mono fun e w' h => ⟨_, h.1, rfl, h.2⟩) (some 36) rfl ?_
        rintro v x2 ⟨rfl, k2⟩
        have h2 : Below w2.heap.size w2 x2 := h1.trans (k2.mono h1.size)
        have s2 : x2.heap[gs]? = some (.cells (stA s) 24 (0, 0)) := (h2.block _ (Array.getElem?_eq_some_iff.1 S2.out).1).trans S2.out
        refine ⟨InS.of s2, ?_⟩
        simp only [Act.put, List.setIfInBounds_toArray, List.set_cons_succ, List.set_cons_zero]
        refine takeD14 (i := 5) (v := .bool true) (some 37) rfl rfl (by kernel_rfl) (by kernel_rfl) (by kernel_rfl) (fun _ _ _ h => absurd h.1 (by simp)) (.inl ⟨rfl, fun W _ => run_moveOp rfl _ _ _ rfl⟩) (InS.of s2) ?_
        simp only [Act.put, List.setIfInBounds_toArray, List.set_cons_succ, List.set_cons_zero]
        refine takeD14 (i := 6) (v := .slice oc n capc) (some 38) rfl rfl (by kernel_rfl) (by kernel_rfl) (by kernel_rfl) (fun _ _ _ h => absurd h.1 (by simp)) (.inl ⟨rfl, fun W _ => run_moveOp rfl _ _ _ rfl⟩) (InS.of s2) ?_
        simp only [Act.put, List.setIfInBounds_toArray, List.set_cons_succ, List.set_cons_zero]
        refine takeD14 (i := 7) (v := .int .i64 n0) (some 39) rfl rfl (by kernel_rfl) (by kernel_rfl) (by kernel_rfl) (fun _ _ _ h => absurd h.1 (by simp)) (.inl ⟨rfl, fun W _ => run_moveOp rfl _ _ _ rfl⟩) (InS.of s2) ?_
        simp only [Act.put, List.setIfInBounds_toArray, List.set_cons_succ, List.set_cons_zero]
        refine takeD14 (i := 9) (v := .slice oc n capc) (some 41) rfl rfl (by kernel_rfl) (by kernel_rfl) (by kernel_rfl) (fun _ _ _ h => absurd h.1 (by simp)) (.inl ⟨rfl, fun W _ => run_moveOp rfl _ _ _ rfl⟩) (InS.of s2) ?_
        simp only [Act.put, List.setIfInBounds_toArray, List.set_cons_succ, List.set_cons_zero]
        refine takeD14 (i := 10) (v := .int .i64 n0) (some 42) rfl rfl (by kernel_rfl) (by kernel_rfl) (by kernel_rfl) (fun _ _ _ h => absurd h.1 (by simp)) (.inl ⟨rfl, fun W _ => run_moveOp rfl _ _ _ rfl⟩) (InS.of s2) ?_
        simp only [Act.put, List.setIfInBounds_toArray, List.set_cons_succ, List.set_cons_zero]
        refine wpAnyH_all (rs := [8]) (by kernel_rfl) (by decide) ?_
        intro i hi
        obtain rfl := List.mem_singleton.1 hi
        refine wpOp_call rfl rfl 22 #[.tmp 38, .tmp 39] (by intro b w; have hf := Try.func22; simp [go_sem]) #[.slice oc n capc, .int .i64 n0] rfl (fun v w' => v = .int .i64 ld ∧ Below x2.heap.size x2 w') ((LO.out _ (HBW _ h2)).mono fun e w' h => ⟨_, h.1, rfl, h.2⟩) (some 40) rfl ?_
        rintro v x3 ⟨rfl, k3⟩
        have h3 : Below w2.heap.size w2 x3 := h2.trans (k3.mono h2.size)
        have s3 : x3.heap[gs]? = some (.cells (stA s) 24 (0, 0)) := (h3.block _ (Array.getElem?_eq_some_iff.1 S2.out).1).trans S2.out
        refine ⟨InS.of s3, ?_⟩
        simp only [Act.put, List.setIfInBounds_toArray, List.set_cons_succ, List.set_cons_zero]
        refine wpAnyH_all (rs := [11]) (by kernel_rfl) (by decide) ?_
        intro i hi
        obtain rfl := List.mem_singleton.1 hi
        refine wpOp_call rfl rfl 23 #[.tmp 41, .tmp 42] (by intro b w; have hf := Try.func23; simp [go_sem]) #[.slice oc n capc, .int .i64 n0] rfl (fun v w' => v = .int .i64 ld ∧ Below x3.heap.size x3 w') ((RLO.out _ (HBW _ h3)).mono fun e w' h => ⟨_, h.1, rfl, h.2⟩) (some 43) rfl ?_
        rintro v x4 ⟨rfl, k4⟩
        have h4 : Below w2.heap.size w2 x4 := h3.trans (k4.mono h3.size)
        have s4 : x4.heap[gs]? = some (.cells (stA s) 24 (0, 0)) := (h4.block _ (Array.getElem?_eq_some_iff.1 S2.out).1).trans S2.out
        refine ⟨InS.of s4, ?_⟩
        simp only [Act.put, List.setIfInBounds_toArray, List.set_cons_succ, List.set_cons_zero]
        refine takeD14 (i := 12) (v := .bool true) (some 44) rfl rfl (by kernel_rfl) (by kernel_rfl) (by kernel_rfl) (fun _ _ _ h => absurd h.1 (by simp)) (.inl ⟨rfl, fun W _ => (by simp [go_sem])⟩) (InS.of s4) ?_
        simp only [Act.put, List.setIfInBounds_toArray, List.set_cons_succ, List.set_cons_zero]
        refine takeD14 (i := 13) (v := .bool true) (some 45) rfl rfl (by kernel_rfl) (by kernel_rfl) (by kernel_rfl) (fun _ _ _ h => absurd h.1 (by simp)) (.inl ⟨rfl, fun W _ => (by simp [go_sem])⟩) (InS.of s4) ?_
        simp only [Act.put, List.setIfInBounds_toArray, List.set_cons_succ, List.set_cons_zero]
        refine takeD14 (i := 14) (v := .bool true) (some 46) rfl rfl (by kernel_rfl) (by kernel_rfl) (by kernel_rfl) (fun _ _ _ h => absurd h.1 (by simp)) (.inl ⟨rfl, fun W _ => run_moveOp rfl _ _ _ rfl⟩) (InS.of s4) ?_
        simp only [Act.put, List.setIfInBounds_toArray, List.set_cons_succ, List.set_cons_zero]
        refine region_reads 15 2 7 rfl (by kernel_rfl) (by kernel_rfl) (by kernel_rfl) (by intro d v c a w h; exact absurd h.1 (by simp)) (InS.of s4) ?_
        simp only [List.drop_succ_cons, List.drop_zero, List.take_succ_cons, List.take_zero]
        go_big_quiet_step (rfl)
        refine qlA StpOk rfl _ rfl gs 0 rfl _ _ _ (stA s) rfl (by rintro w' ⟨z, rfl⟩; exact z.k1) (own_cells _ _) ?_
        simp only [Act.put, List.setIfInBounds_toArray, List.set_cons_succ, List.set_cons_zero]
        refine wpQuiet_nil ?_
        refine region_reads 18 2 5 rfl (by kernel_rfl) (by kernel_rfl) (by kernel_rfl) (by intro d v c a w h; exact absurd h.1 (by simp)) (InS.of s4) ?_
        simp only [List.drop_succ_cons, List.drop_zero, List.take_succ_cons, List.take_zero]
        go_big_quiet_step (rfl)
        refine qlA StpOk rfl _ rfl gs 0 rfl _ _ _ (stA s) rfl (by rintro w' ⟨z, rfl⟩; exact z.k1) (own_cells _ _) ?_
        simp only [Act.put, List.setIfInBounds_toArray, List.set_cons_succ, List.set_cons_zero]
        refine wpQuiet_nil ?_
        refine wpAnyH_all (rs := [17]) (by kernel_rfl) (by decide) ?_
        intro i hi
        obtain rfl := List.mem_singleton.1 hi
        refine wpOp_call rfl rfl 15 #[.tmp 47, .tmp 48] (by intro b w; have hf := Try.func15; simp [go_sem]) #[.slice oc n capc, .agg (stA s)] rfl (fun v w' => v = .bool ft ∧ Below x4.heap.size x4 w') ((FT.out _ (HBW _ h4)).mono fun e w' h => ⟨_, h.1, rfl, h.2⟩) (some 49) rfl ?_
        rintro v x5 ⟨rfl, k5⟩
        have h5 : Below w2.heap.size w2 x5 := h4.trans (k5.mono h4.size)
        have s5 : x5.heap[gs]? = some (.cells (stA s) 24 (0, 0)) := (h5.block _ (Array.getElem?_eq_some_iff.1 S2.out).1).trans S2.out
        refine ⟨InS.of s5, ?_⟩
        simp only [Act.put, List.setIfInBounds_toArray, List.set_cons_succ, List.set_cons_zero]
        refine wpAnyH_all (rs := [20]) (by kernel_rfl) (by decide) ?_
        intro i hi
        obtain rfl := List.mem_singleton.1 hi
        refine wpOp_call rfl rfl 16 #[.tmp 50, .tmp 51] (by intro b w; have hf := Try.func16; simp [go_sem]) #[.slice oc n capc, .agg (stA s)] rfl (fun v w' => v = .bool ft ∧ Below x5.heap.size x5 w') ((RFT.out _ (HBW _ h5)).mono fun e w' h => ⟨_, h.1, rfl, h.2⟩) (some 52) rfl ?_
        rintro v x6 ⟨rfl, k6⟩
        have h6 : Below w2.heap.size w2 x6 := h5.trans (k6.mono h5.size)
        have s6 : x6.heap[gs]? = some (.cells (stA s) 24 (0, 0)) := (h6.block _ (Array.getElem?_eq_some_iff.1 S2.out).1).trans S2.out
        refine ⟨InS.of s6, ?_⟩
        simp only [Act.put, List.setIfInBounds_toArray, List.set_cons_succ, List.set_cons_zero]
        refine takeD14 (i := 21) (v := .bool true) (some 53) rfl rfl (by kernel_rfl) (by kernel_rfl) (by kernel_rfl) (fun _ _ _ h => absurd h.1 (by simp)) (.inl ⟨rfl, fun W _ => (by simp [go_sem])⟩) (InS.of s6) ?_
        simp only [Act.put, List.setIfInBounds_toArray, List.set_cons_succ, List.set_cons_zero]
        refine takeD14 (i := 22) (v := .bool true) (some 54) rfl rfl (by kernel_rfl) (by kernel_rfl) (by kernel_rfl) (fun _ _ _ h => absurd h.1 (by simp)) (.inl ⟨rfl, fun W _ => (by simp [go_sem])⟩) (InS.of s6) ?_
        simp only [Act.put, List.setIfInBounds_toArray, List.set_cons_succ, List.set_cons_zero]
        refine wpAnyH_all (rs := [23]) (by kernel_rfl) (by decide) ?_
        intro i hi
        obtain rfl := List.mem_singleton.1 hi
        refine wpOp_assign rfl rfl _ rfl _ rfl (some 6) rfl ?_
        refine ⟨InS.of s6, ?_⟩
        refine wpAnyH_done (by kernel_rfl) ?_ _
        exact ⟨rfl, _, _, _, _, _, _, _, _, _, _, _, _, _, _, _, _, _, _, _, _, _, _, _, rfl, h6⟩
      rintro a' w9 ⟨y32, y33, y34, y35, y36, y37, y38, y39, y40, y41, y42, y43, y44, y45, y46, y47, y48, y49, y50, y51, y52, y53, y54, rfl, hb9⟩
      have B9 : Hid (Below w.heap.size w w9) := B2.out.trans (hb9.mono B2.out.size)
      clear hb9
      simp only [Act.put, List.setIfInBounds_toArray, List.set_cons_succ, List.set_cons_zero]
      go_wp2_with fail
      go_ret
      exact ⟨rfl, B9.out⟩
end Go.Proofs.Ytpbinkmeldkehaa
