import Derived.Test.YtfamnloobmdhdaaDoorSnRefWh
namespace Go.Proofs.YtfamnloobmdhdaaDoor
open Go Go.RowKit
set_option maxRecDepth 20000

theorem slice_spot {o : Option Addr} {n cap : Nat} {w : World} {l : List Ent} (h : EntsAt w (.slice o n cap) l) (hn : 0 < n) : ∃ g off, o = some ⟨g, off, none⟩ := by
  obtain ⟨g, off, _, _, _, _, h1, _⟩ := h.at 0 hn
  exact ⟨g, off, h1⟩

set_option maxHeartbeats 16000000 in
set_option maxRecDepth 100000 in
theorem lawSSays_any (l0 : List Ent) (vl : Value) (w : World) (hl0 : EntsAt w vl l0) (h320 : ∀ x ∈ l0, ent32 x) (L : List Int) (hL : Byt L) (hP : Places w) :
    Calls Tryd.prog 6 #[vl, .agg (hv L)] w fun e w' => e = .returned (.bool true) ∧ Below w.heap.size w w' := by
  have hLl := hL.1
  have hp := hP.pos
  obtain ⟨o, cap, rfl, hc1, hc2⟩ := GSl.slice hl0
  obtain ⟨n0, hn0⟩ : ∃ n, n = l0.length := ⟨_, rfl⟩
  rw [← hn0] at hl0 hc1 ⊢
  obtain ⟨n, hn⟩ : ∃ n, n = min n0 200 := ⟨_, rfl⟩
  have hnm : (n : Int) = min (n0 : Int) 200 := by omega
  have hn0' : n ≤ n0 := by omega
  have hl : EntsAt w (.slice o n cap) (l0.take n) := GSl.take7 hl0 hn0'
  have h32 : ∀ x ∈ l0.take n, ent32 x := fun x hx => h320 x (List.mem_of_mem_take hx)
  have hll : (l0.take n).length = n := by rw [List.length_take]; omega
  obtain ⟨l, hle⟩ : ∃ l, l = l0.take n := ⟨_, rfl⟩
  rw [← hle] at hl h32 hll
  unfold maxLen at hc2
  have hsl : ∀ W, (Instr.sliceAt 23 (.slice o n0 cap) none (some (.int .i64 (n : Int))) none).run Tryd.prog W = .ok (.slice o n cap) W := fun W => by
    rcases Nat.eq_zero_or_pos n0 with h | h
    · obtain rfl : n = 0 := by omega
      cases o with
      | none => simp [go_sem, Tryd.underlying23]
      | some a => simp [go_sem, Tryd.underlying23]
    · obtain ⟨g, off, rfl⟩ := slice_spot hl0 h
      simp [go_sem, Tryd.underlying23]
      omega
  have AW : Hid (∀ W, Below w.heap.size w W → Calls Tryd.prog 9 #[] W fun e w' => e = .returned (.bool true) ∧ Below W.heap.size W w') := fun W hb => awake7_any W (hP.later hp hb)
  have WC : Hid (∀ W, Below w.heap.size w W → Calls Tryd.prog 18 #[.slice o n cap, .agg (hv L)] W fun e w' => e = .returned (.int .i64 (whichI (applyT L) l)) ∧ Below W.heap.size W w') := fun W hb => which_any l _ W (GSl.below hl hb) h32 L hL (hP.later hp hb)
  have SA : Hid (∀ W, Below w.heap.size w W → Calls Tryd.prog 19 #[.slice o n cap, .agg (hv L)] W fun e w' => e = .returned (.tuple #[.int .i64 (saysT (applyT L) l).1, .bool (saysT (applyT L) l).2]) ∧ Below W.heap.size W w') := fun W hb => says_any l _ W (GSl.below hl hb) h32 L hL (hP.later hp hb)
  have RW : Hid (∀ W, Below w.heap.size w W → Calls Tryd.prog 21 #[.slice o n cap, .agg (hv L)] W fun e w' => e = .returned (.int .i64 (whichI (applyT L) l)) ∧ Below W.heap.size W w') := fun W hb => rwhich_any l _ W (GSl.below hl hb) h32 L hL
  have RS : Hid (∀ W, Below w.heap.size w W → Calls Tryd.prog 20 #[.slice o n cap, .agg (hv L)] W fun e w' => e = .returned (.tuple #[.int .i64 (saysT (applyT L) l).1, .bool (saysT (applyT L) l).2]) ∧ Below W.heap.size W w') := fun W hb => rsays_any l _ W (GSl.below hl hb) h32 L hL
  have AP : Hid (∀ (x : Ent) W, ent32 x → Below w.heap.size w W → Calls Tryd.prog 16 #[.agg (entV x), .agg (hv L)] W fun e w' => e = .returned (.bool (applyT L x)) ∧ Below W.heap.size W w') := fun x W h1 hb => applies_any x h1 L hL W (hP.later hp hb)
  have hws := which_says (applyT L) l
  obtain ⟨ap, hap⟩ : ∃ ap, ap = applyT L := ⟨_, rfl⟩
  rw [← hap] at WC SA RW RS AP hws
  obtain ⟨⟨A, ok⟩, hA⟩ : ∃ x, x = saysT ap l := ⟨_, rfl⟩
  rw [← hA] at SA RS hws
  simp only at SA RS hws
  have HMO : Hid (∀ (i k : Nat) (y x : Ent), whichI ap l = (i : Int) → l[i]? = some y → l[k]? = some x → x.dflt = false → ap x = true → y.dflt = false ∧ x.prio ≤ y.prio ∧ ¬ (x.prio = y.prio ∧ k < i)) := fun i k y x h1 h2 h3 h4 h5 => by
    have key : whichT ap l = some i → y.dflt = false ∧ x.prio ≤ y.prio ∧ ¬ (x.prio = y.prio ∧ k < i) := fun hq => by
      obtain ⟨r1, r2, r3⟩ := which_most ap l hq h2 h3 h4 h5
      exact ⟨r1, by omega, r3⟩
    refine key ?_
    unfold whichI at h1
    cases hw : whichT ap l with
    | none => rw [hw] at h1; exact absurd h1 (by show ¬ ((-1 : Int) = (i : Int)); omega)
    | some j =>
      rw [hw] at h1
      have : (j : Int) = (i : Int) := h1
      congr 1
      omega
  have HIN : Hid (∀ i : Nat, whichI ap l = (i : Int) → i < n ∧ ∃ y, l[i]? = some y) := fun i h1 => by
    unfold whichI at h1
    cases hw : whichT ap l with
    | none => rw [hw] at h1; exact absurd h1 (by show ¬ ((-1 : Int) = (i : Int)); omega)
    | some j =>
      rw [hw] at h1
      have hj : (j : Int) = (i : Int) := h1
      obtain rfl : j = i := by omega
      obtain ⟨y, hy⟩ := whichT_in hw
      exact ⟨by rw [← hll]; exact (List.getElem?_eq_some_iff.1 hy).1, y, hy⟩
  obtain ⟨wi, hwi⟩ : ∃ wi, wi = whichI ap l := ⟨_, rfl⟩
  rw [← hwi] at WC RW hws HMO HIN
  have HL : Hid (EntsAt w (.slice o n cap) l) := hl
  have H32 : Hid (∀ x ∈ l, ent32 x) := h32
  have KN : Hid ((w.alloc (.cells (hv L) 37)).heap[w.heap.size]? = some (.cells (hv L) 37 (0, 0)) ∧ Below w.heap.size w (w.alloc (.cells (hv L) 37))) := ⟨heap_new _ _ _ rfl, (Below.refl _ _).alloc (Nat.le_refl _) _⟩
  have HNM : Hid ((n : Int) = min (n0 : Int) 200) := hnm
  clear hl h32 hP hp hap hA hwi hl0 h320 hle hll hn hnm hn0
  have hokk : (ok != decide (0 ≤ wi)) = false := by rw [hws]; simp
  go_enter Tryd.func6, Tryd.ntmps6
  go_wp2_with fail
  refine (AW.out _ KN.out.2).mono ?_
  rintro e w1 ⟨rfl, hb1⟩
  have R1 : Hid (w1.heap[w.heap.size]? = some (.cells (hv L) 37 (0, 0))) := (hb1.block _ (by simp)).trans KN.out.1
  have B1 : Hid (Below w.heap.size w w1) := KN.out.2.trans (hb1.mono KN.out.2.size)
  clear hb1 KN
  go_wp2_with (first
    | (refine wl_min7 rfl _ _ rfl (n0 : Int) 200 (n : Int) rfl rfl HNM.out ?_)
    | (refine wl_load26 rfl _ rfl w.heap.size rfl L R1.out hLl ?_))
  refine (WC.out _ B1.out).mono ?_
  rintro e w2 ⟨rfl, hb2⟩
  have R2 : Hid (w2.heap[w.heap.size]? = some (.cells (hv L) 37 (0, 0))) := (hb2.block _ (Array.getElem?_eq_some_iff.1 R1.out).1).trans R1.out
  have B2 : Hid (Below w.heap.size w w2) := B1.out.trans (hb2.mono B1.out.size)
  clear hb2 R1 B1
  go_wp2_with (first
    | (refine wl_load26 rfl _ rfl w.heap.size rfl L R2.out hLl ?_))
  refine (SA.out _ B2.out).mono ?_
  rintro e w3 ⟨rfl, hb3⟩
  have R3 : Hid (w3.heap[w.heap.size]? = some (.cells (hv L) 37 (0, 0))) := (hb3.block _ (Array.getElem?_eq_some_iff.1 R2.out).1).trans R2.out
  have B3 : Hid (Below w.heap.size w w3) := B2.out.trans (hb3.mono B2.out.size)
  clear hb3 R2 B2
  go_wp2_with (first
    | (refine wl_load26 rfl _ rfl w.heap.size rfl L R3.out hLl ?_))
  refine (RS.out _ B3.out).mono ?_
  rintro e w4 ⟨rfl, hb4⟩
  have R4 : Hid (w4.heap[w.heap.size]? = some (.cells (hv L) 37 (0, 0))) := (hb4.block _ (Array.getElem?_eq_some_iff.1 R3.out).1).trans R3.out
  have B4 : Hid (Below w.heap.size w w4) := B3.out.trans (hb4.mono B3.out.size)
  clear hb4 R3 B3
  go_wp2_with (first
    | (refine wl_load26 rfl _ rfl w.heap.size rfl L R4.out hLl ?_))
  refine (RW.out _ B4.out).mono ?_
  rintro e w5 ⟨rfl, hb5⟩
  have R5 : Hid (w5.heap[w.heap.size]? = some (.cells (hv L) 37 (0, 0))) := (hb5.block _ (Array.getElem?_eq_some_iff.1 R4.out).1).trans R4.out
  have B5 : Hid (Below w.heap.size w w5) := B4.out.trans (hb5.mono B4.out.size)
  clear hb5 R4 B4
  have e1 : (wi != wi) = false := by simp
  have e2 : (A != A) = false := by simp
  have e3 : (ok != ok) = false := by simp
  have hge : decide (wi ≥ 0) = decide (0 ≤ wi) := rfl
  cases hok : ok with
  | false =>
    rw [hok] at hokk e3 hws
    have hw0 : ¬ 0 ≤ wi := of_decide_eq_false hws.symm
    clear hokk hge hws
    go_wp2_with fail
    go_loopw [10] (fun i wr => i = .int .i64 0 ∧ Below w.heap.size w wr) (fun _ _ => 0)
    case atStart => exact ⟨rfl, B5.out⟩
    case round =>
      obtain ⟨rfl, hb⟩ := hrel
      have HB : Hid (Below w.heap.size w wr) := hb
      clear hb
      go_wp2_with fail
      go_ret
      exact ⟨rfl, HB.out⟩
  | true =>
    rw [hok] at hokk e3 hws
    have hw0 : 0 ≤ wi := of_decide_eq_true hws.symm
    obtain ⟨i, rfl⟩ := Int.eq_ofNat_of_zero_le hw0
    obtain ⟨hin, y, hy⟩ := HIN.out i rfl
    have HY : Hid (l[i]? = some y) := hy
    have HM2 : Hid (∀ (k : Nat) (x : Ent), l[k]? = some x → x.dflt = false → ap x = true → y.dflt = false ∧ x.prio ≤ y.prio ∧ ¬ (x.prio = y.prio ∧ k < i)) := fun k x h3 h4 h5 => HMO.out i k y x rfl hy h3 h4 h5
    clear hokk hge hws hy
    go_wp2_with fail
    go_loopw [10] (fun j wr => ∃ k : Nat, k ≤ n ∧ j = .int .i64 (k : Int) ∧ wr.heap[w.heap.size]? = some (.cells (hv L) 37 (0, 0)) ∧ Below w.heap.size w wr) (fun j _ => n - (intOf j).toNat)
    case atStart => exact ⟨0, Nat.zero_le _, rfl, R5.out, B5.out⟩
    case round =>
      clear R5 B5
      obtain ⟨k, hk, rfl, R1, hb⟩ := hrel
      have HB : Hid (Below w.heap.size w wr) := hb
      clear hb
      by_cases hlt : k < n
      · have hlt' : (k : Int) < (n : Int) := by omega
        obtain ⟨g, off, cur, ty, fr, x, rfl, K1, hc, hxk⟩ := (GSl.below HL.out HB.out).at k hlt
        obtain ⟨g', off', cur', ty', fr', y', e0, hg', hc', hyj⟩ := (GSl.below HL.out HB.out).at i hin
        simp only [Option.some.injEq, Addr.mk.injEq, and_true] at e0
        obtain ⟨rfl, rfl⟩ := e0
        obtain rfl : y = y' := Option.some.inj (HY.out.symm.trans hyj)
        have H1 : Hid (∀ j, j < 12 → cur[off + k * 12 + j]? = (entV x)[j]?) := hc
        have HX : Hid (ent32 x) := H32.out x (List.mem_of_getElem? hxk)
        have l0 : ∀ u : Later wr, u.world.cell? ⟨g, off + k * 12, none⟩ = some (.bool x.dflt) := later_cell7 K1 (hc 0 (by decide))
        have l1 : ∀ u : Later wr, u.world.cell? ⟨g, off + k * 12 + 1, none⟩ = some (.int .i64 x.prio) := later_cell7 K1 (hc 1 (by decide))
        have m0 : ∀ u : Later wr, u.world.cell? ⟨g, off + i * 12, none⟩ = some (.bool y.dflt) := later_cell7 hg' (hc' 0 (by decide))
        have m1 : ∀ u : Later wr, u.world.cell? ⟨g, off + i * 12 + 1, none⟩ = some (.int .i64 y.prio) := later_cell7 hg' (hc' 1 (by decide))
        have hin' : (i : Int) < (n : Int) := by omega
        have HMX := HM2.out k x hxk
        have ne1 := Later.ne wr
        clear hc hxk hg' hc' hyj
        cases hd : x.dflt with
        | true =>
          rw [hd] at l0
          clear hd HMX
          go_wp2_with fail
          refine wp_region_later (by kernel_rfl) (by kernel_rfl) ?_
          go_big_quiet_step (rfl)
          go_big_quiet_step (rfl)
          go_big_quiet_step (rfl)
          go_big_quiet_step (rfl)
          go_big_quiet_step (rfl)
          go_big_quiet_step (rfl)
          go_big_quiet_step (rfl)
          go_big_quiet_step (rfl)
          go_big_quiet_step (rfl)
          go_big_quiet_step (rfl)
          go_big_quiet_step (rfl)
          go_big_quiet_step (rfl)
          go_big_quiet_step (rfl)
          go_big_quiet_step (rfl)
          go_big_quiet_step (rfl)
          go_big_quiet_step (rfl)
          go_big_quiet_step (rfl)
          go_big_quiet_step (rfl)
          go_big_quiet_step (rfl)
          go_big_quiet_step (rfl)
          go_big_quiet_step (rfl)
          go_big_quiet_step (rfl)
          go_big_quiet_step (rfl)
          go_big_quiet_step (rfl)
          go_big_quiet_step (rfl)
          go_big_quiet_step (rfl)
          go_big_quiet_step (rfl)
          go_big_quiet_step (rfl)
          go_big_quiet_step (rfl)
          go_big_quiet_step (rfl)
          go_big_quiet_step (rfl)
          go_big_quiet_step (rfl)
          go_big_quiet_step (rfl)
          go_big_quiet_step (rfl)
          go_big_quiet_step (rfl)
          go_big_quiet_step (rfl)
          go_big_quiet_step (rfl)
          go_big_quiet_step (rfl)
          go_big_quiet_step (rfl)
          go_big_quiet_step (rfl)
          go_big_quiet_step (rfl)
          go_big_quiet_step (rfl)
          go_big_quiet_step (rfl)
          go_big_quiet_step (rfl)
          go_big_quiet_step (rfl)
          go_big_quiet_step (rfl)
          go_big_quiet_step (rfl)
          go_big_quiet_step (rfl)
          go_big_quiet_step (rfl)
          go_big_quiet_step (rfl)
          go_big_quiet_step (rfl)
          go_big_quiet_step (rfl)
          refine wpQuiet_nil ?_
          rintro w' ⟨v, rfl⟩
          have R3 : Hid (v.world.heap[w.heap.size]? = some (.cells (hv L) 37 (0, 0))) := later_block R1 _ ⟨v, rfl⟩
          have B3 : Hid (Below w.heap.size w v.world) := HB.out.trans (v.below.mono HB.out.size)
          obtain ⟨W3, hW3⟩ : ∃ W3, W3 = v.world := ⟨_, rfl⟩
          rw [← hW3] at R3 B3 ⊢
          clear hW3 ne1
          clear l0 l1 m0 m1
          go_wp2_with fail
          go_roundw
          case rel => exact ⟨k + 1, by omega, by go_num, R3.out, B3.out⟩
          case measure => simp [intOf]; omega
        | false =>
          rw [hd] at l0 HMX
          clear hd
          cases ha : ap x with
          | false =>
            have RX : Hid (∀ u : Later wr, Calls Tryd.prog 16 #[.agg (entV x), .agg (hv L)] u.world fun e w' => e = .returned (.bool false) ∧ Below u.world.heap.size u.world w') := fun u => by have := AP.out x u.world HX.out (HB.out.trans (u.below.mono HB.out.size)); rwa [ha] at this
            clear ha HMX
            go_wp2_with fail
            refine wp_region_later (by kernel_rfl) (by kernel_rfl) ?_
            go_big_quiet_step (rfl)
            go_big_quiet_step (rfl)
            go_big_quiet_step (rfl)
            go_big_quiet_step (rfl)
            go_big_quiet_step (rfl)
            go_big_quiet_step (rfl)
            go_big_quiet_step (rfl)
            go_big_quiet_step (rfl)
            go_big_quiet_step (rfl)
            go_big_quiet_step (rfl)
            refine qlE (E := EntE) EntOk rfl _ rfl g (off + k * 12) rfl cur ty fr (entV x) rfl (later_block K1) H1.out ?_
            simp only [Act.put, List.setIfInBounds_toArray, List.set_cons_succ, List.set_cons_zero]
            refine qlH rfl _ rfl w.heap.size rfl L R1 hLl ?_
            simp only [Act.put, List.setIfInBounds_toArray, List.set_cons_succ, List.set_cons_zero]
            go_big_quiet_want; go_big_quiet_op
            refine ⟨_, fun u => Calls.later_of (RX.out u), ?_⟩
            go_big_quiet_on
            go_big_quiet_step (rfl)
            go_big_quiet_step (rfl)
            go_big_quiet_step (rfl)
            go_big_quiet_step (rfl)
            go_big_quiet_step (rfl)
            go_big_quiet_step (rfl)
            go_big_quiet_step (rfl)
            go_big_quiet_step (rfl)
            go_big_quiet_step (rfl)
            go_big_quiet_step (rfl)
            go_big_quiet_step (rfl)
            go_big_quiet_step (rfl)
            go_big_quiet_step (rfl)
            go_big_quiet_step (rfl)
            go_big_quiet_step (rfl)
            go_big_quiet_step (rfl)
            go_big_quiet_step (rfl)
            go_big_quiet_step (rfl)
            go_big_quiet_step (rfl)
            go_big_quiet_step (rfl)
            go_big_quiet_step (rfl)
            go_big_quiet_step (rfl)
            go_big_quiet_step (rfl)
            go_big_quiet_step (rfl)
            go_big_quiet_step (rfl)
            go_big_quiet_step (rfl)
            go_big_quiet_step (rfl)
            go_big_quiet_step (rfl)
            go_big_quiet_step (rfl)
            go_big_quiet_step (rfl)
            go_big_quiet_step (rfl)
            go_big_quiet_step (rfl)
            go_big_quiet_step (rfl)
            go_big_quiet_step (rfl)
            go_big_quiet_step (rfl)
            go_big_quiet_step (rfl)
            go_big_quiet_step (rfl)
            go_big_quiet_step (rfl)
            go_big_quiet_step (rfl)
            refine wpQuiet_nil ?_
            rintro w' ⟨v, rfl⟩
            have R3 : Hid (v.world.heap[w.heap.size]? = some (.cells (hv L) 37 (0, 0))) := later_block R1 _ ⟨v, rfl⟩
            have B3 : Hid (Below w.heap.size w v.world) := HB.out.trans (v.below.mono HB.out.size)
            obtain ⟨W3, hW3⟩ : ∃ W3, W3 = v.world := ⟨_, rfl⟩
            rw [← hW3] at R3 B3 ⊢
            clear hW3 ne1
            clear l0 l1 m0 m1
            go_wp2_with fail
            go_roundw
            case rel => exact ⟨k + 1, by omega, by go_num, R3.out, B3.out⟩
            case measure => simp [intOf]; omega
          | true =>
            have RX : Hid (∀ u : Later wr, Calls Tryd.prog 16 #[.agg (entV x), .agg (hv L)] u.world fun e w' => e = .returned (.bool true) ∧ Below u.world.heap.size u.world w') := fun u => by have := AP.out x u.world HX.out (HB.out.trans (u.below.mono HB.out.size)); rwa [ha] at this
            obtain ⟨q1, q2, q3⟩ := HMX rfl ha
            rw [q1] at m0
            have q2' : decide (x.prio > y.prio) = false := decide_eq_false (by omega)
            by_cases hpp : x.prio = y.prio
            · have hpe : (x.prio == y.prio) = true := by simp [hpp]
              have hki : decide ((k : Int) < (i : Int)) = false := decide_eq_false (fun h => q3 ⟨hpp, by omega⟩)
              have hki2 : decide (k < i) = false := decide_eq_false (fun h => q3 ⟨hpp, h⟩)
              clear ha q1 q2 q3 HMX hpp
              go_wp2_with fail
              refine wp_region_later (by kernel_rfl) (by kernel_rfl) ?_
              go_big_quiet_step (rfl)
              go_big_quiet_step (rfl)
              go_big_quiet_step (rfl)
              go_big_quiet_step (rfl)
              go_big_quiet_step (rfl)
              go_big_quiet_step (rfl)
              go_big_quiet_step (rfl)
              go_big_quiet_step (rfl)
              go_big_quiet_step (rfl)
              go_big_quiet_step (rfl)
              refine qlE (E := EntE) EntOk rfl _ rfl g (off + k * 12) rfl cur ty fr (entV x) rfl (later_block K1) H1.out ?_
              simp only [Act.put, List.setIfInBounds_toArray, List.set_cons_succ, List.set_cons_zero]
              refine qlH rfl _ rfl w.heap.size rfl L R1 hLl ?_
              simp only [Act.put, List.setIfInBounds_toArray, List.set_cons_succ, List.set_cons_zero]
              go_big_quiet_want; go_big_quiet_op
              refine ⟨_, fun u => Calls.later_of (RX.out u), ?_⟩
              go_big_quiet_on
              go_big_quiet_step (rfl)
              go_big_quiet_step (rfl)
              go_big_quiet_step (rfl)
              go_big_quiet_step (rfl)
              go_big_quiet_step (rfl)
              go_big_quiet_step (rfl)
              go_big_quiet_step (rfl)
              go_big_quiet_step (rfl)
              go_big_quiet_step (rfl)
              go_big_quiet_step (rfl)
              go_big_quiet_step (rfl)
              go_big_quiet_step (rfl)
              go_big_quiet_step (rfl)
              go_big_quiet_step (rfl)
              go_big_quiet_step (rfl)
              go_big_quiet_step (rfl)
              go_big_quiet_step (rfl)
              go_big_quiet_step (rfl)
              go_big_quiet_step (rfl)
              go_big_quiet_step (rfl)
              go_big_quiet_step (rfl)
              go_big_quiet_step (rfl)
              go_big_quiet_step (rfl)
              go_big_quiet_step (rfl)
              go_big_quiet_step (rfl)
              go_big_quiet_step (rfl)
              go_big_quiet_step (rfl)
              go_big_quiet_step (rfl)
              go_big_quiet_step (rfl)
              go_big_quiet_step (rfl)
              go_big_quiet_step (rfl)
              go_big_quiet_step (rfl)
              go_big_quiet_step (rfl)
              go_big_quiet_step (rfl)
              go_big_quiet_step (rfl)
              go_big_quiet_step (rfl)
              go_big_quiet_step (rfl)
              go_big_quiet_step (rfl)
              go_big_quiet_step (rfl)
              refine wpQuiet_nil ?_
              rintro w' ⟨v, rfl⟩
              have R3 : Hid (v.world.heap[w.heap.size]? = some (.cells (hv L) 37 (0, 0))) := later_block R1 _ ⟨v, rfl⟩
              have B3 : Hid (Below w.heap.size w v.world) := HB.out.trans (v.below.mono HB.out.size)
              obtain ⟨W3, hW3⟩ : ∃ W3, W3 = v.world := ⟨_, rfl⟩
              rw [← hW3] at R3 B3 ⊢
              clear hW3 ne1
              clear l0 l1 m0 m1
              go_wp2_with fail
              go_roundw
              case rel => exact ⟨k + 1, by omega, by go_num, R3.out, B3.out⟩
              case measure => simp [intOf]; omega
            · have hpe : (x.prio == y.prio) = false := by simp [hpp]
              clear ha q1 q2 q3 HMX hpp
              go_wp2_with fail
              refine wp_region_later (by kernel_rfl) (by kernel_rfl) ?_
              go_big_quiet_step (rfl)
              go_big_quiet_step (rfl)
              go_big_quiet_step (rfl)
              go_big_quiet_step (rfl)
              go_big_quiet_step (rfl)
              go_big_quiet_step (rfl)
              go_big_quiet_step (rfl)
              go_big_quiet_step (rfl)
              go_big_quiet_step (rfl)
              go_big_quiet_step (rfl)
              refine qlE (E := EntE) EntOk rfl _ rfl g (off + k * 12) rfl cur ty fr (entV x) rfl (later_block K1) H1.out ?_
              simp only [Act.put, List.setIfInBounds_toArray, List.set_cons_succ, List.set_cons_zero]
              refine qlH rfl _ rfl w.heap.size rfl L R1 hLl ?_
              simp only [Act.put, List.setIfInBounds_toArray, List.set_cons_succ, List.set_cons_zero]
              go_big_quiet_want; go_big_quiet_op
              refine ⟨_, fun u => Calls.later_of (RX.out u), ?_⟩
              go_big_quiet_on
              go_big_quiet_step (rfl)
              go_big_quiet_step (rfl)
              go_big_quiet_step (rfl)
              go_big_quiet_step (rfl)
              go_big_quiet_step (rfl)
              go_big_quiet_step (rfl)
              go_big_quiet_step (rfl)
              go_big_quiet_step (rfl)
              go_big_quiet_step (rfl)
              go_big_quiet_step (rfl)
              go_big_quiet_step (rfl)
              go_big_quiet_step (rfl)
              go_big_quiet_step (rfl)
              go_big_quiet_step (rfl)
              go_big_quiet_step (rfl)
              go_big_quiet_step (rfl)
              go_big_quiet_step (rfl)
              go_big_quiet_step (rfl)
              go_big_quiet_step (rfl)
              go_big_quiet_step (rfl)
              go_big_quiet_step (rfl)
              go_big_quiet_step (rfl)
              go_big_quiet_step (rfl)
              go_big_quiet_step (rfl)
              go_big_quiet_step (rfl)
              go_big_quiet_step (rfl)
              go_big_quiet_step (rfl)
              go_big_quiet_step (rfl)
              go_big_quiet_step (rfl)
              go_big_quiet_step (rfl)
              go_big_quiet_step (rfl)
              go_big_quiet_step (rfl)
              go_big_quiet_step (rfl)
              go_big_quiet_step (rfl)
              go_big_quiet_step (rfl)
              go_big_quiet_step (rfl)
              go_big_quiet_step (rfl)
              go_big_quiet_step (rfl)
              go_big_quiet_step (rfl)
              refine wpQuiet_nil ?_
              rintro w' ⟨v, rfl⟩
              have R3 : Hid (v.world.heap[w.heap.size]? = some (.cells (hv L) 37 (0, 0))) := later_block R1 _ ⟨v, rfl⟩
              have B3 : Hid (Below w.heap.size w v.world) := HB.out.trans (v.below.mono HB.out.size)
              obtain ⟨W3, hW3⟩ : ∃ W3, W3 = v.world := ⟨_, rfl⟩
              rw [← hW3] at R3 B3 ⊢
              clear hW3 ne1
              clear l0 l1 m0 m1
              go_wp2_with fail
              go_roundw
              case rel => exact ⟨k + 1, by omega, by go_num, R3.out, B3.out⟩
              case measure => simp [intOf]; omega
      · have hlt' : ¬ (k : Int) < (n : Int) := by omega
        clear hlt
        go_wp2_with fail
        go_ret
        exact ⟨rfl, HB.out⟩
end Go.Proofs.YtfamnloobmdhdaaDoor
