import Derived.Test.YtpbinkmeldkehaaJ24
namespace Go.Proofs.Ytpbinkmeldkehaa
open Go Go.Lib Go.RowKit
set_option maxRecDepth 20000

structure KeepS (g : Nat) (s : Stp) where
  world : World
  k1 : world.heap[g]? = some (.cells (stA s) 24 (0, 0))
abbrev InS (g : Nat) (s : Stp) (w : World) : Prop := ∃ z : KeepS g s, w = z.world
theorem InS.of {g : Nat} {s : Stp} {w : World} (h : w.heap[g]? = some (.cells (stA s) 24 (0, 0))) : InS g s w := ⟨⟨w, h⟩, rfl⟩
theorem InS.at {g : Nat} {s : Stp} {w : World} (h : InS g s w) : w.heap[g]? = some (.cells (stA s) 24 (0, 0)) := by obtain ⟨z, rfl⟩ := h; exact z.k1
/-- What comes of leaves that are dealt: the leaves and the error. -/
def dealtV (B : Nat) (w' : World) (C : List LeafM) (r : Option ((Nat → Int) × (Nat → Nat × Nat))) (v : Value) (er : Int) : Prop :=
  match r with
  | none => v = .slice none 0 0 ∧ er = 15
  | some st => er = 0 ∧ LeavesOwn B w' v (givL C st.2 C.length)
theorem dealtV_of {B : Nat} {w' : World} {vc : Value} {C : List LeafM} {r : Option ((Nat → Int) × (Nat → Nat × Nat))} {e : Ending} (h : dealtR B w' vc C r e) : ∃ v er, e = .returned (.tuple #[v, .int .i64 er]) ∧ dealtV B w' C r v er := by
  cases r with
  | none => exact ⟨_, _, h, rfl, rfl⟩
  | some st => exact ⟨_, _, h.1, rfl, h.2⟩
theorem leaves_base {B B' : Nat} {w : World} {v : Value} {C : List LeafM} (h : LeavesOwn B w v C) (hB : B' ≤ B) : LeavesOwn B' w v C := by
  obtain ⟨P, h1, h2, h3⟩ := h
  exact ⟨P, h1, own_base h2 hB, fun p hp => (h3 p hp).base hB⟩
/-- How leaves are dealt, in some order. -/
def dealO (T : List LeafM) (live : List Int) (l : List Nat) (room : Int) (o : List Nat) : Option ((Nat → Int) × (Nat → Nat × Nat)) := dealF (thT live) (wtT l) room (cntT (thT live)) (fun i => max ((szL T).getD i 0) 0) o (fun _ => 0) (fun _ => (0, 0))
def tr1 (s : Stp) (l : List RuleM) : List LeafM := treeT s.bi (s.pa.tdiv 2) s.gr l
def tr2 (s : Stp) (l : List RuleM) : List LeafM := treeT s.bi 1 s.gr l
/-- What Make comes to. -/
def MkP (l : List RuleM) (s : Stp) (lv : List Int) (wl : List Nat) (R : Option (List LeafM)) : Prop :=
  ∃ o1, IsOrd (keyZ (szL (tr1 s l))) (tr1 s l).length o1 ∧ match dealO (tr1 s l) lv wl (s.ro.tdiv 2) o1 with
    | some st => R = some (givL (tr1 s l) st.2 (tr1 s l).length)
    | none => ∃ o2, IsOrd (keyZ (szL (tr2 s l))) (tr2 s l).length o2 ∧ R = (dealO (tr2 s l) lv wl (s.ro.tdiv 2) o2).map fun st => givL (tr2 s l) st.2 (tr2 s l).length
def makeR (B : Nat) (w' : World) (R : Option (List LeafM)) (e : Ending) : Prop :=
  match R with
  | none => e = .returned (.tuple #[.slice none 0 0, .int .i64 15])
  | some D => ∃ v, e = .returned (.tuple #[v, .int .i64 0]) ∧ LeavesOwn B w' v D
theorem tree_small (b : Nat) (L G : Int) (hL : L ≤ 1000) (l : List RuleM) (hn : l.length ≤ 100000) : (treeT b L G l).length ≤ 1000 ∧ ∀ x ∈ treeT b L G l, x.rules.length ≤ 100000 := by
  have h1 := (tree_few b L G l).2.1
  have h2 := tree_ok b L G l
  refine ⟨by omega, fun x hx => ?_⟩
  have := (h2.ok x hx).2.2.1
  omega
theorem right_rooms {s : Stp} (h : rightT s = true) : 2 ≤ s.sw ∧ s.sw ≤ 6 ∧ 2 ≤ s.au ∧ s.au ≤ s.sw ∧ 2 ≤ s.ro ∧ s.ro ≤ 2048 ∧ 2 ≤ s.pa ∧ s.pa ≤ 64 := by
  unfold rightT bdT inP inT at h
  simp at h
  omega
set_option maxHeartbeats 16000000 in
set_option maxRecDepth 100000 in
theorem make_no (s : Stp) (hs : rightT s = false) (vl vv vw : Value) (w : World) : Calls Try.prog 12 #[vl, .agg (stA s), vv, vw] w fun e w' => e = .returned (.tuple #[.slice none 0 0, .int .i64 1]) ∧ Below w.heap.size w w' := by
  have RI : Hid (∀ W, Calls Try.prog 10 #[.agg (stA s)] W fun e w' => e = .returned (.bool false) ∧ Below W.heap.size W w') := fun W => by have := right_any s W; rw [hs] at this; exact this
  have SA : Hid ((w.alloc (.cells (stA s) 24)).heap[w.heap.size]? = some (.cells (stA s) 24 (0, 0))) := heap_new _ _ _ rfl
  have BA : Hid (Below w.heap.size w (w.alloc (.cells (stA s) 24))) := (Below.refl _ _).alloc (Nat.le_refl _) _
  go_enter Try.func12, Try.ntmps12
  go_wp2_with (refine wl_loadA StpOk rfl _ rfl w.heap.size 0 rfl _ _ _ (stA s) rfl SA.out (own_cells _ _) ?_)
  refine (RI.out _).mono ?_
  rintro e w2 ⟨rfl, hb2⟩
  have B2 : Hid (Below w.heap.size w w2) := BA.out.trans (hb2.mono BA.out.size)
  clear hb2
  go_wp2_with fail
  go_ret2
  exact ⟨rfl, B2.out⟩
set_option maxHeartbeats 16000000 in
set_option maxRecDepth 100000 in
theorem make_yes (l : List RuleM) (hl0 : ∀ r ∈ l, okR8 r) (hn1 : l.length ≤ 100000) (s : Stp) (hs : rightT s = true) (hbi : Wd s.bi) (live : List Int) (hlv : live.length ≤ 1000) (wl : List Nat) (hW : AllW wl) (vl vv0 vw : Value) (w : World) (hl : RulesAt w vl l) (hv : ISl w vv0 live) (hw : FSl w vw wl) :
    Calls Try.prog 12 #[vl, .agg (stA s), vv0, vw] w fun e w' => (∃ R, MkP l s (cntL s.au live) wl R ∧ makeR w.heap.size w' R e) ∧ Below w.heap.size w w' := by
  obtain ⟨b1, b2, b3, b4, b5, b6, b7, b8⟩ := right_rooms hs
  have hq1 : s.pa.tdiv 2 ≤ 1000 := by rw [Int.tdiv_eq_ediv_of_nonneg (by omega)]; omega
  have hr1 : -9223372036854775808 ≤ s.ro.tdiv 2 ∧ s.ro.tdiv 2 ≤ 9223372036854775807 := by rw [Int.tdiv_eq_ediv_of_nonneg (by omega)]; omega
  have RI : Hid (∀ W, Calls Try.prog 10 #[.agg (stA s)] W fun e w' => e = .returned (.bool true) ∧ Below W.heap.size W w') := fun W => by have := right_any s W; rw [hs] at this; exact this
  have CO : Hid (∀ W, Below w.heap.size w W → Calls Try.prog 27 #[vv0, .int .i64 s.au] W fun e w' => (∃ v, e = .returned v ∧ VOwn 3 W.heap.size w' v (inI (cntL s.au live))) ∧ Below W.heap.size W w') := fun W hb => counting_any live hlv s.au vv0 W (VSl.below hv hb)
  have Hpa : Hid (∀ W, Calls Try.prog 30 #[.int .i64 s.pa] W fun e w' => e = .returned (.int .i64 (s.pa.tdiv 2)) ∧ Below W.heap.size W w') := fun W => half_any s.pa (by omega) (by omega) W
  have Hro : Hid (∀ W, Calls Try.prog 30 #[.int .i64 s.ro] W fun e w' => e = .returned (.int .i64 (s.ro.tdiv 2)) ∧ Below W.heap.size W w') := fun W => half_any s.ro (by omega) (by omega) W
  obtain ⟨T1, hT1⟩ : ∃ T, T = tr1 s l := ⟨_, rfl⟩
  obtain ⟨T2, hT2⟩ : ∃ T, T = tr2 s l := ⟨_, rfl⟩
  have HT1 : Hid (∀ W, RulesAt W vl l → Calls Try.prog 29 #[vl, .int .i64 (s.pa.tdiv 2), .int .i64 s.gr, .float .f64 s.bi] W fun e w' => (∃ v, e = .returned v ∧ LeavesOwn W.heap.size w' v T1) ∧ Below W.heap.size W w') := fun W h => by rw [hT1]; exact tree_any l hl0 hn1 vl _ _ hq1 s.bi hbi W h
  have HT2 : Hid (∀ W, RulesAt W vl l → Calls Try.prog 29 #[vl, .int .i64 1, .int .i64 s.gr, .float .f64 s.bi] W fun e w' => (∃ v, e = .returned v ∧ LeavesOwn W.heap.size w' v T2) ∧ Below W.heap.size W w') := fun W h => by rw [hT2]; exact tree_any l hl0 hn1 vl _ _ (by omega) s.bi hbi W h
  obtain ⟨lv, hlvE⟩ : ∃ lv, lv = cntL s.au live := ⟨_, rfl⟩
  obtain ⟨DT1, hD1⟩ : ∃ D : List Nat → Option ((Nat → Int) × (Nat → Nat × Nat)), D = dealO T1 lv wl (s.ro.tdiv 2) := ⟨_, rfl⟩
  obtain ⟨DT2, hD2⟩ : ∃ D : List Nat → Option ((Nat → Int) × (Nat → Nat × Nat)), D = dealO T2 lv wl (s.ro.tdiv 2) := ⟨_, rfl⟩
  have sm1 := tree_small s.bi (s.pa.tdiv 2) s.gr hq1 l hn1
  have sm2 := tree_small s.bi 1 s.gr (by omega) l hn1
  have HD1 : Hid (∀ B W vt vv, B ≤ W.heap.size → LeavesOwn B W vt T1 → ISl W vv lv → FSl W vw wl → Calls Try.prog 28 #[vt, vv, vw, .int .i64 (s.ro.tdiv 2)] W fun e w' => (∃ o, IsOrd (keyZ (szL T1)) T1.length o ∧ dealtR B w' vt T1 (DT1 o) e) ∧ Below B W w') := fun B W vt vv h1 h2 h3 h4 => by
    rw [hD1, hT1] at *
    exact dealt_any _ sm1.1 sm1.2 lv wl hW _ hr1.1 hr1.2 B vt vv vw W h1 h2 h3 h4
  have HD2 : Hid (∀ B W vt vv, B ≤ W.heap.size → LeavesOwn B W vt T2 → ISl W vv lv → FSl W vw wl → Calls Try.prog 28 #[vt, vv, vw, .int .i64 (s.ro.tdiv 2)] W fun e w' => (∃ o, IsOrd (keyZ (szL T2)) T2.length o ∧ dealtR B w' vt T2 (DT2 o) e) ∧ Below B W w') := fun B W vt vv h1 h2 h3 h4 => by
    rw [hD2, hT2] at *
    exact dealt_any _ sm2.1 sm2.2 lv wl hW _ hr1.1 hr1.2 B vt vv vw W h1 h2 h3 h4
  have FIN1 : Hid (∀ o st, IsOrd (keyZ (szL T1)) T1.length o → DT1 o = some st → MkP l s lv wl (some (givL T1 st.2 T1.length))) := fun o st h1 h2 => by
    rw [hD1, hT1] at *
    exact ⟨o, h1, by rw [h2]⟩
  have FIN2 : Hid (∀ o1 o2, IsOrd (keyZ (szL T1)) T1.length o1 → DT1 o1 = none → IsOrd (keyZ (szL T2)) T2.length o2 → MkP l s lv wl ((DT2 o2).map fun st => givL T2 st.2 T2.length)) := fun o1 o2 h1 h2 h3 => by
    rw [hD1, hD2, hT1, hT2] at *
    refine ⟨o1, h1, ?_⟩
    rw [h2]
    exact ⟨o2, h3, rfl⟩
  rw [← hlvE] at CO ⊢
  have HL : Hid (RulesAt w vl l) := hl
  have HF : Hid (FSl w vw wl) := hw
  have SA0 : Hid ((w.alloc (.cells (stA s) 24)).heap[w.heap.size]? = some (.cells (stA s) 24 (0, 0))) := heap_new _ _ _ rfl
  have BA : Hid (Below w.heap.size w (w.alloc (.cells (stA s) 24))) := (Below.refl _ _).alloc (Nat.le_refl _) _
  clear hl hv hw hs hW hl0 hbi hlvE hT1 hT2 hD1 hD2 sm1 sm2 hq1 hr1 b1 b2 b3 b4 b5 b6 b7 b8
  go_enter Try.func12, Try.ntmps12
  go_wp2_with (refine wl_loadA StpOk rfl _ rfl w.heap.size 0 rfl _ _ _ (stA s) rfl SA0.out (own_cells _ _) ?_)
  refine (RI.out _).mono ?_
  rintro e w2 ⟨rfl, hb2⟩
  have B2 : Hid (Below w.heap.size w w2) := BA.out.trans (hb2.mono BA.out.size)
  have S2 : Hid (w2.heap[w.heap.size]? = some (.cells (stA s) 24 (0, 0))) := (hb2.block _ (Array.getElem?_eq_some_iff.1 SA0.out).1).trans SA0.out
  have c1 := (st_cells S2.out).2.1
  clear hb2 BA SA0
  go_wp2_with fail
  refine (CO.out _ B2.out).mono ?_
  rintro e wa ⟨⟨vv, rfl, hvv⟩, hb3⟩
  have WA : Hid (Below w.heap.size w wa) := B2.out.trans (hb3.mono B2.out.size)
  have SA : Hid (wa.heap[w.heap.size]? = some (.cells (stA s) 24 (0, 0))) := (hb3.block _ (Array.getElem?_eq_some_iff.1 S2.out).1).trans S2.out
  have VA : Hid (ISl wa vv lv) := hvv.sl
  have RA : Hid (RulesAt wa vl l) := GSl.below HL.out WA.out
  have FA : Hid (FSl wa vw wl) := VSl.below HF.out WA.out
  clear hb3 hvv B2 S2 c1
  obtain ⟨gs, hgs⟩ : ∃ gs, gs = w.heap.size := ⟨_, rfl⟩
  have GS : Hid (gs = w.heap.size) := hgs
  rw [← hgs] at SA
  go_upto_region 4 with fail
  rw [← hgs]
  clear hgs
  refine region_cut (fun a a' w' => ∃ v er y19 y20 y21 y22 y23 y24 y25 y26 y27 y28 y29 y30 y31 y32 y33 y34 y35 y36, a' = (((((((((((((((((((a.put (some 19) y19).put (some 20) y20).put (some 21) y21).put (some 22) y22).put (some 23) y23).put (some 24) y24).put (some 25) y25).put (some 26) y26).put (some 27) y27).put (some 28) y28).put (some 29) y29).put (some 30) y30).put (some 31) y31).put (some 32) y32).put (some 33) y33).put (some 34) y34).put (some 35) y35).put (some 36) y36).put (some 10) v).put (some 11) (.int .i64 er) ∧ (∃ o, IsOrd (keyZ (szL T1)) T1.length o ∧ dealtV wa.heap.size w' T1 (DT1 o) v er) ∧ InS gs s w' ∧ Below wa.heap.size wa w') ?_ ?_
  · have ne9 : Nonempty (KeepS gs s) := ⟨⟨wa, SA.out⟩⟩
    have e4 : ∀ z : KeepS gs s, z.world.cell? ⟨gs, 4, none⟩ = some (.int .i64 s.pa) := fun z => (cell_of_row _ _ _ _ _ _ z.k1).trans rfl
    have e7 : ∀ z : KeepS gs s, z.world.cell? ⟨gs, 7, none⟩ = some (.int .i64 s.gr) := fun z => (cell_of_row _ _ _ _ _ _ z.k1).trans rfl
    have e3 : ∀ z : KeepS gs s, z.world.cell? ⟨gs, 3, none⟩ = some (.int .i64 s.ro) := fun z => (cell_of_row _ _ _ _ _ _ z.k1).trans rfl
    have e8 : ∀ z : KeepS gs s, z.world.cell? ⟨gs, 8, none⟩ = some (.float .f64 s.bi) := fun z => (cell_of_row _ _ _ _ _ _ z.k1).trans rfl
    refine region_beginS (InS gs s) 20 rfl (by kernel_rfl) ?_
    refine region_reads 0 3 17 rfl (by kernel_rfl) (by kernel_rfl) (by kernel_rfl) (by intro d v c a w h; exact absurd h.1 (by simp)) (InS.of (w := World.drew wa) SA.out) ?_
    simp only [List.drop_zero, List.take_succ_cons, List.take_zero]
    go_big_quiet_step (rfl)
    go_big_quiet_step (rfl)
    go_big_quiet_step (rfl)
    refine wpQuiet_nil ?_
    refine region_reads 4 4 13 rfl (by kernel_rfl) (by kernel_rfl) (by kernel_rfl) (by intro d v c a w h; exact absurd h.1 (by simp)) (InS.of (w := World.drew wa) SA.out) ?_
    simp only [List.drop_succ_cons, List.drop_zero, List.take_succ_cons, List.take_zero]
    go_big_quiet_step (rfl)
    go_big_quiet_step (rfl)
    go_big_quiet_step (rfl)
    go_big_quiet_step (rfl)
    refine wpQuiet_nil ?_
    refine region_reads 9 4 9 rfl (by kernel_rfl) (by kernel_rfl) (by kernel_rfl) (by intro d v c a w h; exact absurd h.1 (by simp)) (InS.of (w := World.drew wa) SA.out) ?_
    simp only [List.drop_succ_cons, List.drop_zero, List.take_succ_cons, List.take_zero]
    go_big_quiet_step (rfl)
    go_big_quiet_step (rfl)
    go_big_quiet_step (rfl)
    go_big_quiet_step (rfl)
    refine wpQuiet_nil ?_
    have hd0 : Below wa.heap.size wa (World.drew wa) := (Below.refl _ _).drew
    refine wpAnyH_all (rs := [3]) (by kernel_rfl) (by decide) ?_
    intro i hi
    obtain rfl := List.mem_singleton.1 hi
    refine wpOp_call rfl rfl 30 #[.tmp 22] (by intro b w; have hf := Try.func30; simp [go_sem]) #[.int .i64 s.pa] rfl (fun v w' => v = .int .i64 (s.pa.tdiv 2) ∧ Below (World.drew wa).heap.size (World.drew wa) w') ((Hpa.out _).mono fun e w' h => ⟨_, h.1, rfl, h.2⟩) (some 23) rfl ?_
    rintro v x1 ⟨rfl, k1⟩
    have h1 : Below wa.heap.size wa x1 := hd0.trans (k1.mono hd0.size)
    have s1 : x1.heap[gs]? = some (.cells (stA s) 24 (0, 0)) := (h1.block _ (Array.getElem?_eq_some_iff.1 SA.out).1).trans SA.out
    refine ⟨InS.of s1, ?_⟩
    simp only [Act.put, List.setIfInBounds_toArray, List.set_cons_succ, List.set_cons_zero]
    refine wpAnyH_all (rs := [8]) (by kernel_rfl) (by decide) ?_
    intro i hi
    obtain rfl := List.mem_singleton.1 hi
    refine wpOp_call rfl rfl 29 #[.tmp 20, .tmp 23, .tmp 25, .tmp 27] (by intro b w; have hf := Try.func29; simp [go_sem]) #[vl, .int .i64 (s.pa.tdiv 2), .int .i64 s.gr, .float .f64 s.bi] rfl (fun v w' => LeavesOwn x1.heap.size w' v T1 ∧ Below x1.heap.size x1 w') ((HT1.out _ (GSl.below RA.out h1)).mono fun e w' h => by obtain ⟨⟨v, h1, h2⟩, h3⟩ := h; exact ⟨v, h1, h2, h3⟩) (some 28) rfl ?_
    rintro vt x2 ⟨lv2, k2⟩
    have lv2 := leaves_base lv2 (B' := wa.heap.size) h1.size
    have h2 : Below wa.heap.size wa x2 := h1.trans (k2.mono h1.size)
    have s2 : x2.heap[gs]? = some (.cells (stA s) 24 (0, 0)) := (h2.block _ (Array.getElem?_eq_some_iff.1 SA.out).1).trans SA.out
    refine ⟨InS.of s2, ?_⟩
    simp only [Act.put, List.setIfInBounds_toArray, List.set_cons_succ, List.set_cons_zero]
    refine wpAnyH_all (rs := [13]) (by kernel_rfl) (by decide) ?_
    intro i hi
    obtain rfl := List.mem_singleton.1 hi
    refine wpOp_call rfl rfl 30 #[.tmp 32] (by intro b w; have hf := Try.func30; simp [go_sem]) #[.int .i64 s.ro] rfl (fun v w' => v = .int .i64 (s.ro.tdiv 2) ∧ Below x2.heap.size x2 w') ((Hro.out _).mono fun e w' h => ⟨_, h.1, rfl, h.2⟩) (some 33) rfl ?_
    rintro v x3 ⟨rfl, k3⟩
    have h3 : Below wa.heap.size wa x3 := h2.trans (k3.mono h2.size)
    have lv2 := NOwn.below LfR.below lv2 k3
    have s3 : x3.heap[gs]? = some (.cells (stA s) 24 (0, 0)) := (h3.block _ (Array.getElem?_eq_some_iff.1 SA.out).1).trans SA.out
    refine ⟨InS.of s3, ?_⟩
    simp only [Act.put, List.setIfInBounds_toArray, List.set_cons_succ, List.set_cons_zero]
    refine wpAnyH_all (rs := [14]) (by kernel_rfl) (by decide) ?_
    intro i hi
    obtain rfl := List.mem_singleton.1 hi
    refine wpOp_call rfl rfl 28 #[.tmp 28, .tmp 29, .tmp 30, .tmp 33] (by intro b w; have hf := Try.func28; simp [go_sem]) #[vt, vv, vw, .int .i64 (s.ro.tdiv 2)] rfl (fun v w' => (∃ o, IsOrd (keyZ (szL T1)) T1.length o ∧ ∃ v1 er, v = .tuple #[v1, .int .i64 er] ∧ dealtV wa.heap.size w' T1 (DT1 o) v1 er) ∧ Below wa.heap.size x3 w') ((HD1.out _ _ _ _ (h3.size) lv2 (VSl.below VA.out h3) (VSl.below FA.out h3)).mono fun e w' h => by obtain ⟨⟨o, h1, h2⟩, h3⟩ := h; obtain ⟨v1, er, h4, h5⟩ := dealtV_of h2; exact ⟨_, h4, ⟨o, h1, v1, er, rfl, h5⟩, h3⟩) (some 34) rfl ?_
    rintro v x4 ⟨⟨o, ho, v1, er, rfl, hv⟩, k4⟩
    have h4 : Below wa.heap.size wa x4 := h3.trans k4
    have s4 : x4.heap[gs]? = some (.cells (stA s) 24 (0, 0)) := (h4.block _ (Array.getElem?_eq_some_iff.1 SA.out).1).trans SA.out
    refine ⟨InS.of s4, ?_⟩
    simp only [Act.put, List.setIfInBounds_toArray, List.set_cons_succ, List.set_cons_zero]
    refine region_reads 15 3 2 rfl (by kernel_rfl) (by kernel_rfl) (by kernel_rfl) (by intro d v c a w h; exact absurd h.1 (by simp)) (InS.of s4) ?_
    simp only [List.drop_succ_cons, List.drop_zero, List.take_succ_cons, List.take_zero]
    repeat go_big_quiet_step (fail)
    refine wpQuiet_nil ?_
    refine wpAnyH_all (rs := [18]) (by kernel_rfl) (by decide) ?_
    intro i hi
    obtain rfl := List.mem_singleton.1 hi
    refine wpOp_assign rfl rfl _ rfl _ rfl (some 10) rfl ?_
    refine ⟨InS.of s4, ?_⟩
    refine wpAnyH_all (rs := [19]) (by kernel_rfl) (by decide) ?_
    intro i hi
    obtain rfl := List.mem_singleton.1 hi
    refine wpOp_assign rfl rfl _ rfl _ rfl (some 11) rfl ?_
    refine ⟨InS.of s4, ?_⟩
    refine wpAnyH_done (by kernel_rfl) ?_ _
    exact ⟨rfl, v1, er, _, _, _, _, _, _, _, _, _, _, _, _, _, _, _, _, _, _, rfl, ⟨o, ho, hv⟩, InS.of s4, h4⟩
  · rintro a' w' ⟨v, er, y19, y20, y21, y22, y23, y24, y25, y26, y27, y28, y29, y30, y31, y32, y33, y34, y35, y36, rfl, ⟨o, ho, hv⟩, hin, hbq⟩
    have HO : Hid (IsOrd (keyZ (szL T1)) T1.length o) := ho
    have WB : Hid (Below w.heap.size w w') := WA.out.trans (hbq.mono WA.out.size)
    have hsz := WA.out.size
    cases hd : DT1 o with
    | some st =>
      rw [hd] at hv
      obtain ⟨rfl, hlv⟩ := hv
      have RR : Hid (MkP l s lv wl (some (givL T1 st.2 T1.length))) := FIN1.out o st ho hd
      have LV : Hid (LeavesOwn w.heap.size w' v (givL T1 st.2 T1.length)) := leaves_base hlv hsz
      clear hd ho hlv hin hbq
      simp only [Act.put, List.setIfInBounds_toArray, List.set_cons_succ, List.set_cons_zero]
      go_wp2_with fail
      go_ret2
      exact ⟨⟨_, RR.out, v, rfl, LV.out⟩, WB.out⟩
    | none =>
      rw [hd] at hv
      obtain ⟨rfl, rfl⟩ := hv
      have HN : Hid (DT1 o = none) := hd
      have SB : Hid (w'.heap[gs]? = some (.cells (stA s) 24 (0, 0))) := hin.at
      have VB : Hid (ISl w' vv lv) := VSl.below VA.out hbq
      have RB : Hid (RulesAt w' vl l) := GSl.below RA.out hbq
      have FB : Hid (FSl w' vw wl) := VSl.below FA.out hbq
      clear hd ho hin hbq hsz VA RA FA SA WA
      obtain ⟨wa, hwa⟩ : ∃ wa, wa = w' := ⟨_, rfl⟩
      rw [← hwa] at WB SB VB RB FB ⊢
      clear hwa
      have WA := WB
      have SA := SB
      have VA := VB
      have RA := RB
      have FA := FB
      clear WB SB VB RB FB
      obtain ⟨o1, ho1⟩ : ∃ o1, o1 = o := ⟨_, rfl⟩
      rw [← ho1] at HO HN
      clear ho1
      simp only [Act.put, List.setIfInBounds_toArray, List.set_cons_succ, List.set_cons_zero]
      go_upto_region 6 with fail
      refine region_cut (fun a a' w' => ∃ v er y39 y40 y41 y42 y43 y44 y45 y46 y47 y48 y49 y50 y51 y52 y53, a' = ((((((((((((((((a.put (some 39) y39).put (some 40) y40).put (some 41) y41).put (some 42) y42).put (some 43) y43).put (some 44) y44).put (some 45) y45).put (some 46) y46).put (some 47) y47).put (some 48) y48).put (some 49) y49).put (some 50) y50).put (some 51) y51).put (some 52) y52).put (some 53) y53).put (some 10) v).put (some 11) (.int .i64 er) ∧ (∃ o, IsOrd (keyZ (szL T2)) T2.length o ∧ dealtV wa.heap.size w' T2 (DT2 o) v er) ∧ InS gs s w' ∧ Below wa.heap.size wa w') ?_ ?_
      · have ne9 : Nonempty (KeepS gs s) := ⟨⟨wa, SA.out⟩⟩
        have e4 : ∀ z : KeepS gs s, z.world.cell? ⟨gs, 4, none⟩ = some (.int .i64 s.pa) := fun z => (cell_of_row _ _ _ _ _ _ z.k1).trans rfl
        have e7 : ∀ z : KeepS gs s, z.world.cell? ⟨gs, 7, none⟩ = some (.int .i64 s.gr) := fun z => (cell_of_row _ _ _ _ _ _ z.k1).trans rfl
        have e3 : ∀ z : KeepS gs s, z.world.cell? ⟨gs, 3, none⟩ = some (.int .i64 s.ro) := fun z => (cell_of_row _ _ _ _ _ _ z.k1).trans rfl
        have e8 : ∀ z : KeepS gs s, z.world.cell? ⟨gs, 8, none⟩ = some (.float .f64 s.bi) := fun z => (cell_of_row _ _ _ _ _ _ z.k1).trans rfl
        refine region_beginS (InS gs s) 17 rfl (by kernel_rfl) ?_
        refine region_reads 0 5 12 rfl (by kernel_rfl) (by kernel_rfl) (by kernel_rfl) (by intro d v c a w h; exact absurd h.1 (by simp)) (InS.of (w := World.drew wa) SA.out) ?_
        simp only [List.drop_zero, List.take_succ_cons, List.take_zero]
        go_big_quiet_step (rfl)
        go_big_quiet_step (rfl)
        go_big_quiet_step (rfl)
        go_big_quiet_step (rfl)
        go_big_quiet_step (rfl)
        refine wpQuiet_nil ?_
        refine region_reads 6 4 8 rfl (by kernel_rfl) (by kernel_rfl) (by kernel_rfl) (by intro d v c a w h; exact absurd h.1 (by simp)) (InS.of (w := World.drew wa) SA.out) ?_
        simp only [List.drop_succ_cons, List.drop_zero, List.take_succ_cons, List.take_zero]
        go_big_quiet_step (rfl)
        go_big_quiet_step (rfl)
        go_big_quiet_step (rfl)
        go_big_quiet_step (rfl)
        refine wpQuiet_nil ?_
        have hd0 : Below wa.heap.size wa (World.drew wa) := (Below.refl _ _).drew
        refine wpAnyH_all (rs := [5]) (by kernel_rfl) (by decide) ?_
        intro i hi
        obtain rfl := List.mem_singleton.1 hi
        refine wpOp_call rfl rfl 29 #[.tmp 40, .const (.int .i64 1), .tmp 42, .tmp 44] (by intro b w; have hf := Try.func29; simp [go_sem]) #[vl, .int .i64 1, .int .i64 s.gr, .float .f64 s.bi] rfl (fun v w' => LeavesOwn (World.drew wa).heap.size w' v T2 ∧ Below (World.drew wa).heap.size (World.drew wa) w') ((HT2.out _ (GSl.below RA.out hd0)).mono fun e w' h => by obtain ⟨⟨v, h1, h2⟩, h3⟩ := h; exact ⟨v, h1, h2, h3⟩) (some 45) rfl ?_
        rintro vt x1 ⟨lv1, k1⟩
        have lv1 := leaves_base lv1 (B' := wa.heap.size) hd0.size
        have h1 : Below wa.heap.size wa x1 := hd0.trans (k1.mono hd0.size)
        have s1 : x1.heap[gs]? = some (.cells (stA s) 24 (0, 0)) := (h1.block _ (Array.getElem?_eq_some_iff.1 SA.out).1).trans SA.out
        refine ⟨InS.of s1, ?_⟩
        simp only [Act.put, List.setIfInBounds_toArray, List.set_cons_succ, List.set_cons_zero]
        refine wpAnyH_all (rs := [10]) (by kernel_rfl) (by decide) ?_
        intro i hi
        obtain rfl := List.mem_singleton.1 hi
        refine wpOp_call rfl rfl 30 #[.tmp 49] (by intro b w; have hf := Try.func30; simp [go_sem]) #[.int .i64 s.ro] rfl (fun v w' => v = .int .i64 (s.ro.tdiv 2) ∧ Below x1.heap.size x1 w') ((Hro.out _).mono fun e w' h => ⟨_, h.1, rfl, h.2⟩) (some 50) rfl ?_
        rintro v x2 ⟨rfl, k2⟩
        have h2 : Below wa.heap.size wa x2 := h1.trans (k2.mono h1.size)
        have lv1 := NOwn.below LfR.below lv1 k2
        have s2 : x2.heap[gs]? = some (.cells (stA s) 24 (0, 0)) := (h2.block _ (Array.getElem?_eq_some_iff.1 SA.out).1).trans SA.out
        refine ⟨InS.of s2, ?_⟩
        simp only [Act.put, List.setIfInBounds_toArray, List.set_cons_succ, List.set_cons_zero]
        refine wpAnyH_all (rs := [11]) (by kernel_rfl) (by decide) ?_
        intro i hi
        obtain rfl := List.mem_singleton.1 hi
        refine wpOp_call rfl rfl 28 #[.tmp 45, .tmp 46, .tmp 47, .tmp 50] (by intro b w; have hf := Try.func28; simp [go_sem]) #[vt, vv, vw, .int .i64 (s.ro.tdiv 2)] rfl (fun v w' => (∃ o, IsOrd (keyZ (szL T2)) T2.length o ∧ ∃ v1 er, v = .tuple #[v1, .int .i64 er] ∧ dealtV wa.heap.size w' T2 (DT2 o) v1 er) ∧ Below wa.heap.size x2 w') ((HD2.out _ _ _ _ (h2.size) lv1 (VSl.below VA.out h2) (VSl.below FA.out h2)).mono fun e w' h => by obtain ⟨⟨o, h1, h2⟩, h3⟩ := h; obtain ⟨v1, er, h4, h5⟩ := dealtV_of h2; exact ⟨_, h4, ⟨o, h1, v1, er, rfl, h5⟩, h3⟩) (some 51) rfl ?_
        rintro v x3 ⟨⟨o, ho, v1, er, rfl, hv⟩, k3⟩
        have h3 : Below wa.heap.size wa x3 := h2.trans k3
        have s3 : x3.heap[gs]? = some (.cells (stA s) 24 (0, 0)) := (h3.block _ (Array.getElem?_eq_some_iff.1 SA.out).1).trans SA.out
        refine ⟨InS.of s3, ?_⟩
        simp only [Act.put, List.setIfInBounds_toArray, List.set_cons_succ, List.set_cons_zero]
        refine region_reads 12 3 2 rfl (by kernel_rfl) (by kernel_rfl) (by kernel_rfl) (by intro d v c a w h; exact absurd h.1 (by simp)) (InS.of s3) ?_
        simp only [List.drop_succ_cons, List.drop_zero, List.take_succ_cons, List.take_zero]
        repeat go_big_quiet_step (fail)
        refine wpQuiet_nil ?_
        refine wpAnyH_all (rs := [15]) (by kernel_rfl) (by decide) ?_
        intro i hi
        obtain rfl := List.mem_singleton.1 hi
        refine wpOp_assign rfl rfl _ rfl _ rfl (some 10) rfl ?_
        refine ⟨InS.of s3, ?_⟩
        refine wpAnyH_all (rs := [16]) (by kernel_rfl) (by decide) ?_
        intro i hi
        obtain rfl := List.mem_singleton.1 hi
        refine wpOp_assign rfl rfl _ rfl _ rfl (some 11) rfl ?_
        refine ⟨InS.of s3, ?_⟩
        refine wpAnyH_done (by kernel_rfl) ?_ _
        exact ⟨rfl, v1, er, _, _, _, _, _, _, _, _, _, _, _, _, _, _, _, rfl, ⟨o, ho, hv⟩, InS.of s3, h3⟩
      · rintro a' w' ⟨v, er, y39, y40, y41, y42, y43, y44, y45, y46, y47, y48, y49, y50, y51, y52, y53, rfl, ⟨o, ho, hv⟩, hin, hbq⟩
        have WB : Hid (Below w.heap.size w w') := WA.out.trans (hbq.mono WA.out.size)
        have hsz := WA.out.size
        have RR : Hid (MkP l s lv wl ((DT2 o).map fun st => givL T2 st.2 T2.length)) := FIN2.out o1 o HO.out HN.out ho
        cases hd : DT2 o with
        | some st =>
          rw [hd] at hv RR
          obtain ⟨rfl, hlv⟩ := hv
          have LV : Hid (LeavesOwn w.heap.size w' v (givL T2 st.2 T2.length)) := leaves_base hlv hsz
          clear hd ho hlv hin hbq
          simp only [Act.put, List.setIfInBounds_toArray, List.set_cons_succ, List.set_cons_zero]
          go_wp2_with fail
          go_ret2
          exact ⟨⟨_, RR.out, v, rfl, LV.out⟩, WB.out⟩
        | none =>
          rw [hd] at hv RR
          obtain ⟨rfl, rfl⟩ := hv
          clear hd ho hin hbq
          simp only [Act.put, List.setIfInBounds_toArray, List.set_cons_succ, List.set_cons_zero]
          go_wp2_with fail
          go_ret2
          exact ⟨⟨_, RR.out, rfl⟩, WB.out⟩
end Go.Proofs.Ytpbinkmeldkehaa
namespace Go.Proofs.Ytpbinkmeldkehaa
open Go Go.Lib Go.RowKit
set_option maxRecDepth 20000

/-! law14.small and law14.awake. -/
theorem retA14 {E : Ag} (H : E.Ok) {fn : Func} {R : Ending → World → Prop} {a : Act} {w : World} {p : Tmp} (hr : fn.results = #[.cell p E.elem]) (hd : a.defers = []) (g : Nat) (hp : a.tmps.getD p undef = .pointer (some ⟨g, 0, none⟩)) (cs : Array Value) (hcs : cs.size = E.size)
    (hg : w.heap[g]? = some (.cells cs E.elem (0, 0))) (h : R (.returned (.agg cs)) w) : bodyPost Try.prog fn R .ret a w := by
  refine bodyPost_ret (v := .agg cs) ?_ hd h
  rw [Array.getD_eq_getD_getElem?] at hp
  have hl := H.load w g 0 cs E.elem (0, 0) cs hcs hg (own_cells _ _)
  simp [results, hr, hp, asAddr, hl]
def smallS : Stp := ⟨3, 3, 2, 4, 4, 0, 0, 1, 0, 4, 64, 4, 1, 2, 1, 3, 3⟩
set_option maxHeartbeats 8000000 in
set_option maxRecDepth 100000 in
theorem small_any (w : World) : Calls Try.prog 24 #[] w fun e w' => e = .returned (.agg (stA smallS)) ∧ Below w.heap.size w w' := by
  have BA : Hid (Below w.heap.size w (w.alloc (.cells (stA smallS) 24))) := (Below.refl _ _).alloc (Nat.le_refl _) _
  have SA : Hid ((w.alloc (.cells (stA smallS) 24)).heap[w.heap.size]? = some (.cells (stA smallS) 24 (0, 0))) := heap_new _ _ _ rfl
  go_enter Try.func24, Try.ntmps24
  go_wp2_with (refine wl_storeA StpOk rfl _ _ rfl w.heap.size (stA smallS) (st_fits _) rfl rfl stZ (heap_new _ _ _ rfl) rfl _ (setRow_new _ _ _ _ _ rfl) ?_)
  refine retA14 StpOk (p := 0) rfl rfl w.heap.size rfl (stA smallS) rfl SA.out ⟨rfl, BA.out⟩
def exM14 : List Int := [128, 0, 0, 0, 0, 0, 0, 0, 0, 0, 0, 0, 0]
def exA : RuleM := ⟨0, (Z, exM14), 1⟩
def exB : RuleM := ⟨1, (Z, Z), 2⟩
def exS : Stp := ⟨3, 3, 2, 4, 2, 0, 0, 1, 0, 4, 64, 4, 1, 2, 1, 3, 3⟩
theorem tree_one (b : Nat) (L G : Int) (hL : L ≤ 1) (l : List RuleM) : treeT b L G l = [⟨(Z, Z), 0, 0, clipT Z Z l⟩] := by
  rw [treeT_ref, ref_full (by simpa using hL)]
theorem ord_one14 {K : Nat → Int} {o : List Nat} (h : IsOrd K 1 o) : o = [0] := ord_one h ⟨fun i => by simp, by simp⟩
set_option maxRecDepth 100000 in
theorem ex_clip14 : (clipT Z Z [exA, exB]).length = 2 := by kernel_rfl
set_option maxRecDepth 1000000 in
theorem ex_deal14 : (dealF (thT [2, 3]) (wtT []) 2 (cntT (thT [2, 3])) (fun i => max (([2] : List Int).getD i 0) 0) [0] (fun _ => 0) (fun _ => (0, 0))).map (fun st => st.2 0) = some (2, 3) := by kernel_rfl
theorem mk_ex (R : Option (List LeafM)) (h : MkP [exA, exB] exS [2, 3] [] R) : R = some [⟨(Z, Z), 2, 3, clipT Z Z [exA, exB]⟩] := by
  obtain ⟨o1, ho, hm⟩ := h
  have ht : tr1 exS [exA, exB] = [⟨(Z, Z), 0, 0, clipT Z Z [exA, exB]⟩] := tree_one _ _ _ (by decide) _
  rw [ht] at ho hm
  obtain rfl := ord_one14 ho
  have hd := ex_deal14
  have e : dealO [⟨(Z, Z), 0, 0, clipT Z Z [exA, exB]⟩] [2, 3] [] (exS.ro.tdiv 2) [0] = dealF (thT [2, 3]) (wtT []) 2 (cntT (thT [2, 3])) (fun i => max (([2] : List Int).getD i 0) 0) [0] (fun _ => 0) (fun _ => (0, 0)) := by
    unfold dealO szL
    rw [List.map_cons, List.map_nil]
    dsimp only
    rw [ex_clip14]
    rfl
  rw [e] at hm
  cases hq : dealF (thT [2, 3]) (wtT []) 2 (cntT (thT [2, 3])) (fun i => max (([2] : List Int).getD i 0) 0) [0] (fun _ => 0) (fun _ => (0, 0)) with
  | none => rw [hq] at hd; simp at hd
  | some st =>
    rw [hq] at hd hm
    have h0 : st.2 0 = (2, 3) := by simpa using hd
    have hm : R = some (givL [⟨(Z, Z), 0, 0, clipT Z Z [exA, exB]⟩] st.2 1) := hm
    rw [hm]
    unfold givL
    simp [h0]
set_option maxRecDepth 100000 in
theorem exM_fix : exM14 = fixM Z 0 := by kernel_rfl
theorem exM_byt : Byt exM14 := by rw [exM_fix]; exact setb_byt _ _ _
set_option maxHeartbeats 8000000 in
set_option maxRecDepth 100000 in
theorem awake14_any (w : World) : Calls Try.prog 9 #[] w fun e w' => e = .returned (.bool true) ∧ Below w.heap.size w w' := by
  have SM : Hid (∀ W, Calls Try.prog 24 #[] W fun e w' => e = .returned (.agg (stA smallS)) ∧ Below W.heap.size W w') := fun W => small_any W
  have RI : Hid (∀ W, Calls Try.prog 10 #[.agg (stA exS)] W fun e w' => e = .returned (.bool true) ∧ Below W.heap.size W w') := fun W => by
    have := right_any exS W
    rw [show rightT exS = true by kernel_rfl] at this
    exact this
  have hokA : okR8 exA := ⟨Z_byt, exM_byt⟩
  have hokB : okR8 exB := ⟨Z_byt, Z_byt⟩
  have hsA := ruleV_size hokA
  have hsB := ruleV_size hokB
  have MK : Hid (∀ W vl vv, RulesAt W vl [exA, exB] → ISl W vv [2, 3] → Calls Try.prog 12 #[vl, .agg (stA exS), vv, .slice none 0 0] W fun e w' => (∃ v, e = .returned (.tuple #[v, .int .i64 0]) ∧ LeavesOwn W.heap.size w' v [⟨(Z, Z), 2, 3, clipT Z Z [exA, exB]⟩]) ∧ Below W.heap.size W w') := fun W vl vv h1 h2 => by
    refine (make_yes [exA, exB] (fun r hr => by simp at hr; rcases hr with rfl | rfl; exact hokA; exact hokB) (by simp) exS (by kernel_rfl) (by unfold Wd; decide) [2, 3] (by simp) [] (fun x hx => by simp at hx) vl vv _ W h1 h2 (vsl_nil W)).mono ?_
    rintro e w' ⟨⟨R, hR, hm⟩, hb⟩
    have hc : cntL exS.au [2, 3] = [2, 3] := by decide
    rw [hc] at hR
    rw [mk_ex R hR] at hm
    exact ⟨hm, hb⟩
  have brA : ∀ W, (Instr.build 44 #[(1, .agg (cv Z exM14)), (2, .int .i64 1)]).run Try.prog W = .ok (.agg (ruleV exA)) W := fun W => build_r0 Z exM14 Z_byt.1 rfl W
  have brB : ∀ W, (Instr.build 44 #[(0, .int .i64 1), (2, .int .i64 2)]).run Try.prog W = .ok (.agg (ruleV exB)) W := fun W => build_r1 W
  go_enter Try.func9, Try.ntmps9
  go_wp2_with fail
  refine (SM.out _).mono ?_
  rintro e w1 ⟨rfl, B1⟩
  have B1 : Hid (Below w.heap.size w w1) := B1
  obtain ⟨w2, hw2⟩ : ∃ w2, w2 = w1.alloc (.cells (stA smallS) 24) := ⟨_, rfl⟩
  have g2 : w2.heap[w1.heap.size]? = some (.cells (stA smallS) 24 (0, 0)) := by rw [hw2]; exact heap_new _ _ _ rfl
  have B2 : Hid (Below w.heap.size w w2) := by show Below _ _ _; rw [hw2]; exact B1.out.alloc B1.out.size _
  go_wp2_with (refine wl_storeA StpOk rfl _ _ rfl w1.heap.size (stA smallS) (st_fits _) rfl rfl stZ (heap_new _ _ _ rfl) rfl _ (setRow_new _ _ _ _ _ rfl) ?_; refine of_stopT ?_)
  unfold StopT
  rw [← hw2]
  clear hw2
  have hge : Hid (w.heap.size ≤ w1.heap.size) := B1.out.size
  generalize w1.heap.size = q at *
  have c4 := (st_cells g2).2.2.2.2.1
  have f4 : w2.frozen? ⟨q, 4, none⟩ = false := by simp [World.frozen?, g2]
  obtain ⟨w3, hw3⟩ : ∃ w3, w3 = w2.setCell ⟨q, 4, none⟩ (.int .i64 2) := ⟨_, rfl⟩
  have g3 : w3.heap[q]? = some (.cells (stA exS) 24 (0, 0)) := by
    rw [hw3]
    simp [World.setCell, Array.getElem?_modify, g2]
    rfl
  have B3 : Hid (Below w.heap.size w w3) := by show Below _ _ _; rw [hw3]; exact B2.out.setCell (p := ⟨q, 4, none⟩) hge.out _
  go_upto_region 3 with fail
  rw [← hw3]
  clear hw3 g2 c4 f4 B2
  go_wp2_with (refine wl_loadA StpOk rfl _ rfl q 0 rfl _ _ _ (stA exS) rfl (heap_past _ _ _ _ g3) (own_cells _ _) ?_)
  have key : ∀ cs : Array Value, cs = ruleV exA ++ ruleV exB → RulesAt ((w3.alloc (.cells cs 44)).alloc (.cells #[.int .i64 2, .int .i64 3] 3)) (.slice (some ⟨w3.heap.size, 0, none⟩) 2 2) [exA, exB] := by
    rintro cs rfl
    refine GSl.below (w := w3.alloc (.cells (ruleV exA ++ ruleV exB) RuleE.elem)) ?_ ((Below.refl _ _).alloc (Nat.le_refl _) _)
    refine RulesAt.own (B := w.heap.size) (fun r hr => by simp at hr; rcases hr with rfl | rfl; exact hokA; exact hokB) ?_
    have h := World.ownsRow_lit (base := w.heap.size) (e := RuleE.elem) (size := 28) w3 (ruleV exA ++ ruleV exB) 2 B3.out.size (by unfold maxLen; omega) (by simp [hsA, hsB])
    have e : gcells ruleV [exA, exB] = (ruleV exA ++ ruleV exB).toList := by unfold gcells; simp
    rw [e]
    exact h
  have keyI : ∀ cs : Array Value, ISl ((w3.alloc (.cells cs 44)).alloc (.cells #[.int .i64 2, .int .i64 3] 3)) (.slice (some ⟨w3.heap.size + 1, 0, none⟩) 2 2) [2, 3] := fun cs => by
    have hg : ((w3.alloc (.cells cs 44)).alloc (.cells #[.int .i64 2, .int .i64 3] 3)).heap[w3.heap.size + 1]? = some (.cells #[.int .i64 2, .int .i64 3] 3 (0, 0)) := heap_new _ _ _ (by simp)
    exact ⟨some ⟨w3.heap.size + 1, 0, none⟩, 2, rfl, by decide, by decide, (fun e => by cases e), fun i hi => ⟨w3.heap.size + 1, 0, _, _, _, rfl, hg, by
      have hi2 : i < 2 := hi
      rcases (show i = 0 ∨ i = 1 by omega) with rfl | rfl <;> rfl⟩⟩
  have keyB : ∀ cs : Array Value, Below w.heap.size w ((w3.alloc (.cells cs 44)).alloc (.cells #[.int .i64 2, .int .i64 3] 3)) := fun cs => (B3.out.alloc B3.out.size _).alloc (by have := B3.out.size; simp; omega) _
  have keyG : ∀ cs : Array Value, ((w3.alloc (.cells cs 44)).alloc (.cells #[.int .i64 2, .int .i64 3] 3)).heap[q]? = some (.cells (stA exS) 24 (0, 0)) := fun cs => heap_past _ _ _ _ (heap_past _ _ _ _ g3)
  refine (MK.out _ _ _ (key _ (by kernel_rfl)) (keyI _)).mono ?_
  rintro e w5 ⟨⟨v, rfl, hv⟩, hb5⟩
  have B5 : Hid (Below w.heap.size w w5) := (keyB _).trans (hb5.mono (keyB _).size)
  have G5 : Hid (w5.heap[q]? = some (.cells (stA exS) 24 (0, 0))) := (hb5.block _ (Array.getElem?_eq_some_iff.1 (keyG _)).1).trans (keyG _)
  clear key keyI keyB keyG hb5 g3 B3 MK SM
  obtain ⟨o, cap, rfl, hc1, hc2⟩ := leaves_own_slice hv
  obtain ⟨g, off, cur, ty, fr, x, u, rfl, hg, hc, hxk, hxu⟩ := (leaves_sl hv).at 0 (by simp)
  obtain rfl : (⟨(Z, Z), 2, 3, clipT Z Z [exA, exB]⟩ : LeafM) = x := by simpa using hxk
  obtain ⟨o2, cap2, rfl⟩ := hxu.slice
  have c26 : w5.cell? ⟨g, off + 26, none⟩ = some (.int .i64 2) := by
    rw [cell_of_row _ _ _ _ _ _ hg]
    have := hc 26 (by decide)
    rw [(leaf_at hxu.1 _).2.1] at this
    rw [← this]
    congr 1
  have c27 : w5.cell? ⟨g, off + 27, none⟩ = some (.int .i64 3) := by
    rw [cell_of_row _ _ _ _ _ _ hg]
    have := hc 27 (by decide)
    rw [(leaf_at hxu.1 _).2.2.1] at this
    rw [← this]
    congr 1
  have c28 : w5.cell? ⟨g, off + 28, none⟩ = some (.slice o2 2 cap2) := by
    rw [cell_of_row _ _ _ _ _ _ hg]
    have := hc 28 (by decide)
    rw [(leaf_at hxu.1 _).2.2.2] at this
    have hl : (⟨(Z, Z), 2, 3, clipT Z Z [exA, exB]⟩ : LeafM).rules.length = 2 := ex_clip14
    rw [hl] at this
    rw [← this]
    congr 1
  unfold maxLen at hc2
  simp only [List.length_cons, List.length_nil] at hc1 ⊢
  clear hv hg hc hxk hxu
  go_wp2_with (refine wl_loadA StpOk rfl _ rfl q 0 rfl _ _ _ (stA exS) rfl G5.out (own_cells _ _) ?_)
  refine (RI.out _).mono ?_
  rintro e w6 ⟨rfl, hb6⟩
  have B6 : Hid (Below w.heap.size w w6) := B5.out.trans (hb6.mono B5.out.size)
  clear hb6
  go_wp2_with fail
  go_ret
  exact ⟨rfl, B6.out⟩
end Go.Proofs.Ytpbinkmeldkehaa
