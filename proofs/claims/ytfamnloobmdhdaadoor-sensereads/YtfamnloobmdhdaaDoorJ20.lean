import Derived.Test.YtfamnloobmdhdaaDoorJ19
import Derived.Test.YtfamnloobmdhdaaDoorJ18
import Derived.Test.YtfamnloobmdhdaaDoorJ17
namespace Go.Proofs.YtfamnloobmdhdaaDoor
open Go Go.RowKit
set_option maxRecDepth 20000

theorem wl_build0E {E : El} (H : E.Ok) {ops : Array Oper} {rest : List Oper} {o : Oper} {a : Act} {w : World} {Q : Exit → Act → World → Prop} (hg : o.guard = none) (ho : o.op = .buildSlice E.slice 0 #[])
    (h : wpList Tryd.prog ops Q rest (a.put o.dst (.slice (some ⟨w.heap.size, 0, none⟩) 0 0)) (w.alloc (.cells #[] E.elem))) : wpList Tryd.prog ops Q (o :: rest) a w := by
  obtain ⟨ie, hie, hz, hs, _⟩ := H.info
  refine wpList_plain hg fun _ hK => ?_
  unfold Oper.wp execOp
  have hrun : (Instr.buildSlice E.slice 0 #[]).run Tryd.prog w = .ok (.slice (some ⟨w.heap.size, 0, none⟩) 0 0) (w.alloc (.cells #[] E.elem)) := by
    have h0 : Array.range 0 = #[] := Array.eq_empty_of_size_eq_zero (by simp)
    simp [Instr.buildSlice, run_underlying H.hs, sizeOf, typeInfo, hie, Instr.fill, newRow, h0]
  simp only [ho, Sem.run_bind, List.map_toArray, List.map_nil, hrun, Result.andThen_ok]
  exact hK _ _ h
theorem wl_atL {P : Program} {ops : Array Oper} {Q : Exit → Act → World → Prop} {o : Oper} {rest : List Oper} {a : Act} {w : World} (x : Operand) (_ : o.guard = none) (_ : o.op = .load 51 x) (h : wpList P ops Q (o :: rest) a w) : wpList P ops Q (o :: rest) a w := h
theorem ents_none (B : Nat) (w : World) (h : B ≤ w.heap.size) : EntsOwn B (w.alloc (.cells #[] 35)) [] (.slice (some ⟨w.heap.size, 0, none⟩) 0 0) := World.ownsRow_lit w #[] 0 h (by decide) rfl
theorem chk_err {size : Int} {k : Nat} {had : Bool} {r : Raw} {L : List Raw} {m : List Ent} {P : List Ent × Int × Int} (HP : P = outC (checkGo size 0 false L)) (HC : checkGo size 0 false L = (checkGo size k had (L.drop k)).map fun y => m ++ y) (HD : L.drop k = r :: L.drop (k + 1)) {a b : Int} (h : rowF k had r = (a, b)) (ha : a ≠ 0) : P = ([], a, b) := by
  obtain ⟨e, h1, h2⟩ := check_bad size k had r (L.drop (k + 1)) (by rw [h]; exact ha)
  rw [HP, HC, HD, h1]
  rw [h] at h2 ⊢
  simp only at h2
  rw [h2]
  rfl
theorem chk_go {size : Int} {k : Nat} {had : Bool} {r : Raw} {L : List Raw} {m : List Ent} (HC : checkGo size 0 false L = (checkGo size k had (L.drop k)).map fun y => m ++ y) (HD : L.drop k = r :: L.drop (k + 1)) {b : Int} (h : rowF k had r = (0, b)) : (checkGo size 0 false L = (checkGo size (k + 1) (had || r.dflt) (L.drop (k + 1))).map fun y => (m ++ [meaning r]) ++ y) ∧ rightR r := by
  obtain ⟨h1, h2, -⟩ := check_good size k had r (L.drop (k + 1)) (by rw [h])
  exact ⟨by rw [HC, HD, h1, map_app], h2⟩
theorem row_many {k : Nat} {had : Bool} {r : Raw} (h : 64 ≤ k) : rowF k had r = (4, r.pos) := by unfold rowF orF; simp [h]
theorem row_twice {k : Nat} {r : Raw} (h : ¬ 64 ≤ k) (hd : r.dflt = true) : rowF k true r = (9, r.pos) := by unfold rowF orF; simp [h, hd]
theorem row_fault {k : Nat} {had : Bool} {r : Raw} (h : ¬ 64 ≤ k) (hd : r.dflt = false) (hf : (fltR (faultR r)).1 ≠ 0) : rowF k had r = ((fltR (faultR r)).1, (fltR (faultR r)).2) := by unfold rowF orF lineF; simp [h, hd, hf]
theorem row_act {k : Nat} {had : Bool} {r : Raw} (h : ¬ 64 ≤ k) (h2 : (had && r.dflt) = false) (h3 : (lineF r).1 = 0) : rowF k had r = orF (actF r) (0, 0) := by unfold rowF; simp only [orF]; simp [h, h2, h3]
theorem line_dflt {r : Raw} (h : r.dflt = true) : (lineF r).1 = 0 := by unfold lineF; rw [h]; rfl
theorem line_ok {r : Raw} (h : (fltR (faultR r)).1 = 0) : (lineF r).1 = 0 := by unfold lineF; split <;> first | rfl | exact h
theorem act_port {r : Raw} (hd : r.drop = false) (h : (decide (r.port.n < 1) || decide (99 < r.port.n)) = true) : orF (actF r) (0, 0) = (10, r.port.pos) := by unfold actF orF; rw [hd, h]; rfl
theorem act_drop {r : Raw} (hd : r.drop = true) : orF (actF r) (0, 0) = (0, 0) := by unfold actF orF; rw [hd]; rfl
theorem act_fit {r : Raw} (h : (decide (r.port.n < 1) || decide (99 < r.port.n)) = false) : orF (actF r) (0, 0) = (0, 0) := by unfold actF orF; rw [h, Bool.and_false]; rfl

set_option maxHeartbeats 32000000 in
set_option maxRecDepth 100000 in
theorem rcheck_any (l : List Raw) (vl : Value) (size : Int) (w : World) (hl : RawsAt w vl l) :
    Calls Tryd.prog 15 #[vl, .int .i64 size] w fun e w' => ∃ v, e = .returned (.tuple #[v, .int .i64 (checkP size l).2.1, .int .i64 (checkP size l).2.2]) ∧ EntsOwn w.heap.size w' (checkP size l).1 v ∧ Below w.heap.size w w' := by
  have FA : Hid (∀ (x : Raw) (u : Value) W, ClasAt W x u → Calls Tryd.prog 30 #[.agg (rawV x u)] W fun e w' => e = .returned (.tuple #[.int .i64 (fltR (faultR x)).1, .int .i64 (fltR (faultR x)).2]) ∧ Below W.heap.size W w') := fun x u W h => rfault_any x u W h
  have ME : Hid (∀ (x : Raw) (u : Value) W, ClasAt W x u → rightR x → Calls Tryd.prog 31 #[.agg (rawV x u)] W fun e w' => e = .returned (.agg (entV (meaning x))) ∧ Below W.heap.size W w') := fun x u W h1 h2 => rmeaning_any x u W h1 h2.rule
  obtain ⟨o, cap, rfl, hc1, hc2⟩ := NSl.slice hl
  obtain ⟨n, hn⟩ : ∃ n, n = l.length := ⟨_, rfl⟩
  have HN : Hid (n = l.length) := hn
  rw [← hn] at hl hc1 ⊢
  have HL : Hid (RawsAt w (.slice o n cap) l) := hl
  unfold maxLen at hc2
  obtain ⟨P, hP⟩ : ∃ P, P = checkP size l := ⟨_, rfl⟩
  have HP : Hid (P = outC (checkGo size 0 false l)) := hP
  rw [← hP]
  clear hl hn hP
  go_enter Tryd.func15, Tryd.ntmps15
  go_wp2_with (first
    | (refine wl_build0E (E := EntE) EntOk rfl rfl ?_))
  go_loopw [7, 8, 9] (fun v b i wr => ∃ (k : Nat) (had : Bool) (m : List Ent), k ≤ n ∧ k ≤ 64 ∧ i = .int .i64 (k : Int) ∧ b = .bool had ∧ m.length = k ∧ Hid (checkGo size 0 false l = (checkGo size k had (l.drop k)).map fun y => m ++ y) ∧ EntsOwn w.heap.size wr m v ∧ Below w.heap.size w wr) (fun _ _ i _ => n - (intOf i).toNat)
  case atStart => exact ⟨0, false, [], Nat.zero_le _, Nat.zero_le _, rfl, rfl, rfl, (by show _ = _; rw [List.drop_zero, map_nil']), ents_none _ _ (Nat.le_refl _), (Below.refl _ _).alloc (Nat.le_refl _) _⟩
  case round =>
    obtain ⟨k, had, m, hk, hk64, rfl, rfl, hm, HC, hown, hb⟩ := hrel
    have HO : Hid (EntsOwn w.heap.size wr m u7) := hown
    have HB : Hid (Below w.heap.size w wr) := hb
    have HM : Hid (m.length = k) := hm
    clear hown hb hm
    by_cases hlt : k < n
    · have hlt' : (k : Int) < (n : Int) := by omega
      obtain ⟨g, off, cur, ty, fr, r, u', rfl, hg, hc, hCk, hcl⟩ := NSl.at (NSl.below clas_below HL.out HB.out) k hlt
      have HD : Hid (l.drop k = r :: l.drop (k + 1)) := by
        obtain ⟨hk', rfl⟩ := List.getElem?_eq_some_iff.1 hCk
        exact List.drop_eq_getElem_cons hk'
      have K1 : Hid (wr.heap[g]? = some (.cells cur ty fr)) := hg
      have H1 : Hid (∀ i, i < 8 → cur[off + k * 8 + i]? = (rawV r u')[i]?) := hc
      have HF : Hid (ClasAt wr r u') := hcl
      obtain ⟨o1, cap1, rfl, -, -⟩ := NSl.slice hcl
      obtain ⟨n1, hn1⟩ : ∃ n1, n1 = r.clauses.length := ⟨_, rfl⟩
      rw [← hn1] at HF H1
      obtain ⟨W1, hW1⟩ : ∃ W1, W1 = wr.alloc (.cells (rawV r (.slice o1 n1 cap1)) 51) := ⟨_, rfl⟩
      have BN : Hid (Below wr.heap.size wr W1) := by rw [hW1]; exact (Below.refl _ _).alloc (Nat.le_refl _) _
      have KN : Hid (W1.heap[wr.heap.size]? = some (.cells (rawV r (.slice o1 n1 cap1)) 51 (0, 0))) := by rw [hW1]; exact heap_new _ _ _ rfl
      have HFN : Hid (ClasAt W1 r (.slice o1 n1 cap1)) := clas_below _ _ _ _ BN.out HF.out
      have BW1 : Hid (Below w.heap.size w W1) := HB.out.trans (BN.out.mono HB.out.size)
      have HO1 : Hid (EntsOwn w.heap.size W1 m u7) := gown_below HO.out BN.out
      clear hg hc hCk hcl hn1
      have hd1 := (raw_f KN.out).2.1
      by_cases h64 : 64 ≤ k
      · have h64' : (64 : Int) ≤ (k : Int) := by omega
        have HPE : Hid (P = ([], 4, r.pos)) := chk_err HP.out HC.out HD.out (row_many h64) (by decide)
        have lp : ∀ u : Later W1, u.world.cell? ⟨wr.heap.size, 0, none⟩ = some (.int .i64 r.pos) := later_cell7 KN.out rfl
        clear h64
        go_wp2_with (first
          | ((with_reducible refine wl_atL _ rfl rfl ?_); refine wl_loadE (E := RawE) RawOk rfl _ rfl g (off + k * 8) rfl cur ty fr (rawV r (.slice o1 n1 cap1)) rfl K1.out H1.out ?_)
          | (refine wl_storeE (E := RawE) RawOk rfl _ _ rfl wr.heap.size (rawV r (.slice o1 n1 cap1)) ⟨rfl, by simp [rawV, Value.oneCell']⟩ rfl rfl _ (heap_new _ _ _ rfl) rfl _ (setRow_new _ _ _ _ _ rfl) ?_))
        rw [← hW1]
        have ne1 := Later.ne W1
        refine wp_region_later (by kernel_rfl) (by kernel_rfl) ?_
        repeat go_big_quiet_step (rfl)
        refine wpQuiet_nil ?_
        rintro w' ⟨v, rfl⟩
        go_wp2_with fail
        go_ret3
        rw [HPE.out]
        exact ⟨_, rfl, World.ownsRow_nil _ _ _ _, BW1.out.trans (v.below.mono BW1.out.size)⟩
      · have h64' : ¬ (64 : Int) ≤ (k : Int) := by omega
        have HK64 : Hid (¬ 64 ≤ k) := h64
        clear h64
        cases hdf : r.dflt with
        | true =>
          have hdf' := hdf
          rw [hdf] at hd1
          have HLT : Hid (k < n) := hlt
          clear hlt
          cases had with
          | true =>
            have HPE : Hid (P = ([], 9, r.pos)) := chk_err HP.out HC.out HD.out (row_twice HK64.out hdf) (by decide)
            have lp : ∀ u : Later W1, u.world.cell? ⟨wr.heap.size, 0, none⟩ = some (.int .i64 r.pos) := later_cell7 KN.out rfl
            rw [hW1] at hd1
            go_wp2_with (first
              | ((with_reducible refine wl_atL _ rfl rfl ?_); refine wl_loadE (E := RawE) RawOk rfl _ rfl g (off + k * 8) rfl cur ty fr (rawV r (.slice o1 n1 cap1)) rfl K1.out H1.out ?_)
              | (refine wl_storeE (E := RawE) RawOk rfl _ _ rfl wr.heap.size (rawV r (.slice o1 n1 cap1)) ⟨rfl, by simp [rawV, Value.oneCell']⟩ rfl rfl _ (heap_new _ _ _ rfl) rfl _ (setRow_new _ _ _ _ _ rfl) ?_)
              | ((with_reducible refine wl_atL _ rfl rfl ?_); refine wl_loadE (E := RawE) RawOk rfl _ rfl wr.heap.size 0 rfl _ _ _ (rawV r (.slice o1 n1 cap1)) rfl (heap_new _ _ _ rfl) (own_cells _ _) ?_))
            rw [← hW1]
            have ne1 := Later.ne W1
            refine wp_region_later (by kernel_rfl) (by kernel_rfl) ?_
            repeat go_big_quiet_step (rfl)
            refine wpQuiet_nil ?_
            rintro w' ⟨v, rfl⟩
            go_wp2_with fail
            go_ret3
            rw [HPE.out]
            exact ⟨_, rfl, World.ownsRow_nil _ _ _ _, BW1.out.trans (v.below.mono BW1.out.size)⟩
          | false =>
            rw [hW1] at hd1
            go_wp2_with (first
              | ((with_reducible refine wl_atL _ rfl rfl ?_); refine wl_loadE (E := RawE) RawOk rfl _ rfl g (off + k * 8) rfl cur ty fr (rawV r (.slice o1 n1 cap1)) rfl K1.out H1.out ?_)
              | (refine wl_storeE (E := RawE) RawOk rfl _ _ rfl wr.heap.size (rawV r (.slice o1 n1 cap1)) ⟨rfl, by simp [rawV, Value.oneCell']⟩ rfl rfl _ (heap_new _ _ _ rfl) rfl _ (setRow_new _ _ _ _ _ rfl) ?_)
              | ((with_reducible refine wl_atL _ rfl rfl ?_); refine wl_loadE (E := RawE) RawOk rfl _ rfl wr.heap.size 0 rfl _ _ _ (rawV r (.slice o1 n1 cap1)) rfl (heap_new _ _ _ rfl) (own_cells _ _) ?_))
            rw [← hW1]
            obtain ⟨F, hF⟩ : ∃ F : Int × Int, F = fltR (faultR r) := ⟨_, rfl⟩
            have HFE : Hid (F = fltR (faultR r)) := hF
            have FC : Hid (∀ W u, ClasAt W r u → Calls Tryd.prog 30 #[.agg (rawV r u)] W fun e w' => e = .returned (.tuple #[.int .i64 F.1, .int .i64 F.2]) ∧ Below W.heap.size W w') := fun W u h => by rw [hF]; exact FA.out r u W h
            clear hF
            refine (FC.out _ _ HFN.out).mono ?_
            rintro e W3 ⟨rfl, hb3⟩
            have BW3 : Hid (Below w.heap.size w W3) := BW1.out.trans (hb3.mono BW1.out.size)
            have hsz : wr.heap.size < W1.heap.size := (Array.getElem?_eq_some_iff.1 KN.out).1
            have K3 : Hid (W3.heap[wr.heap.size]? = some (.cells (rawV r (.slice o1 n1 cap1)) 51 (0, 0))) := (hb3.block _ hsz).trans KN.out
            have HF3 : Hid (ClasAt W3 r (.slice o1 n1 cap1)) := clas_below _ _ _ _ hb3 HFN.out
            have HO3 : Hid (EntsOwn w.heap.size W3 m u7) := gown_below HO1.out hb3
            obtain ⟨-, e1, -, -, e5, e6⟩ := raw_f K3.out
            rw [hdf] at e1
            have HDF : Hid (r.dflt = true) := hdf
            clear hb3 hsz KN HFN HO1 BW1 BN K1 H1 HF hW1 hdf
            have HRA : Hid (rowF k false r = orF (actF r) (0, 0)) := row_act HK64.out (by rfl) (line_dflt HDF.out)
            cases hdr : r.drop with
            | true =>
              obtain ⟨hc2', hrt⟩ := chk_go HC.out HD.out (HRA.out.trans (act_drop hdr))
              rw [HDF.out] at hc2'
              have HC2 : Hid (checkGo size 0 false l = (checkGo size (k + 1) true (l.drop (k + 1))).map fun y => (m ++ [meaning r]) ++ y) := hc2'
              have HRT : Hid (rightR r) := hrt
              rw [hdr] at e5
              clear hc2' hrt hdr
              go_wp2_with (first
                | ((with_reducible refine wl_atL _ rfl rfl ?_); refine wl_loadE (E := RawE) RawOk rfl _ rfl wr.heap.size 0 rfl _ _ _ (rawV r (.slice o1 n1 cap1)) rfl K3.out (own_cells _ _) ?_))
              refine (ME.out _ _ _ HF3.out HRT.out).mono ?_
              rintro e w2 ⟨rfl, hb2⟩
              have B2 : Hid (Below w.heap.size w w2) := BW3.out.trans (hb2.mono BW3.out.size)
              have HO2 : Hid (EntsOwn w.heap.size (w2.alloc (.cells (entV (meaning r)) 35)) m u7) := (gown_below HO3.out hb2).alloc _
              clear hb2
              go_wp2_with (first
                | (refine wl_buildE (E := EntE) EntOk rfl _ rfl (entV (meaning r)) rfl rfl ?_)
                | (at_builtin; refine of_stopT ?_))
              unfold StopT
              refine wl_appendE (E := EntE) EntOk entV rfl _ _ rfl w.heap.size u7 m (meaning r) (ent_fits _) rfl HO2.out w2.heap.size 1 rfl (heap_new _ _ _ rfl) (by have := HM.out; omega) (by have := B2.out.size; simp; omega) ?_
              intro v' w3 hown3 hgr3 _
              have B3 : Hid (Below w.heap.size w w3) := (B2.out.alloc B2.out.size _).trans ((Below.refl _ _).grown hgr3 (B2.out.alloc B2.out.size _).size fun k hk => (HO2.out.lt k hk).1)
              have HOZ : Hid (EntsOwn w.heap.size w3 (m ++ [meaning r]) v') := hown3
              clear hown3 hgr3
              simp only [Act.put, List.setIfInBounds_toArray, List.set_cons_succ, List.set_cons_zero]
              go_wp2_with fail
              go_roundw
              case rel => exact ⟨k + 1, true, m ++ [meaning r], by have := HLT.out; omega, by have := HK64.out; omega, by go_num, rfl, by rw [List.length_append, HM.out]; rfl, HC2, HOZ.out, B3.out⟩
              case measure =>
                have := HLT.out
                simp [intOf]; omega
            | false =>
              rw [hdr] at e5
              by_cases hp1 : r.port.n < 1
              · have HPE : Hid (P = ([], 10, r.port.pos)) := chk_err HP.out HC.out HD.out (HRA.out.trans (act_port hdr (by simp [hp1]))) (by decide)
                have hp1' : decide (r.port.n < 1) = true := by simpa using hp1
                have lp : ∀ u : Later W3, u.world.cell? ⟨wr.heap.size, 7, none⟩ = some (.int .i64 r.port.pos) := later_cell7 K3.out rfl
                have ne1 := Later.ne W3
                clear hp1
                go_wp2_with fail
                refine wp_region_later (by kernel_rfl) (by kernel_rfl) ?_
                repeat go_big_quiet_step (rfl)
                refine wpQuiet_nil ?_
                rintro w' ⟨v, rfl⟩
                go_wp2_with fail
                go_ret3
                rw [HPE.out]
                exact ⟨_, rfl, World.ownsRow_nil _ _ _ _, BW3.out.trans (v.below.mono BW3.out.size)⟩
              have hp1' : decide (r.port.n < 1) = false := by simpa using hp1
              by_cases hp9 : 99 < r.port.n
              · have HPE : Hid (P = ([], 10, r.port.pos)) := chk_err HP.out HC.out HD.out (HRA.out.trans (act_port hdr (by simp [hp9]))) (by decide)
                have hp9' : decide (99 < r.port.n) = true := by simpa using hp9
                have lp : ∀ u : Later W3, u.world.cell? ⟨wr.heap.size, 7, none⟩ = some (.int .i64 r.port.pos) := later_cell7 K3.out rfl
                have ne1 := Later.ne W3
                clear hp1 hp9
                go_wp2_with fail
                refine wp_region_later (by kernel_rfl) (by kernel_rfl) ?_
                repeat go_big_quiet_step (rfl)
                refine wpQuiet_nil ?_
                rintro w' ⟨v, rfl⟩
                go_wp2_with fail
                go_ret3
                rw [HPE.out]
                exact ⟨_, rfl, World.ownsRow_nil _ _ _ _, BW3.out.trans (v.below.mono BW3.out.size)⟩
              have hp9' : decide (99 < r.port.n) = false := by simpa using hp9
              obtain ⟨hc2', hrt⟩ := chk_go HC.out HD.out (HRA.out.trans (act_fit (by rw [hp1', hp9']; rfl)))
              rw [HDF.out] at hc2'
              have HC2 : Hid (checkGo size 0 false l = (checkGo size (k + 1) true (l.drop (k + 1))).map fun y => (m ++ [meaning r]) ++ y) := hc2'
              have HRT : Hid (rightR r) := hrt
              clear hc2' hrt hdr hp1 hp9
              go_wp2_with (first
                | ((with_reducible refine wl_atL _ rfl rfl ?_); refine wl_loadE (E := RawE) RawOk rfl _ rfl wr.heap.size 0 rfl _ _ _ (rawV r (.slice o1 n1 cap1)) rfl K3.out (own_cells _ _) ?_))
              refine (ME.out _ _ _ HF3.out HRT.out).mono ?_
              rintro e w2 ⟨rfl, hb2⟩
              have B2 : Hid (Below w.heap.size w w2) := BW3.out.trans (hb2.mono BW3.out.size)
              have HO2 : Hid (EntsOwn w.heap.size (w2.alloc (.cells (entV (meaning r)) 35)) m u7) := (gown_below HO3.out hb2).alloc _
              clear hb2
              go_wp2_with (first
                | (refine wl_buildE (E := EntE) EntOk rfl _ rfl (entV (meaning r)) rfl rfl ?_)
                | (at_builtin; refine of_stopT ?_))
              unfold StopT
              refine wl_appendE (E := EntE) EntOk entV rfl _ _ rfl w.heap.size u7 m (meaning r) (ent_fits _) rfl HO2.out w2.heap.size 1 rfl (heap_new _ _ _ rfl) (by have := HM.out; omega) (by have := B2.out.size; simp; omega) ?_
              intro v' w3 hown3 hgr3 _
              have B3 : Hid (Below w.heap.size w w3) := (B2.out.alloc B2.out.size _).trans ((Below.refl _ _).grown hgr3 (B2.out.alloc B2.out.size _).size fun k hk => (HO2.out.lt k hk).1)
              have HOZ : Hid (EntsOwn w.heap.size w3 (m ++ [meaning r]) v') := hown3
              clear hown3 hgr3
              simp only [Act.put, List.setIfInBounds_toArray, List.set_cons_succ, List.set_cons_zero]
              go_wp2_with fail
              go_roundw
              case rel => exact ⟨k + 1, true, m ++ [meaning r], by have := HLT.out; omega, by have := HK64.out; omega, by go_num, rfl, by rw [List.length_append, HM.out]; rfl, HC2, HOZ.out, B3.out⟩
              case measure =>
                have := HLT.out
                simp [intOf]; omega
        | false =>
          have hdf' := hdf
          rw [hdf] at hd1
          have HLT : Hid (k < n) := hlt
          clear hlt
          cases had with
          | true =>
            rw [hW1] at hd1
            go_wp2_with (first
              | ((with_reducible refine wl_atL _ rfl rfl ?_); refine wl_loadE (E := RawE) RawOk rfl _ rfl g (off + k * 8) rfl cur ty fr (rawV r (.slice o1 n1 cap1)) rfl K1.out H1.out ?_)
              | (refine wl_storeE (E := RawE) RawOk rfl _ _ rfl wr.heap.size (rawV r (.slice o1 n1 cap1)) ⟨rfl, by simp [rawV, Value.oneCell']⟩ rfl rfl _ (heap_new _ _ _ rfl) rfl _ (setRow_new _ _ _ _ _ rfl) ?_)
              | ((with_reducible refine wl_atL _ rfl rfl ?_); refine wl_loadE (E := RawE) RawOk rfl _ rfl wr.heap.size 0 rfl _ _ _ (rawV r (.slice o1 n1 cap1)) rfl (heap_new _ _ _ rfl) (own_cells _ _) ?_))
            rw [← hW1]
            obtain ⟨F, hF⟩ : ∃ F : Int × Int, F = fltR (faultR r) := ⟨_, rfl⟩
            have HFE : Hid (F = fltR (faultR r)) := hF
            have FC : Hid (∀ W u, ClasAt W r u → Calls Tryd.prog 30 #[.agg (rawV r u)] W fun e w' => e = .returned (.tuple #[.int .i64 F.1, .int .i64 F.2]) ∧ Below W.heap.size W w') := fun W u h => by rw [hF]; exact FA.out r u W h
            clear hF
            refine (FC.out _ _ HFN.out).mono ?_
            rintro e W3 ⟨rfl, hb3⟩
            have BW3 : Hid (Below w.heap.size w W3) := BW1.out.trans (hb3.mono BW1.out.size)
            have hsz : wr.heap.size < W1.heap.size := (Array.getElem?_eq_some_iff.1 KN.out).1
            have K3 : Hid (W3.heap[wr.heap.size]? = some (.cells (rawV r (.slice o1 n1 cap1)) 51 (0, 0))) := (hb3.block _ hsz).trans KN.out
            have HF3 : Hid (ClasAt W3 r (.slice o1 n1 cap1)) := clas_below _ _ _ _ hb3 HFN.out
            have HO3 : Hid (EntsOwn w.heap.size W3 m u7) := gown_below HO1.out hb3
            obtain ⟨-, e1, -, -, e5, e6⟩ := raw_f K3.out
            rw [hdf] at e1
            have HDF : Hid (r.dflt = false) := hdf
            clear hb3 hsz KN HFN HO1 BW1 BN K1 H1 HF hW1 hdf
            by_cases hf : F.1 = 0
            · have hf' : (F.1 != 0) = false := by simp [hf]
              have HRA : Hid (rowF k true r = orF (actF r) (0, 0)) := row_act HK64.out (by rw [HDF.out]; rfl) (line_ok (by rw [← HFE.out]; exact hf))
              clear hf
              cases hdr : r.drop with
              | true =>
                obtain ⟨hc2', hrt⟩ := chk_go HC.out HD.out (HRA.out.trans (act_drop hdr))
                rw [HDF.out] at hc2'
                have HC2 : Hid (checkGo size 0 false l = (checkGo size (k + 1) true (l.drop (k + 1))).map fun y => (m ++ [meaning r]) ++ y) := hc2'
                have HRT : Hid (rightR r) := hrt
                rw [hdr] at e5
                clear hc2' hrt hdr
                go_wp2_with (first
                  | ((with_reducible refine wl_atL _ rfl rfl ?_); refine wl_loadE (E := RawE) RawOk rfl _ rfl wr.heap.size 0 rfl _ _ _ (rawV r (.slice o1 n1 cap1)) rfl K3.out (own_cells _ _) ?_))
                refine (ME.out _ _ _ HF3.out HRT.out).mono ?_
                rintro e w2 ⟨rfl, hb2⟩
                have B2 : Hid (Below w.heap.size w w2) := BW3.out.trans (hb2.mono BW3.out.size)
                have HO2 : Hid (EntsOwn w.heap.size (w2.alloc (.cells (entV (meaning r)) 35)) m u7) := (gown_below HO3.out hb2).alloc _
                clear hb2
                go_wp2_with (first
                  | (refine wl_buildE (E := EntE) EntOk rfl _ rfl (entV (meaning r)) rfl rfl ?_)
                  | (at_builtin; refine of_stopT ?_))
                unfold StopT
                refine wl_appendE (E := EntE) EntOk entV rfl _ _ rfl w.heap.size u7 m (meaning r) (ent_fits _) rfl HO2.out w2.heap.size 1 rfl (heap_new _ _ _ rfl) (by have := HM.out; omega) (by have := B2.out.size; simp; omega) ?_
                intro v' w3 hown3 hgr3 _
                have B3 : Hid (Below w.heap.size w w3) := (B2.out.alloc B2.out.size _).trans ((Below.refl _ _).grown hgr3 (B2.out.alloc B2.out.size _).size fun k hk => (HO2.out.lt k hk).1)
                have HOZ : Hid (EntsOwn w.heap.size w3 (m ++ [meaning r]) v') := hown3
                clear hown3 hgr3
                simp only [Act.put, List.setIfInBounds_toArray, List.set_cons_succ, List.set_cons_zero]
                go_wp2_with fail
                go_roundw
                case rel => exact ⟨k + 1, true, m ++ [meaning r], by have := HLT.out; omega, by have := HK64.out; omega, by go_num, rfl, by rw [List.length_append, HM.out]; rfl, HC2, HOZ.out, B3.out⟩
                case measure =>
                  have := HLT.out
                  simp [intOf]; omega
              | false =>
                rw [hdr] at e5
                by_cases hp1 : r.port.n < 1
                · have HPE : Hid (P = ([], 10, r.port.pos)) := chk_err HP.out HC.out HD.out (HRA.out.trans (act_port hdr (by simp [hp1]))) (by decide)
                  have hp1' : decide (r.port.n < 1) = true := by simpa using hp1
                  have lp : ∀ u : Later W3, u.world.cell? ⟨wr.heap.size, 7, none⟩ = some (.int .i64 r.port.pos) := later_cell7 K3.out rfl
                  have ne1 := Later.ne W3
                  clear hp1
                  go_wp2_with fail
                  refine wp_region_later (by kernel_rfl) (by kernel_rfl) ?_
                  repeat go_big_quiet_step (rfl)
                  refine wpQuiet_nil ?_
                  rintro w' ⟨v, rfl⟩
                  go_wp2_with fail
                  go_ret3
                  rw [HPE.out]
                  exact ⟨_, rfl, World.ownsRow_nil _ _ _ _, BW3.out.trans (v.below.mono BW3.out.size)⟩
                have hp1' : decide (r.port.n < 1) = false := by simpa using hp1
                by_cases hp9 : 99 < r.port.n
                · have HPE : Hid (P = ([], 10, r.port.pos)) := chk_err HP.out HC.out HD.out (HRA.out.trans (act_port hdr (by simp [hp9]))) (by decide)
                  have hp9' : decide (99 < r.port.n) = true := by simpa using hp9
                  have lp : ∀ u : Later W3, u.world.cell? ⟨wr.heap.size, 7, none⟩ = some (.int .i64 r.port.pos) := later_cell7 K3.out rfl
                  have ne1 := Later.ne W3
                  clear hp1 hp9
                  go_wp2_with fail
                  refine wp_region_later (by kernel_rfl) (by kernel_rfl) ?_
                  repeat go_big_quiet_step (rfl)
                  refine wpQuiet_nil ?_
                  rintro w' ⟨v, rfl⟩
                  go_wp2_with fail
                  go_ret3
                  rw [HPE.out]
                  exact ⟨_, rfl, World.ownsRow_nil _ _ _ _, BW3.out.trans (v.below.mono BW3.out.size)⟩
                have hp9' : decide (99 < r.port.n) = false := by simpa using hp9
                obtain ⟨hc2', hrt⟩ := chk_go HC.out HD.out (HRA.out.trans (act_fit (by rw [hp1', hp9']; rfl)))
                rw [HDF.out] at hc2'
                have HC2 : Hid (checkGo size 0 false l = (checkGo size (k + 1) true (l.drop (k + 1))).map fun y => (m ++ [meaning r]) ++ y) := hc2'
                have HRT : Hid (rightR r) := hrt
                clear hc2' hrt hdr hp1 hp9
                go_wp2_with (first
                  | ((with_reducible refine wl_atL _ rfl rfl ?_); refine wl_loadE (E := RawE) RawOk rfl _ rfl wr.heap.size 0 rfl _ _ _ (rawV r (.slice o1 n1 cap1)) rfl K3.out (own_cells _ _) ?_))
                refine (ME.out _ _ _ HF3.out HRT.out).mono ?_
                rintro e w2 ⟨rfl, hb2⟩
                have B2 : Hid (Below w.heap.size w w2) := BW3.out.trans (hb2.mono BW3.out.size)
                have HO2 : Hid (EntsOwn w.heap.size (w2.alloc (.cells (entV (meaning r)) 35)) m u7) := (gown_below HO3.out hb2).alloc _
                clear hb2
                go_wp2_with (first
                  | (refine wl_buildE (E := EntE) EntOk rfl _ rfl (entV (meaning r)) rfl rfl ?_)
                  | (at_builtin; refine of_stopT ?_))
                unfold StopT
                refine wl_appendE (E := EntE) EntOk entV rfl _ _ rfl w.heap.size u7 m (meaning r) (ent_fits _) rfl HO2.out w2.heap.size 1 rfl (heap_new _ _ _ rfl) (by have := HM.out; omega) (by have := B2.out.size; simp; omega) ?_
                intro v' w3 hown3 hgr3 _
                have B3 : Hid (Below w.heap.size w w3) := (B2.out.alloc B2.out.size _).trans ((Below.refl _ _).grown hgr3 (B2.out.alloc B2.out.size _).size fun k hk => (HO2.out.lt k hk).1)
                have HOZ : Hid (EntsOwn w.heap.size w3 (m ++ [meaning r]) v') := hown3
                clear hown3 hgr3
                simp only [Act.put, List.setIfInBounds_toArray, List.set_cons_succ, List.set_cons_zero]
                go_wp2_with fail
                go_roundw
                case rel => exact ⟨k + 1, true, m ++ [meaning r], by have := HLT.out; omega, by have := HK64.out; omega, by go_num, rfl, by rw [List.length_append, HM.out]; rfl, HC2, HOZ.out, B3.out⟩
                case measure =>
                  have := HLT.out
                  simp [intOf]; omega
            · have hf' : (F.1 != 0) = true := by simp [hf]
              have HPE : Hid (P = ([], F.1, F.2)) := by
                rw [HFE.out] at hf ⊢
                exact chk_err HP.out HC.out HD.out (row_fault HK64.out HDF.out hf) hf
              clear hf
              go_wp2_with fail
              go_ret3
              rw [HPE.out]
              exact ⟨_, rfl, World.ownsRow_nil _ _ _ _, BW3.out⟩
          | false =>
            rw [hW1] at hd1
            go_wp2_with (first
              | ((with_reducible refine wl_atL _ rfl rfl ?_); refine wl_loadE (E := RawE) RawOk rfl _ rfl g (off + k * 8) rfl cur ty fr (rawV r (.slice o1 n1 cap1)) rfl K1.out H1.out ?_)
              | (refine wl_storeE (E := RawE) RawOk rfl _ _ rfl wr.heap.size (rawV r (.slice o1 n1 cap1)) ⟨rfl, by simp [rawV, Value.oneCell']⟩ rfl rfl _ (heap_new _ _ _ rfl) rfl _ (setRow_new _ _ _ _ _ rfl) ?_)
              | ((with_reducible refine wl_atL _ rfl rfl ?_); refine wl_loadE (E := RawE) RawOk rfl _ rfl wr.heap.size 0 rfl _ _ _ (rawV r (.slice o1 n1 cap1)) rfl (heap_new _ _ _ rfl) (own_cells _ _) ?_))
            rw [← hW1]
            obtain ⟨F, hF⟩ : ∃ F : Int × Int, F = fltR (faultR r) := ⟨_, rfl⟩
            have HFE : Hid (F = fltR (faultR r)) := hF
            have FC : Hid (∀ W u, ClasAt W r u → Calls Tryd.prog 30 #[.agg (rawV r u)] W fun e w' => e = .returned (.tuple #[.int .i64 F.1, .int .i64 F.2]) ∧ Below W.heap.size W w') := fun W u h => by rw [hF]; exact FA.out r u W h
            clear hF
            refine (FC.out _ _ HFN.out).mono ?_
            rintro e W3 ⟨rfl, hb3⟩
            have BW3 : Hid (Below w.heap.size w W3) := BW1.out.trans (hb3.mono BW1.out.size)
            have hsz : wr.heap.size < W1.heap.size := (Array.getElem?_eq_some_iff.1 KN.out).1
            have K3 : Hid (W3.heap[wr.heap.size]? = some (.cells (rawV r (.slice o1 n1 cap1)) 51 (0, 0))) := (hb3.block _ hsz).trans KN.out
            have HF3 : Hid (ClasAt W3 r (.slice o1 n1 cap1)) := clas_below _ _ _ _ hb3 HFN.out
            have HO3 : Hid (EntsOwn w.heap.size W3 m u7) := gown_below HO1.out hb3
            obtain ⟨-, e1, -, -, e5, e6⟩ := raw_f K3.out
            rw [hdf] at e1
            have HDF : Hid (r.dflt = false) := hdf
            clear hb3 hsz KN HFN HO1 BW1 BN K1 H1 HF hW1 hdf
            by_cases hf : F.1 = 0
            · have hf' : (F.1 != 0) = false := by simp [hf]
              have HRA : Hid (rowF k false r = orF (actF r) (0, 0)) := row_act HK64.out (by rw [HDF.out]; rfl) (line_ok (by rw [← HFE.out]; exact hf))
              clear hf
              cases hdr : r.drop with
              | true =>
                obtain ⟨hc2', hrt⟩ := chk_go HC.out HD.out (HRA.out.trans (act_drop hdr))
                rw [HDF.out] at hc2'
                have HC2 : Hid (checkGo size 0 false l = (checkGo size (k + 1) false (l.drop (k + 1))).map fun y => (m ++ [meaning r]) ++ y) := hc2'
                have HRT : Hid (rightR r) := hrt
                rw [hdr] at e5
                clear hc2' hrt hdr
                go_wp2_with (first
                  | ((with_reducible refine wl_atL _ rfl rfl ?_); refine wl_loadE (E := RawE) RawOk rfl _ rfl wr.heap.size 0 rfl _ _ _ (rawV r (.slice o1 n1 cap1)) rfl K3.out (own_cells _ _) ?_))
                refine (ME.out _ _ _ HF3.out HRT.out).mono ?_
                rintro e w2 ⟨rfl, hb2⟩
                have B2 : Hid (Below w.heap.size w w2) := BW3.out.trans (hb2.mono BW3.out.size)
                have HO2 : Hid (EntsOwn w.heap.size (w2.alloc (.cells (entV (meaning r)) 35)) m u7) := (gown_below HO3.out hb2).alloc _
                clear hb2
                go_wp2_with (first
                  | (refine wl_buildE (E := EntE) EntOk rfl _ rfl (entV (meaning r)) rfl rfl ?_)
                  | (at_builtin; refine of_stopT ?_))
                unfold StopT
                refine wl_appendE (E := EntE) EntOk entV rfl _ _ rfl w.heap.size u7 m (meaning r) (ent_fits _) rfl HO2.out w2.heap.size 1 rfl (heap_new _ _ _ rfl) (by have := HM.out; omega) (by have := B2.out.size; simp; omega) ?_
                intro v' w3 hown3 hgr3 _
                have B3 : Hid (Below w.heap.size w w3) := (B2.out.alloc B2.out.size _).trans ((Below.refl _ _).grown hgr3 (B2.out.alloc B2.out.size _).size fun k hk => (HO2.out.lt k hk).1)
                have HOZ : Hid (EntsOwn w.heap.size w3 (m ++ [meaning r]) v') := hown3
                clear hown3 hgr3
                simp only [Act.put, List.setIfInBounds_toArray, List.set_cons_succ, List.set_cons_zero]
                go_wp2_with fail
                go_roundw
                case rel => exact ⟨k + 1, false, m ++ [meaning r], by have := HLT.out; omega, by have := HK64.out; omega, by go_num, rfl, by rw [List.length_append, HM.out]; rfl, HC2, HOZ.out, B3.out⟩
                case measure =>
                  have := HLT.out
                  simp [intOf]; omega
              | false =>
                rw [hdr] at e5
                by_cases hp1 : r.port.n < 1
                · have HPE : Hid (P = ([], 10, r.port.pos)) := chk_err HP.out HC.out HD.out (HRA.out.trans (act_port hdr (by simp [hp1]))) (by decide)
                  have hp1' : decide (r.port.n < 1) = true := by simpa using hp1
                  have lp : ∀ u : Later W3, u.world.cell? ⟨wr.heap.size, 7, none⟩ = some (.int .i64 r.port.pos) := later_cell7 K3.out rfl
                  have ne1 := Later.ne W3
                  clear hp1
                  go_wp2_with fail
                  refine wp_region_later (by kernel_rfl) (by kernel_rfl) ?_
                  repeat go_big_quiet_step (rfl)
                  refine wpQuiet_nil ?_
                  rintro w' ⟨v, rfl⟩
                  go_wp2_with fail
                  go_ret3
                  rw [HPE.out]
                  exact ⟨_, rfl, World.ownsRow_nil _ _ _ _, BW3.out.trans (v.below.mono BW3.out.size)⟩
                have hp1' : decide (r.port.n < 1) = false := by simpa using hp1
                by_cases hp9 : 99 < r.port.n
                · have HPE : Hid (P = ([], 10, r.port.pos)) := chk_err HP.out HC.out HD.out (HRA.out.trans (act_port hdr (by simp [hp9]))) (by decide)
                  have hp9' : decide (99 < r.port.n) = true := by simpa using hp9
                  have lp : ∀ u : Later W3, u.world.cell? ⟨wr.heap.size, 7, none⟩ = some (.int .i64 r.port.pos) := later_cell7 K3.out rfl
                  have ne1 := Later.ne W3
                  clear hp1 hp9
                  go_wp2_with fail
                  refine wp_region_later (by kernel_rfl) (by kernel_rfl) ?_
                  repeat go_big_quiet_step (rfl)
                  refine wpQuiet_nil ?_
                  rintro w' ⟨v, rfl⟩
                  go_wp2_with fail
                  go_ret3
                  rw [HPE.out]
                  exact ⟨_, rfl, World.ownsRow_nil _ _ _ _, BW3.out.trans (v.below.mono BW3.out.size)⟩
                have hp9' : decide (99 < r.port.n) = false := by simpa using hp9
                obtain ⟨hc2', hrt⟩ := chk_go HC.out HD.out (HRA.out.trans (act_fit (by rw [hp1', hp9']; rfl)))
                rw [HDF.out] at hc2'
                have HC2 : Hid (checkGo size 0 false l = (checkGo size (k + 1) false (l.drop (k + 1))).map fun y => (m ++ [meaning r]) ++ y) := hc2'
                have HRT : Hid (rightR r) := hrt
                clear hc2' hrt hdr hp1 hp9
                go_wp2_with (first
                  | ((with_reducible refine wl_atL _ rfl rfl ?_); refine wl_loadE (E := RawE) RawOk rfl _ rfl wr.heap.size 0 rfl _ _ _ (rawV r (.slice o1 n1 cap1)) rfl K3.out (own_cells _ _) ?_))
                refine (ME.out _ _ _ HF3.out HRT.out).mono ?_
                rintro e w2 ⟨rfl, hb2⟩
                have B2 : Hid (Below w.heap.size w w2) := BW3.out.trans (hb2.mono BW3.out.size)
                have HO2 : Hid (EntsOwn w.heap.size (w2.alloc (.cells (entV (meaning r)) 35)) m u7) := (gown_below HO3.out hb2).alloc _
                clear hb2
                go_wp2_with (first
                  | (refine wl_buildE (E := EntE) EntOk rfl _ rfl (entV (meaning r)) rfl rfl ?_)
                  | (at_builtin; refine of_stopT ?_))
                unfold StopT
                refine wl_appendE (E := EntE) EntOk entV rfl _ _ rfl w.heap.size u7 m (meaning r) (ent_fits _) rfl HO2.out w2.heap.size 1 rfl (heap_new _ _ _ rfl) (by have := HM.out; omega) (by have := B2.out.size; simp; omega) ?_
                intro v' w3 hown3 hgr3 _
                have B3 : Hid (Below w.heap.size w w3) := (B2.out.alloc B2.out.size _).trans ((Below.refl _ _).grown hgr3 (B2.out.alloc B2.out.size _).size fun k hk => (HO2.out.lt k hk).1)
                have HOZ : Hid (EntsOwn w.heap.size w3 (m ++ [meaning r]) v') := hown3
                clear hown3 hgr3
                simp only [Act.put, List.setIfInBounds_toArray, List.set_cons_succ, List.set_cons_zero]
                go_wp2_with fail
                go_roundw
                case rel => exact ⟨k + 1, false, m ++ [meaning r], by have := HLT.out; omega, by have := HK64.out; omega, by go_num, rfl, by rw [List.length_append, HM.out]; rfl, HC2, HOZ.out, B3.out⟩
                case measure =>
                  have := HLT.out
                  simp [intOf]; omega
            · have hf' : (F.1 != 0) = true := by simp [hf]
              have HPE : Hid (P = ([], F.1, F.2)) := by
                rw [HFE.out] at hf ⊢
                exact chk_err HP.out HC.out HD.out (row_fault HK64.out HDF.out hf) hf
              clear hf
              go_wp2_with fail
              go_ret3
              rw [HPE.out]
              exact ⟨_, rfl, World.ownsRow_nil _ _ _ _, BW3.out⟩
    · have hlt' : (n : Int) ≤ (k : Int) := by omega
      have hdrop : l.drop k = [] := List.drop_of_length_le (by have := HN.out; omega)
      have HC3 : Hid (checkGo size 0 false l = (checkGo size k had []).map fun y => m ++ y) := by rw [← hdrop]; exact HC.out
      clear hlt hdrop
      cases had with
      | true =>
        have HPE : Hid (P = (m, 0, 0)) := by
          show _ = _
          rw [HP.out, HC3.out]
          simp [checkGo, Except.map, outC]
        go_wp2_with fail
        go_ret3
        rw [HPE.out]
        exact ⟨_, rfl, HO.out, HB.out⟩
      | false =>
        have HPE : Hid (P = ([], 11, size)) := by
          show _ = _
          rw [HP.out, HC3.out]
          simp [checkGo, Except.map, outC]
        go_wp2_with fail
        go_ret3
        rw [HPE.out]
        exact ⟨_, rfl, World.ownsRow_nil _ _ _ _, HB.out⟩
end Go.Proofs.YtfamnloobmdhdaaDoor
namespace Go.Proofs.YtfamnloobmdhdaaDoor
open Go Go.RowKit
set_option maxRecDepth 20000

theorem eqE_same (x : Ent) (w : World) : (Op.equalIn 10000 35 (.agg (entV x)) (.agg (entV x))).run Tryd.prog w = .ok true w := by
  have hh : (Op.equalIn 10000 35 (.agg (entV x)) (.agg (entV x))).run Tryd.prog w = .ok ((x.dflt == x.dflt) && ((x.prio == x.prio) && ((x.src == x.src) && ((x.srcBits == x.srcBits) && ((x.dst == x.dst) && ((x.dstBits == x.dstBits) && ((x.slow == x.slow) && ((x.shigh == x.shigh) && ((x.dlow == x.dlow) && ((x.dhigh == x.dhigh) && ((x.proto == x.proto) && ((x.action == x.action) && true)))))))))))) w := by
    rw [run_equalIn_struct w 9999 35 _ _ Tryd.underlying35 (by kernel_rfl)]
    have a3 : (isAgg 3).run Tryd.prog w = .ok false w := by kernel_rfl
    have a4 : (isAgg 4).run Tryd.prog w = .ok false w := by kernel_rfl
    have a0 : (isAgg 33).run Tryd.prog w = .ok false w := by kernel_rfl
    simp only [Program.fieldsOf, Tryd.underlying35]
    refine eqFields_step w (by decide) (part_cell w a4 rfl) (part_cell w a4 rfl) (run_equalIn_bool w _ 4 _ _ Tryd.underlying4) ?_
    refine eqFields_step w (by decide) (part_cell w a3 rfl) (part_cell w a3 rfl) (run_equalIn_int w _ 3 .i64 .i64 _ _ Tryd.underlying3) ?_
    refine eqFields_step w (by decide) (part_cell w a0 rfl) (part_cell w a0 rfl) (run_equalIn_int w _ 33 .u32 .u32 _ _ Tryd.underlying33) ?_
    refine eqFields_step w (by decide) (part_cell w a3 rfl) (part_cell w a3 rfl) (run_equalIn_int w _ 3 .i64 .i64 _ _ Tryd.underlying3) ?_
    refine eqFields_step w (by decide) (part_cell w a0 rfl) (part_cell w a0 rfl) (run_equalIn_int w _ 33 .u32 .u32 _ _ Tryd.underlying33) ?_
    refine eqFields_step w (by decide) (part_cell w a3 rfl) (part_cell w a3 rfl) (run_equalIn_int w _ 3 .i64 .i64 _ _ Tryd.underlying3) ?_
    refine eqFields_step w (by decide) (part_cell w a3 rfl) (part_cell w a3 rfl) (run_equalIn_int w _ 3 .i64 .i64 _ _ Tryd.underlying3) ?_
    refine eqFields_step w (by decide) (part_cell w a3 rfl) (part_cell w a3 rfl) (run_equalIn_int w _ 3 .i64 .i64 _ _ Tryd.underlying3) ?_
    refine eqFields_step w (by decide) (part_cell w a3 rfl) (part_cell w a3 rfl) (run_equalIn_int w _ 3 .i64 .i64 _ _ Tryd.underlying3) ?_
    refine eqFields_step w (by decide) (part_cell w a3 rfl) (part_cell w a3 rfl) (run_equalIn_int w _ 3 .i64 .i64 _ _ Tryd.underlying3) ?_
    refine eqFields_step w (by decide) (part_cell w a3 rfl) (part_cell w a3 rfl) (run_equalIn_int w _ 3 .i64 .i64 _ _ Tryd.underlying3) ?_
    refine eqFields_step w (by decide) (part_cell w a3 rfl) (part_cell w a3 rfl) (run_equalIn_int w _ 3 .i64 .i64 _ _ Tryd.underlying3) ?_
    rfl
  rw [hh]
  simp
theorem egE (op : BinOp) (x y : Operand) (xs ys : Array Value) (w : World) : (eqGuard op 35 x y (.agg xs) (.agg ys)).run Tryd.prog w = .ok () w :=
  run_eqGuard_agg w op 35 x y xs ys (by kernel_rfl)

set_option maxHeartbeats 8000000 in
theorem rsame_any (C : List Ent) (va vb : Value) (w : World) (ha : EntsAt w va C) (hb : EntsAt w vb C) :
    Calls Tryd.prog 12 #[va, vb] w fun e w' => e = .returned (.bool true) ∧ Below w.heap.size w w' := by
  obtain ⟨oa, capa, rfl, hca, hma⟩ := GSl.slice ha
  obtain ⟨ob, capb, rfl, hcb, hmb⟩ := GSl.slice hb
  obtain ⟨n, hn⟩ : ∃ n, n = C.length := ⟨_, rfl⟩
  rw [← hn] at ha hb hca hcb ⊢
  have HA : Hid (EntsAt w (.slice oa n capa) C) := ha
  have HBB : Hid (EntsAt w (.slice ob n capb) C) := hb
  unfold maxLen at hma hmb
  clear ha hb hn
  go_enter Tryd.func12, Tryd.ntmps12
  go_wp2_with fail
  go_loopw [5] (fun i wr => ∃ k : Nat, k ≤ n ∧ i = .int .i64 (k : Int) ∧ Below w.heap.size w wr) (fun i _ => n - (intOf i).toNat)
  case atStart => exact ⟨0, Nat.zero_le _, rfl, Below.refl _ _⟩
  case round =>
    obtain ⟨k, hk, rfl, hb⟩ := hrel
    have HB : Hid (Below w.heap.size w wr) := hb
    clear hb
    by_cases hlt : k < n
    · have hlt' : (k : Int) < (n : Int) := by omega
      obtain ⟨g, off, cur, ty, fr, x, rfl, hg, hc, hxk⟩ := (GSl.below HA.out HB.out).at k hlt
      obtain ⟨g2, off2, cur2, ty2, fr2, y, rfl, hg2, hc2, hyk⟩ := (GSl.below HBB.out HB.out).at k hlt
      rw [hxk] at hyk
      obtain rfl := Option.some.inj hyk
      have e1 : ∀ w, (Op.equalIn 10000 35 (.agg (entV x)) (.agg (entV x))).run Tryd.prog w = .ok true w := eqE_same x
      have e2 : ∀ op p q w, (eqGuard op 35 p q (.agg (entV x)) (.agg (entV x))).run Tryd.prog w = .ok () w := fun op p q w => egE op p q _ _ w
      have K1 : wr.heap[g]? = some (.cells cur ty fr) := hg
      have K2 : wr.heap[g2]? = some (.cells cur2 ty2 fr2) := hg2
      have H1 : Hid (∀ i, i < 12 → cur[off + k * 12 + i]? = (entV x)[i]?) := hc
      have H2 : Hid (∀ i, i < 12 → cur2[off2 + k * 12 + i]? = (entV x)[i]?) := hc2
      clear hg hg2 hc hc2 hxk
      go_wp2_with fail
      have ne1 := Later.ne wr
      refine wp_region_later (by kernel_rfl) (by kernel_rfl) ?_
      go_big_quiet_step (fail)
      go_big_quiet_step (fail)
      go_big_quiet_step (fail)
      refine qlE (E := EntE) EntOk rfl _ rfl g (off + k * 12) rfl cur ty fr (entV x) rfl (later_block K1) H1.out ?_
      simp only [Act.put, List.setIfInBounds_toArray, List.set_cons_succ, List.set_cons_zero]
      go_big_quiet_step (fail)
      go_big_quiet_step (fail)
      go_big_quiet_step (fail)
      refine qlE (E := EntE) EntOk rfl _ rfl g2 (off2 + k * 12) rfl cur2 ty2 fr2 (entV x) rfl (later_block K2) H2.out ?_
      simp only [Act.put, List.setIfInBounds_toArray, List.set_cons_succ, List.set_cons_zero]
      repeat go_big_quiet_step (fail)
      refine wpQuiet_nil ?_
      rintro w' ⟨v, rfl⟩
      clear K1 K2 H1 H2
      go_wp2_with fail
      go_roundw
      case rel => exact ⟨k + 1, by omega, by go_num, HB.out.trans (v.below.mono HB.out.size)⟩
      case measure => simp [intOf]; omega
    · have hlt' : ¬ (k : Int) < (n : Int) := by omega
      clear hlt
      go_wp2_with fail
      go_ret
      exact ⟨rfl, HB.out⟩
end Go.Proofs.YtfamnloobmdhdaaDoor
namespace Go.Proofs.YtfamnloobmdhdaaDoor
open Go Go.RowKit
set_option maxRecDepth 20000

end Go.Proofs.YtfamnloobmdhdaaDoor
