import Derived.Test.YtnppfibojcgkmaaScOrd
namespace Go.Proofs.Ytnppfibojcgkmaa
open Go Go.Lib Go.RowKit
set_option maxRecDepth 20000

def blV (L : List Bool) : List Value := L.map Value.bool
def doneI (n : Nat) (R : List Nat) : List Value := (List.range n).map fun i => Value.bool (decide (i ∈ R))
theorem doneI_len (n : Nat) (R : List Nat) : (doneI n R).length = n := by simp [doneI]
theorem doneI_at {n k : Nat} (R : List Nat) (h : k < n) : (doneI n R)[k]? = some (Value.bool (decide (k ∈ R))) := by
  unfold doneI
  rw [List.getElem?_map, List.getElem?_range h]; rfl
theorem doneI_nil (n : Nat) : doneI n [] = List.replicate n (Value.bool false) := by
  apply List.ext_getElem?
  intro i
  by_cases h : i < n
  · rw [doneI_at _ h, List.getElem?_replicate, if_pos h]; rfl
  · rw [List.getElem?_eq_none (by rw [doneI_len]; omega), List.getElem?_replicate, if_neg h]
theorem doneI_set {n b : Nat} (R : List Nat) (h : b < n) : doneI n (R ++ [b]) = (doneI n R).set b (Value.bool true) := by
  apply List.ext_getElem?
  intro i
  rw [List.getElem?_set, doneI_len]
  by_cases hi : i < n
  · rw [doneI_at _ hi]
    by_cases hb : b = i
    · subst hb
      rw [if_pos rfl, if_pos h]; simp
    · rw [if_neg hb, doneI_at _ hi]
      congr 2
      rw [Bool.eq_iff_iff, decide_eq_true_eq, decide_eq_true_eq, List.mem_append, List.mem_singleton]
      constructor
      · rintro (h1 | h1)
        · exact h1
        · exact absurd h1.symm hb
      · exact .inl
  · rw [List.getElem?_eq_none (by rw [doneI_len]; omega)]
    by_cases hb : b = i
    · omega
    · rw [if_neg hb, List.getElem?_eq_none (by rw [doneI_len]; omega)]
theorem inV_snoc (o : List Nat) (b : Nat) : inV o ++ [Value.int .i64 (b : Int)] = inV (o ++ [b]) := by unfold inV; simp
/-- What the search has found among the first places. -/
def FirstTo (K : Nat → Int) (R : List Nat) (k : Nat) (b : Int) : Prop := (b = -1 ∧ ∀ j, j < k → j ∈ R) ∨ ∃ c : Nat, b = (c : Int) ∧ IsFirst K R k c
theorem below_drewN (w : World) (q : Nat) : Below w.heap.size w (w.drewN q) := ⟨rfl, rfl, rfl, Nat.le_refl _, fun _ _ => rfl⟩
set_option maxHeartbeats 16000000 in
set_option maxRecDepth 100000 in
/-- The reference's order. -/
theorem rorder_any (l : List Nat) (hw : AllW l) (hn : l.length ≤ 1000) (v : Value) (w : World) (hL : FSl w v l) :
    Calls Try.prog 19 #[v] w fun e w' => ∃ v' o, e = .returned v' ∧ IsOrd (keyT l) l.length o ∧ VOwn 3 w.heap.size w' v' (inV o) ∧ Below w.heap.size w w' := by
  have HLS : Hid (∀ x y, Wd x → Wd y → ∀ W, Calls Try.prog 16 #[.float .f64 x, .float .f64 y] W fun e w' => e = .returned (.bool (decide (placeT x < placeT y))) ∧ w' = W) := fun x y h h' W => rless_any x y h h' W
  obtain ⟨o, cap, rfl, hc1, hc2⟩ := hL.slice
  obtain ⟨n, hn0⟩ : ∃ n, n = l.length := ⟨_, rfl⟩
  have HN : Hid (n = l.length) := hn0
  rw [← hn0] at hL hc1 hn ⊢
  have HL : Hid (FSl w (.slice o n cap) l) := hL
  have HW : Hid (AllW l) := hw
  unfold maxLen at hc2
  clear hL hn0 hw
  go_enter Try.func19, Try.ntmps19
  go_wp2_with (first
    | (refine wl_build0V scI rfl rfl ?_)
    | (refine wl_makeV scB rfl _ _ rfl n rfl rfl (by omega) ?_; intro w1 hd1 hg1))
  simp only [World.size_alloc] at hd1 hg1 ⊢
  have hg2 : Below (w.alloc (.cells #[] 3)).heap.size (w.alloc (.cells #[] 3)) w1 := by simpa only [World.size_alloc] using hg1
  have B1 : Hid (Below w.heap.size w w1) := ((Below.refl _ _).alloc (Nat.le_refl _) _).trans (hg2.mono (by simp))
  have D1 : Hid (VOwn 4 w.heap.size w1 (.slice (some ⟨w.heap.size + 1, 0, none⟩) n n) (doneI n [])) := by
    show VOwn _ _ _ _ _
    rw [doneI_nil]; exact hd1.base (by omega)
  have O1 : Hid (VOwn 3 w.heap.size w1 (.slice (some ⟨w.heap.size, 0, none⟩) 0 0) (inV [])) := (vown0 w 3).below hg2
  clear hd1 hg1 hg2
  go_loopw [3, 5] (fun v i wr => ∃ (R : List Nat), R.length ≤ n ∧ i = .int .i64 (R.length : Int) ∧ Hid (PartOrd (keyT l) n R) ∧ VOwn 3 w.heap.size wr v (inV R) ∧ VOwn 4 w.heap.size wr (.slice (some ⟨w.heap.size + 1, 0, none⟩) n n) (doneI n R) ∧ Below w.heap.size w wr ∧ v.ownBlock ≠ some (w.heap.size + 1)) (fun _ i _ => n - (intOf i).toNat)
  case atStart => exact ⟨[], Nat.zero_le _, rfl, part_nil _ _, O1.out, D1.out, B1.out, by simp [Value.ownBlock]⟩
  case round =>
    clear O1 D1 B1
    obtain ⟨R, hR, rfl, HP, ho, hd, hb, hne⟩ := hrel
    have HO : Hid (VOwn 3 w.heap.size wr u3 (inV R)) := ho
    have HD : Hid (VOwn 4 w.heap.size wr (.slice (some ⟨w.heap.size + 1, 0, none⟩) n n) (doneI n R)) := hd
    have HB : Hid (Below w.heap.size w wr) := hb
    have HNE : Hid (u3.ownBlock ≠ some (w.heap.size + 1)) := hne
    clear ho hd hb hne
    obtain ⟨m, hm⟩ : ∃ m, m = R.length := ⟨_, rfl⟩
    rw [← hm] at hR ⊢
    have HM : Hid (m = R.length) := hm
    clear hm
    by_cases hlt : m < n
    · have hlt' : (m : Int) < (n : Int) := by omega
      obtain ⟨W0, rfl⟩ : ∃ W0, W0 = wr := ⟨_, rfl⟩
      go_wp2_with fail
      go_loopw [6, 7] (fun b i wq => ∃ (k : Nat) (c : Int), k ≤ n ∧ i = .int .i64 (k : Int) ∧ b = .int .i64 c ∧ Hid (FirstTo (keyT l) R k c) ∧ Below W0.heap.size W0 wq) (fun _ i _ => n - (intOf i).toNat)
      case atStart => exact ⟨0, -1, Nat.zero_le _, rfl, rfl, .inl ⟨rfl, fun j hj => by omega⟩, Below.refl _ _⟩
      case round =>
        obtain ⟨k, c, hk, rfl, rfl, BT, hbq⟩ := hrel
        have BQ : Hid (Below W0.heap.size W0 wr) := hbq
        have BW : Hid (Below w.heap.size w wr) := HB.out.trans (hbq.mono HB.out.size)
        clear hbq
        by_cases hlt2 : k < n
        · have hlt2' : (k : Int) < (n : Int) := by omega
          obtain ⟨g, off, x, rfl, hcx, hxk⟩ := (show FSl wr _ l from VSl.below HL.out BW.out).at k hlt2
          obtain ⟨cc, hcd, hdk, _⟩ := (HD.out.below BQ.out).cell k hlt2
          rw [doneI_at R hlt2] at hdk
          obtain rfl := Option.some.inj hdk
          clear hdk
          by_cases hin : k ∈ R
          · have NB : Hid (FirstTo (keyT l) R (k + 1) c) := by
              rcases BT.out with ⟨h1, h2⟩ | ⟨b, h1, h2⟩
              · exact .inl ⟨h1, fun j hj => by
                  by_cases e : j = k
                  · rw [e]; exact hin
                  · exact h2 j (by omega)⟩
              · exact .inr ⟨b, h1, first_skip h2 (.inl hin)⟩
            have HC : Hid (∀ W, Calls Try.prog 16 #[.float .f64 x, .float .f64 x] W fun e w' => e = .returned (.bool (decide (placeT x < placeT x))) ∧ w' = W) := HLS.out x x (HW.out.at hxk) (HW.out.at hxk)
            rw [decide_eq_true hin] at hcd
            clear hin hxk
            go_wp2_with fail
            go_quiet (first | (go_at_call 16; exact Calls.quiet_of_same (HC.out _)))
            have B3 : Hid (Below W0.heap.size W0 (wr.drewN nq)) := BQ.out.trans ((below_drewN wr nq).mono BQ.out.size)
            obtain ⟨W3, hW3⟩ : ∃ W3, W3 = wr.drewN nq := ⟨_, rfl⟩
            rw [← hW3] at B3 ⊢
            clear hW3 hcd hcx
            go_wp2_with fail
            go_roundw
            case rel => exact ⟨k + 1, c, by omega, by go_num, rfl, NB.out, B3.out⟩
            case measure => simp [intOf]; omega
          · rcases BT.out with ⟨rfl, h2⟩ | ⟨b, rfl, h2⟩
            · have NB : Hid (FirstTo (keyT l) R (k + 1) (k : Int)) := .inr ⟨k, rfl, first_begin hin h2⟩
              have HC : Hid (∀ W, Calls Try.prog 16 #[.float .f64 x, .float .f64 x] W fun e w' => e = .returned (.bool (decide (placeT x < placeT x))) ∧ w' = W) := HLS.out x x (HW.out.at hxk) (HW.out.at hxk)
              rw [decide_eq_false hin] at hcd
              clear hin h2 hxk
              go_wp2_with fail
              go_quiet (first | (go_at_call 16; exact Calls.quiet_of_same (HC.out _)))
              have B3 : Hid (Below W0.heap.size W0 (wr.drewN nq)) := BQ.out.trans ((below_drewN wr nq).mono BQ.out.size)
              obtain ⟨W3, hW3⟩ : ∃ W3, W3 = wr.drewN nq := ⟨_, rfl⟩
              rw [← hW3] at B3 ⊢
              clear hW3 hcd hcx
              go_wp2_with fail
              go_roundw
              case rel => exact ⟨k + 1, (k : Int), by omega, by go_num, rfl, NB.out, B3.out⟩
              case measure => simp [intOf]; omega
            · have hbk : b < k := h2.1
              obtain ⟨g', off', y, e0, hcy, hyj⟩ := (show FSl wr _ l from VSl.below HL.out BW.out).at b (by omega)
              simp only [Option.some.injEq, Addr.mk.injEq, and_true] at e0
              obtain ⟨rfl, rfl⟩ := e0
              have hb0 : decide ((b : Int) < 0) = false := by simp
              have hb1 : (b : Int) < (n : Int) := by omega
              have HC0 := HLS.out x y (HW.out.at hxk) (HW.out.at hyj)
              have e1 := keyT_at hxk
              have e2 := keyT_at hyj
              rw [decide_eq_false hin] at hcd
              by_cases hgt : placeT x < placeT y
              · have NB : Hid (FirstTo (keyT l) R (k + 1) (k : Int)) := .inr ⟨k, rfl, first_take h2 hin (by rw [e1, e2]; exact hgt)⟩
                rw [decide_eq_true hgt] at HC0
                have HC : Hid (∀ W, Calls Try.prog 16 #[.float .f64 x, .float .f64 y] W fun e w' => e = .returned (.bool true) ∧ w' = W) := HC0
                clear hin h2 hxk hyj e1 e2 hgt HC0
                go_wp2_with fail
                go_quiet (first | (go_at_call 16; exact Calls.quiet_of_same (HC.out _)))
                have B3 : Hid (Below W0.heap.size W0 (wr.drewN nq)) := BQ.out.trans ((below_drewN wr nq).mono BQ.out.size)
                obtain ⟨W3, hW3⟩ : ∃ W3, W3 = wr.drewN nq := ⟨_, rfl⟩
                rw [← hW3] at B3 ⊢
                clear hW3 hcd hcx hcy
                go_wp2_with fail
                go_roundw
                case rel => exact ⟨k + 1, (k : Int), by omega, by go_num, rfl, NB.out, B3.out⟩
                case measure => simp [intOf]; omega
              · have NB : Hid (FirstTo (keyT l) R (k + 1) (b : Int)) := .inr ⟨b, rfl, first_skip h2 (.inr (by rw [e1, e2]; exact hgt))⟩
                rw [decide_eq_false hgt] at HC0
                have HC : Hid (∀ W, Calls Try.prog 16 #[.float .f64 x, .float .f64 y] W fun e w' => e = .returned (.bool false) ∧ w' = W) := HC0
                clear hin h2 hxk hyj e1 e2 hgt HC0
                go_wp2_with fail
                go_quiet (first | (go_at_call 16; exact Calls.quiet_of_same (HC.out _)))
                have B3 : Hid (Below W0.heap.size W0 (wr.drewN nq)) := BQ.out.trans ((below_drewN wr nq).mono BQ.out.size)
                obtain ⟨W3, hW3⟩ : ∃ W3, W3 = wr.drewN nq := ⟨_, rfl⟩
                rw [← hW3] at B3 ⊢
                clear hW3 hcd hcx hcy
                go_wp2_with fail
                go_roundw
                case rel => exact ⟨k + 1, (b : Int), by omega, by go_num, rfl, NB.out, B3.out⟩
                case measure => simp [intOf]; omega
        · have hkn : ¬ (k : Int) < (n : Int) := by omega
          obtain rfl : k = n := by omega
          have hbest : ∃ b : Nat, c = (b : Int) ∧ IsFirst (keyT l) R k b := by
            rcases BT.out with ⟨_, h2⟩ | h2
            · obtain ⟨i, hi, hni⟩ := part_more (n := k) (o := R) (by rw [← HM.out]; exact hlt)
              exact absurd (h2 i hi) hni
            · exact h2
          obtain ⟨b, rfl, hbb⟩ := hbest
          have hb : b < k := hbb.1
          have hb1 : (b : Int) < (k : Int) := by omega
          have NP : Hid (PartOrd (keyT l) k (R ++ [b])) := part_snoc HP.out hbb
          have DR := HD.out.below BQ.out
          have OR := HO.out.below BQ.out
          obtain ⟨cc, hcd, _, hfd⟩ := DR.cell b hb
          have hgr := DR.setBelow b (.bool true)
          have DS := DR.set b (.bool true)
          rw [← doneI_set R hb] at DS
          have OS := OR.grown hgr (fun g h e => HNE.out (by rw [h]; exact e.symm))
          have BS := BW.out.grown hgr BW.out.size (fun j hj => by cases hj; omega)
          obtain ⟨WS, hWS⟩ : ∃ W, W = wr.setCell ⟨w.heap.size + 1, b, none⟩ (.bool true) := ⟨_, rfl⟩
          rw [← hWS] at DS OS BS
          have hsz : WS.heap.size = wr.heap.size := by rw [hWS]; simp [World.setCell]
          have OA : Hid (VOwn 3 w.heap.size (WS.alloc (.cells #[Value.int .i64 (b : Int)] 3)) u3 (inV R)) := OS.below ((Below.refl _ _).alloc (Nat.le_refl _) _)
          have DA : Hid (VOwn 4 w.heap.size (WS.alloc (.cells #[Value.int .i64 (b : Int)] 3)) (.slice (some ⟨w.heap.size + 1, 0, none⟩) k k) (doneI k (R ++ [b]))) := DS.below ((Below.refl _ _).alloc (Nat.le_refl _) _)
          have BA : Hid (Below w.heap.size w (WS.alloc (.cells #[Value.int .i64 (b : Int)] 3))) := BS.alloc BS.size _
          have hlen : Hid ((inV R).length ≤ 1000000) := by
            show _ ≤ _
            rw [inV_len, ← HM.out]; omega
          have hdsz : Hid (w.heap.size + 1 < WS.heap.size) := (DS.ge (w.heap.size + 1) rfl).2
          clear DR OR DS OS BS hgr hbb BT
          go_wp2_with (first
            | (refine wl_build1V scI rfl _ rfl (.int .i64 (b : Int)) rfl rfl ?_)
            | (at_builtin; refine of_stopV ?_))
          rw [← hWS]
          unfold StopV
          refine wl_app1V scI rfl _ _ rfl w.heap.size u3 (inV R) (.int .i64 (b : Int)) rfl rfl OA.out wr.heap.size 1 rfl (heap_new _ _ _ hsz.symm) hlen.out (BA.out.size) ?_
          intro v' w3 hown3 hgr3 hv'
          have B3 : Hid (Below w.heap.size w w3) := BA.out.grown hgr3 BA.out.size fun j hj => (OA.out.ge j hj).1
          have O3 : Hid (VOwn 3 w.heap.size w3 v' (inV (R ++ [b]))) := by
            show VOwn _ _ _ _ _
            rw [← inV_snoc]; exact hown3
          have D3 : Hid (VOwn 4 w.heap.size w3 (.slice (some ⟨w.heap.size + 1, 0, none⟩) k k) (doneI k (R ++ [b]))) := DA.out.grown hgr3 (fun g h => by
            have e1 : w.heap.size + 1 = g := by simpa [Value.ownBlock] using h
            rw [← e1]; exact HNE.out)
          have N3 : Hid (v'.ownBlock ≠ some (w.heap.size + 1)) := by
            rcases hv' with h | h
            · show _ ≠ _
              rw [h]; exact HNE.out
            · show _ ≠ _
              rw [h]
              have := hdsz.out
              simp
              omega
          clear hown3 hgr3 hv'
          simp only [Act.put, List.setIfInBounds_toArray, List.set_cons_succ, List.set_cons_zero]
          go_wp2_with fail
          go_roundw
          case rel =>
            have hm := HM.out
            exact ⟨R ++ [b], by rw [List.length_append, ← hm]; show m + 1 ≤ k; omega, by rw [List.length_append, ← hm]; go_num, NP.out, O3.out, D3.out, B3.out, N3.out⟩
          case measure => simp [intOf]; omega
    · have hlt' : ¬ (m : Int) < (n : Int) := by omega
      have hR2 : R.length = n := by have := HM.out; omega
      go_wp2_with fail
      go_ret
      first | exact ⟨_, R, rfl, part_all HP.out hR2, HO.out, HB.out⟩ | exact ⟨_, rfl, R, part_all HP.out hR2, HO.out, HB.out⟩
end Go.Proofs.Ytnppfibojcgkmaa
