import Derived.Test.YtpbinkmeldkehaaJ24
import Derived.Test.YtpbinkmeldkehaaJ25
import Derived.Test.YtpbinkmeldkehaaJ13
import Derived.Test.YtpbinkmeldkehaaJ16
import Derived.Test.YtpbinkmeldkehaaJ8
namespace Go.Proofs.Ytpbinkmeldkehaa
open Go Go.Lib Go.RowKit
set_option maxRecDepth 20000

set_option maxHeartbeats 2000000 in
theorem rin_same (n a b : Int) (w : World) : Calls Try.prog 26 #[.int .i64 n, .int .i64 a, .int .i64 b] w fun e w' => e = .returned (.bool (inT n a b)) ∧ w' = w := by
  by_cases h1 : n ≥ a
  · have h1' : decide (n ≥ a) = true := by simpa using h1
    have hi : Hid (inT n a b = decide (n ≤ b)) := by show _ = _; unfold inT; rw [h1']; rfl
    go_enter Try.func26, Try.ntmps26
    go_wp2_with fail
    go_ret
    exact ⟨by rw [hi.out]; rfl, rfl⟩
  · have h1' : decide (n ≥ a) = false := by simpa using h1
    have hi : Hid (inT n a b = false) := by show _ = _; unfold inT; rw [h1']; rfl
    go_enter Try.func26, Try.ntmps26
    go_wp2_with fail
    go_ret
    exact ⟨by rw [hi.out]; rfl, rfl⟩
set_option maxHeartbeats 64000000 in
set_option maxRecDepth 100000 in
theorem rright_any (s : Stp) (w : World) : Calls Try.prog 11 #[.agg (stA s)] w fun e w' => e = .returned (.bool (rightT s)) ∧ Below w.heap.size w w' := by
  have RS : Hid (∀ n a b W, Calls Try.prog 26 #[.int .i64 n, .int .i64 a, .int .i64 b] W fun e w' => e = .returned (.bool (inT n a b)) ∧ w' = W) := fun n a b W => rin_same n a b W
  obtain ⟨RES, hRES⟩ : ∃ R, R = rightT s := ⟨_, rfl⟩
  have HRES : Hid (RES = rightT s) := hRES
  rw [← hRES]
  clear hRES
  obtain ⟨c0, c1, c2, c3, c4, c5, c6, c7, c8, c9, c10, c11, c12, c13, c14, c15, c16⟩ := st_cells (st_new s w 24)
  have B0 : Hid (Below w.heap.size w (w.alloc (.cells (stA s) 24))) := (Below.refl _ _).alloc (Nat.le_refl _) _
  cases h1 : inT s.sw 2 6 with
  | false =>
    have HR : Hid (RES = false) := by show _ = _; rw [HRES.out]; unfold rightT bdT inP; simp only [List.all_cons, List.all_nil, h1, Bool.false_and, Bool.and_true]
    go_enter Try.func11, Try.ntmps11
    go_wp2_with (go_at_call 26; refine (RS.out _ _ _ _).mono ?_; rintro e w' ⟨rfl, rfl⟩)
    go_ret
    exact ⟨by rw [HR.out]; rfl, B0.out⟩
  | true =>
    cases h2 : inT s.au 2 s.sw with
    | false =>
      have HR : Hid (RES = false) := by show _ = _; rw [HRES.out]; unfold rightT bdT inP; simp only [List.all_cons, List.all_nil, h1, h2, Bool.true_and, Bool.false_and, Bool.and_true]
      go_enter Try.func11, Try.ntmps11
      go_wp2_with (go_at_call 26; refine (RS.out _ _ _ _).mono ?_; rintro e w' ⟨rfl, rfl⟩)
      go_ret
      exact ⟨by rw [HR.out]; rfl, B0.out⟩
    | true =>
      cases h3 : inT s.ca 0 2048 with
      | false =>
        have HR : Hid (RES = false) := by show _ = _; rw [HRES.out]; unfold rightT bdT inP; simp only [List.all_cons, List.all_nil, h1, h2, h3, Bool.true_and, Bool.false_and, Bool.and_true]
        go_enter Try.func11, Try.ntmps11
        go_wp2_with (go_at_call 26; refine (RS.out _ _ _ _).mono ?_; rintro e w' ⟨rfl, rfl⟩)
        go_ret
        exact ⟨by rw [HR.out]; rfl, B0.out⟩
      | true =>
        cases h4 : inT s.ro 2 2048 with
        | false =>
          have HR : Hid (RES = false) := by show _ = _; rw [HRES.out]; unfold rightT bdT inP; simp only [List.all_cons, List.all_nil, h1, h2, h3, h4, Bool.true_and, Bool.false_and, Bool.and_true]
          go_enter Try.func11, Try.ntmps11
          go_wp2_with (go_at_call 26; refine (RS.out _ _ _ _).mono ?_; rintro e w' ⟨rfl, rfl⟩)
          go_ret
          exact ⟨by rw [HR.out]; rfl, B0.out⟩
        | true =>
          cases h5 : inT s.pa 2 64 with
          | false =>
            have HR : Hid (RES = false) := by show _ = _; rw [HRES.out]; unfold rightT bdT inP; simp only [List.all_cons, List.all_nil, h1, h2, h3, h4, h5, Bool.true_and, Bool.false_and, Bool.and_true]
            go_enter Try.func11, Try.ntmps11
            go_wp2_with (go_at_call 26; refine (RS.out _ _ _ _).mono ?_; rintro e w' ⟨rfl, rfl⟩)
            go_ret
            exact ⟨by rw [HR.out]; rfl, B0.out⟩
          | true =>
            cases h6 : inT s.idl 0 1000 with
            | false =>
              have HR : Hid (RES = false) := by show _ = _; rw [HRES.out]; unfold rightT bdT inP; simp only [List.all_cons, List.all_nil, h1, h2, h3, h4, h5, h6, Bool.true_and, Bool.false_and, Bool.and_true]
              go_enter Try.func11, Try.ntmps11
              go_wp2_with (go_at_call 26; refine (RS.out _ _ _ _).mono ?_; rintro e w' ⟨rfl, rfl⟩)
              go_ret
              exact ⟨by rw [HR.out]; rfl, B0.out⟩
            | true =>
              cases h7 : inT s.hd 0 1000 with
              | false =>
                have HR : Hid (RES = false) := by show _ = _; rw [HRES.out]; unfold rightT bdT inP; simp only [List.all_cons, List.all_nil, h1, h2, h3, h4, h5, h6, h7, Bool.true_and, Bool.false_and, Bool.and_true]
                go_enter Try.func11, Try.ntmps11
                go_wp2_with (go_at_call 26; refine (RS.out _ _ _ _).mono ?_; rintro e w' ⟨rfl, rfl⟩)
                go_ret
                exact ⟨by rw [HR.out]; rfl, B0.out⟩
              | true =>
                cases h8 : inT s.gr 1 512 with
                | false =>
                  have HR : Hid (RES = false) := by show _ = _; rw [HRES.out]; unfold rightT bdT inP; simp only [List.all_cons, List.all_nil, h1, h2, h3, h4, h5, h6, h7, h8, Bool.true_and, Bool.false_and, Bool.and_true]
                  go_enter Try.func11, Try.ntmps11
                  go_wp2_with (go_at_call 26; refine (RS.out _ _ _ _).mono ?_; rintro e w' ⟨rfl, rfl⟩)
                  go_ret
                  exact ⟨by rw [HR.out]; rfl, B0.out⟩
                | true =>
                  cases h9 : inT s.wi 1 64 with
                  | false =>
                    have HR : Hid (RES = false) := by show _ = _; rw [HRES.out]; unfold rightT bdT inP; simp only [List.all_cons, List.all_nil, h1, h2, h3, h4, h5, h6, h7, h8, h9, Bool.true_and, Bool.false_and, Bool.and_true]
                    go_enter Try.func11, Try.ntmps11
                    go_wp2_with (go_at_call 26; refine (RS.out _ _ _ _).mono ?_; rintro e w' ⟨rfl, rfl⟩)
                    go_ret
                    exact ⟨by rw [HR.out]; rfl, B0.out⟩
                  | true =>
                    cases h10 : inT s.wa 1 64 with
                    | false =>
                      have HR : Hid (RES = false) := by show _ = _; rw [HRES.out]; unfold rightT bdT inP; simp only [List.all_cons, List.all_nil, h1, h2, h3, h4, h5, h6, h7, h8, h9, h10, Bool.true_and, Bool.false_and, Bool.and_true]
                      go_enter Try.func11, Try.ntmps11
                      go_wp2_with (go_at_call 26; refine (RS.out _ _ _ _).mono ?_; rintro e w' ⟨rfl, rfl⟩)
                      go_ret
                      exact ⟨by rw [HR.out]; rfl, B0.out⟩
                    | true =>
                      cases h11 : inT s.tr 1 8 with
                      | false =>
                        have HR : Hid (RES = false) := by show _ = _; rw [HRES.out]; unfold rightT bdT inP; simp only [List.all_cons, List.all_nil, h1, h2, h3, h4, h5, h6, h7, h8, h9, h10, h11, Bool.true_and, Bool.false_and, Bool.and_true]
                        go_enter Try.func11, Try.ntmps11
                        go_wp2_with (go_at_call 26; refine (RS.out _ _ _ _).mono ?_; rintro e w' ⟨rfl, rfl⟩)
                        go_ret
                        exact ⟨by rw [HR.out]; rfl, B0.out⟩
                      | true =>
                        cases h12 : inT s.ti 2 100 with
                        | false =>
                          have HR : Hid (RES = false) := by show _ = _; rw [HRES.out]; unfold rightT bdT inP; simp only [List.all_cons, List.all_nil, h1, h2, h3, h4, h5, h6, h7, h8, h9, h10, h11, h12, Bool.true_and, Bool.false_and, Bool.and_true]
                          go_enter Try.func11, Try.ntmps11
                          go_wp2_with (go_at_call 26; refine (RS.out _ _ _ _).mono ?_; rintro e w' ⟨rfl, rfl⟩)
                          go_ret
                          exact ⟨by rw [HR.out]; rfl, B0.out⟩
                        | true =>
                          cases h13 : inT s.be 1 20 with
                          | false =>
                            have HR : Hid (RES = false) := by show _ = _; rw [HRES.out]; unfold rightT bdT inP; simp only [List.all_cons, List.all_nil, h1, h2, h3, h4, h5, h6, h7, h8, h9, h10, h11, h12, h13, Bool.true_and, Bool.false_and, Bool.and_true]
                            go_enter Try.func11, Try.ntmps11
                            go_wp2_with (go_at_call 26; refine (RS.out _ _ _ _).mono ?_; rintro e w' ⟨rfl, rfl⟩)
                            go_ret
                            exact ⟨by rw [HR.out]; rfl, B0.out⟩
                          | true =>
                            cases h14 : inT s.le (wrap64 (3 * s.be)) 200 with
                            | false =>
                              have HR : Hid (RES = false) := by show _ = _; rw [HRES.out]; unfold rightT bdT inP; simp only [List.all_cons, List.all_nil, h1, h2, h3, h4, h5, h6, h7, h8, h9, h10, h11, h12, h13, h14, Bool.true_and, Bool.false_and, Bool.and_true]
                              go_enter Try.func11, Try.ntmps11
                              go_wp2_with (go_at_call 26; refine (RS.out _ _ _ _).mono ?_; rintro e w' ⟨rfl, rfl⟩)
                              go_ret
                              exact ⟨by rw [HR.out]; rfl, B0.out⟩
                            | true =>
                              cases h15 : inT s.lo (wrap64 (3 * s.be)) 200 with
                              | false =>
                                have HR : Hid (RES = false) := by show _ = _; rw [HRES.out]; unfold rightT bdT inP; simp only [List.all_cons, List.all_nil, h1, h2, h3, h4, h5, h6, h7, h8, h9, h10, h11, h12, h13, h14, h15, Bool.true_and, Bool.false_and, Bool.and_true]
                                go_enter Try.func11, Try.ntmps11
                                go_wp2_with (go_at_call 26; refine (RS.out _ _ _ _).mono ?_; rintro e w' ⟨rfl, rfl⟩)
                                go_ret
                                exact ⟨by rw [HR.out]; rfl, B0.out⟩
                              | true =>
                                cases h16 : inT s.qu (wrap64 (wrap64 (wrap64 (2 * s.wa) + s.wi) + 8)) 512 with
                                | false =>
                                  have HR : Hid (RES = false) := by show _ = _; rw [HRES.out]; unfold rightT bdT inP; simp only [List.all_cons, List.all_nil, h1, h2, h3, h4, h5, h6, h7, h8, h9, h10, h11, h12, h13, h14, h15, h16, Bool.true_and, Bool.and_true]
                                  go_enter Try.func11, Try.ntmps11
                                  go_wp2_with (go_at_call 26; refine (RS.out _ _ _ _).mono ?_; rintro e w' ⟨rfl, rfl⟩)
                                  go_ret
                                  exact ⟨by rw [HR.out]; rfl, B0.out⟩
                                | true =>
                                  have HR : Hid (RES = true) := by show _ = _; rw [HRES.out]; unfold rightT bdT inP; simp only [List.all_cons, List.all_nil, h1, h2, h3, h4, h5, h6, h7, h8, h9, h10, h11, h12, h13, h14, h15, h16, Bool.and_true]
                                  go_enter Try.func11, Try.ntmps11
                                  go_wp2_with (go_at_call 26; refine (RS.out _ _ _ _).mono ?_; rintro e w' ⟨rfl, rfl⟩)
                                  go_ret
                                  exact ⟨by rw [HR.out]; rfl, B0.out⟩
end Go.Proofs.Ytpbinkmeldkehaa
namespace Go.Proofs.Ytpbinkmeldkehaa
open Go Go.Lib Go.RowKit
set_option maxRecDepth 20000

theorem qlA {E : Ag} (H : E.Ok) {C : World → Prop} {ops : Array Oper} {Q : Act → Prop} {rest : List Oper} {o : Oper} {a : Act} (hw : Region.wanted o (yielded ops a.tmps) = true) (x : Operand) (ho : o.op = .load E.elem x)
    (g off : Nat) (hx : a.eval x = .pointer (some ⟨g, off, none⟩)) (cur : Array Value) (t : TypeId) (fr : Nat × Nat) (cs : Array Value) (hcs : cs.size = E.size) (hg : ∀ w', C w' → w'.heap[g]? = some (.cells cur t fr)) (hc : ∀ j, j < E.size → cur[off + j]? = cs[j]?)
    (h : wpQuiet Try.prog ops C Q rest (a.put o.dst (.agg cs))) : wpQuiet Try.prog ops C Q (o :: rest) a := by
  refine BigFrame.wpQuiet_want hw fun K hK => ⟨.agg cs, fun w hC => ?_, hK _ h⟩
  unfold Oper.quietAt execOp
  simp only [ho, hx, Instr.loadAt, Instr.sureAddr, Sem.run_bind, Sem.run_pure, Result.andThen_ok, H.load w g off cur t fr cs hcs (hg w hC) hc]
  exact ⟨rfl, rfl⟩
set_option maxHeartbeats 8000000 in
set_option maxRecDepth 100000 in
theorem lawPRight_any (s : Stp) (w : World) : Calls Try.prog 3 #[.agg (stA s)] w fun e w' => e = .returned (.bool true) ∧ Below w.heap.size w w' := by
  have AW : Hid (∀ W, Calls Try.prog 9 #[] W fun e w' => e = .returned (.bool true) ∧ Below W.heap.size W w') := fun W => awake14_any W
  obtain ⟨r, hr⟩ : ∃ r, r = rightT s := ⟨_, rfl⟩
  have R1 : Hid (∀ W, Calls Try.prog 10 #[.agg (stA s)] W fun e w' => e = .returned (.bool r) ∧ Below W.heap.size W w') := fun W => by rw [hr]; exact right_any s W
  have R2 : Hid (∀ W, Calls Try.prog 11 #[.agg (stA s)] W fun e w' => e = .returned (.bool r) ∧ Below W.heap.size W w') := fun W => by rw [hr]; exact rright_any s W
  clear hr
  have SA : Hid ((w.alloc (.cells (stA s) 24)).heap[w.heap.size]? = some (.cells (stA s) 24 (0, 0))) := heap_new _ _ _ rfl
  have BA : Hid (Below w.heap.size w (w.alloc (.cells (stA s) 24))) := (Below.refl _ _).alloc (Nat.le_refl _) _
  go_enter Try.func3, Try.ntmps3
  go_wp2_with fail
  refine (AW.out _).mono ?_
  rintro e w1 ⟨rfl, hb1⟩
  have B1 : Hid (Below w.heap.size w w1) := BA.out.trans (hb1.mono BA.out.size)
  have S1 : Hid (w1.heap[w.heap.size]? = some (.cells (stA s) 24 (0, 0))) := (hb1.block _ (Array.getElem?_eq_some_iff.1 SA.out).1).trans SA.out
  clear hb1 SA BA
  go_wp2_with fail
  refine region_cut (fun a a' w' => ∃ y5 y6 y7 y8 y9, a' = (((((a.put (some 5) y5).put (some 6) y6).put (some 7) y7).put (some 8) y8).put (some 9) y9).put (some 2) (.bool true) ∧ Below w1.heap.size w1 w') ?_ ?_
  · have hd0 : Below w1.heap.size w1 (World.drew w1) := (Below.refl _ _).drew
    refine region_beginS (InS w.heap.size s) 6 rfl (by kernel_rfl) ?_
    refine region_reads 0 1 5 rfl (by kernel_rfl) (by kernel_rfl) (by kernel_rfl) (by intro d v c a w h; exact absurd h.1 (by simp)) (InS.of (w := World.drew w1) S1.out) ?_
    simp only [List.drop_zero, List.take_succ_cons, List.take_zero]
    refine qlA StpOk rfl _ rfl w.heap.size 0 rfl _ _ _ (stA s) rfl (by rintro w' ⟨z, rfl⟩; exact z.k1) (own_cells _ _) ?_
    simp only [Act.put, List.setIfInBounds_toArray, List.set_cons_succ, List.set_cons_zero]
    refine wpQuiet_nil ?_
    refine region_reads 2 1 4 rfl (by kernel_rfl) (by kernel_rfl) (by kernel_rfl) (by intro d v c a w h; exact absurd h.1 (by simp)) (InS.of (w := World.drew w1) S1.out) ?_
    simp only [List.drop_succ_cons, List.drop_zero, List.take_succ_cons, List.take_zero]
    refine qlA StpOk rfl _ rfl w.heap.size 0 rfl _ _ _ (stA s) rfl (by rintro w' ⟨z, rfl⟩; exact z.k1) (own_cells _ _) ?_
    simp only [Act.put, List.setIfInBounds_toArray, List.set_cons_succ, List.set_cons_zero]
    refine wpQuiet_nil ?_
    refine wpAnyH_all (rs := [1]) (by kernel_rfl) (by decide) ?_
    intro i hi
    obtain rfl := List.mem_singleton.1 hi
    refine wpOp_call rfl rfl 10 #[.tmp 5] (by intro b w; have hf := Try.func10; simp [go_sem]) #[.agg (stA s)] rfl (fun v w' => v = .bool r ∧ Below (World.drew w1).heap.size (World.drew w1) w') ((R1.out _).mono fun e w' h => ⟨_, h.1, rfl, h.2⟩) (some 6) rfl ?_
    rintro v x1 ⟨rfl, k1⟩
    have h1 : Below w1.heap.size w1 x1 := hd0.trans (k1.mono hd0.size)
    have s1 : x1.heap[w.heap.size]? = some (.cells (stA s) 24 (0, 0)) := (h1.block _ (Array.getElem?_eq_some_iff.1 S1.out).1).trans S1.out
    refine ⟨InS.of s1, ?_⟩
    simp only [Act.put, List.setIfInBounds_toArray, List.set_cons_succ, List.set_cons_zero]
    refine wpAnyH_all (rs := [3]) (by kernel_rfl) (by decide) ?_
    intro i hi
    obtain rfl := List.mem_singleton.1 hi
    refine wpOp_call rfl rfl 11 #[.tmp 7] (by intro b w; have hf := Try.func11; simp [go_sem]) #[.agg (stA s)] rfl (fun v w' => v = .bool r ∧ Below x1.heap.size x1 w') ((R2.out _).mono fun e w' h => ⟨_, h.1, rfl, h.2⟩) (some 8) rfl ?_
    rintro v x2 ⟨rfl, k2⟩
    have h2 : Below w1.heap.size w1 x2 := h1.trans (k2.mono h1.size)
    have s2 : x2.heap[w.heap.size]? = some (.cells (stA s) 24 (0, 0)) := (h2.block _ (Array.getElem?_eq_some_iff.1 S1.out).1).trans S1.out
    refine ⟨InS.of s2, ?_⟩
    simp only [Act.put, List.setIfInBounds_toArray, List.set_cons_succ, List.set_cons_zero]
    refine wpAnyH_all (rs := [4]) (by kernel_rfl) (by decide) ?_
    intro i hi
    obtain rfl := List.mem_singleton.1 hi
    refine wpOp_val (w' := x2) rfl rfl (.bool true) (by simp [go_sem]) (some 9) rfl ?_
    refine ⟨InS.of s2, ?_⟩
    simp only [Act.put, List.setIfInBounds_toArray, List.set_cons_succ, List.set_cons_zero]
    refine wpAnyH_all (rs := [5]) (by kernel_rfl) (by decide) ?_
    intro i hi
    obtain rfl := List.mem_singleton.1 hi
    refine wpOp_assign rfl rfl _ rfl _ rfl (some 2) rfl ?_
    refine ⟨InS.of s2, ?_⟩
    refine wpAnyH_done (by kernel_rfl) ?_ _
    exact ⟨rfl, _, _, _, _, _, rfl, h2⟩
  rintro a' w' ⟨y5, y6, y7, y8, y9, rfl, hb⟩
  have B2 : Hid (Below w.heap.size w w') := B1.out.trans (hb.mono B1.out.size)
  simp only [Act.put, List.setIfInBounds_toArray, List.set_cons_succ, List.set_cons_zero]
  go_wp2_with fail
  go_ret
  exact ⟨rfl, B2.out⟩
end Go.Proofs.Ytpbinkmeldkehaa
namespace Go.Proofs.Ytpbinkmeldkehaa
open Go Go.RowKit
set_option maxRecDepth 20000

/-- A drawn region whose last operation waits for all others, one of which (m) may change what lies in memory, while all others make memory at most. -/
theorem region_mid2 {P : Program} {id : Nat} {Q : Exit → Act → World → Prop} {a0 : Act} {w0 : World} {lo : List Oper} (n m : Nat) (V : Nat → Value → World → Prop) (I : Bool → World → Prop) (D : List Nat) (hm : P.follows .mixedOrders = true) (hmn : m < n)
    (hn : lo.length = n + 1) (hD : (lo.filterMap (·.dst)) = D) (D0 : List Nat) (hD0 : ((lo.take n).filterMap (·.dst)) = D0) (hnd : D.Nodup) (hsz : ∀ d ∈ D, d < a0.tmps.size) (hdag : (lo.zipIdx.all fun x => x.1.after.all fun e => decide (e.on < x.2)) = true)
    (hlast : (lo[n]?).map (fun o => (List.range n).all fun j => o.after.any fun e => e.on == j && Region.binds .any e) = some true)
    (hV : ∀ j v w w', V j v w → Below w.heap.size w w' → V j v w') (hI : ∀ b w w', I b w → Below w.heap.size w w' → I b w') (hI0 : I false w0.drew)
    (hop : ∀ i o, lo[i]? = some o → i < n → i ≠ m → ∀ b a w, AtM lo.toArray V D0 I b a0 o a w → wpOp P lo.toArray Q i (fun a' w' => ∃ v, a' = a.put o.dst v ∧ Below w.heap.size w w' ∧ ∀ d, o.dst = some d → V i v w') a w)
    (hmid : ∀ o, lo[m]? = some o → ∀ a w, AtM lo.toArray V D0 I false a0 o a w → wpOp P lo.toArray Q m (fun a' w' => ∃ v, a' = a.put o.dst v ∧ I true w' ∧ (∀ j u, j ≠ m → V j u w → V j u w') ∧ ∀ d, o.dst = some d → V m v w') a w)
    (hend : ∀ a w, I true w → a.tmps.size = a0.tmps.size → a.defers = a0.defers → (∀ d, d ∉ D0 → a.eval (.tmp d) = a0.eval (.tmp d)) → (∀ j o d, j < n → lo[j]? = some o → o.dst = some d → V j (a.eval (.tmp d)) w) → wpOp P lo.toArray Q n (fun a' w' => Q .normal a' w') a w) : (Code.region id lo.toArray true).wp P Q a0 w0 := by
  refine wp_region_any hm ?_
  have hdag' : ∀ (i : Nat) (o : Oper), lo.toArray[i]? = some o → ∀ e ∈ o.after, e.on < i := fun i o ho e he => by
    rw [List.all_eq_true] at hdag
    have ho' : lo[i]? = some o := by simpa using ho
    obtain ⟨hi, rfl⟩ := List.getElem?_eq_some_iff.1 ho'
    have := hdag (lo[i], i) (List.mem_zipIdx_iff_getElem?.2 (List.getElem?_eq_getElem hi))
    simp only [Array.all_eq_true_iff_forall_mem] at this
    simpa using this e he
  have hnd' := hnd
  have hDa : (lo.toArray.toList.filterMap (·.dst)) = D := by simpa using hD
  have inD : ∀ (i : Nat) (o : Oper) (d : Nat), lo.toArray[i]? = some o → o.dst = some d → d ∈ D := fun i o d ho hd => by
    rw [← hD, List.mem_filterMap]
    exact ⟨o, List.mem_of_getElem? (by simpa using ho), hd⟩
  have inD0 : ∀ (i : Nat) (o : Oper) (d : Nat), i < n → lo.toArray[i]? = some o → o.dst = some d → d ∈ D0 := fun i o d hi ho hd => by
    rw [← hD0, List.mem_filterMap]
    refine ⟨o, List.mem_of_getElem? (i := i) ?_, hd⟩
    rw [List.getElem?_take_of_lt hi]
    simpa using ho
  have key : ∀ (f : Nat) (listed : Array Bool) (a : Act) (w : World), listed.toList.count false = f → listed.size = n + 1 → listed.getD n true = false → InvM lo.toArray V D0 I m a0 listed a w → wpAny P .any lo.toArray Q f listed a w := by
    intro f
    induction f with
    | zero =>
      intro listed a w hc hs hln inv
      exfalso
      have : false ∈ listed.toList := by
        rw [Array.getD_eq_getD_getElem?, Array.getElem?_eq_getElem (by omega)] at hln
        have h3 : listed[n]'(by omega) = false := by simpa using hln
        rw [← h3]; exact Array.mem_toList_iff.2 (Array.getElem_mem (by omega))
      have := List.count_pos_iff.2 this
      omega
    | succ f ih =>
      intro listed a w hc hs hln inv
      refine ⟨fun hr => absurd hr (ready_some (by simpa [hn] using hs) hdag' n hln), fun i hi => ?_⟩
      obtain ⟨hiu, o, ho, hdeps⟩ := mem_ready.1 hi
      have hil : i < listed.size := by
        rw [Array.getD_eq_getD_getElem?] at hiu
        rcases Nat.lt_or_ge i listed.size with h1 | h1
        · exact h1
        · rw [Array.getElem?_eq_none h1] at hiu; simp at hiu
      have hcnt := falses_set listed i hiu
      by_cases hin : i = n
      · subst hin
        have hol : lo[i]? = some o := by simpa using ho
        have hall : ∀ j, j < i → listed.getD j false = true := fun j hj => by
          rw [hol] at hlast
          simp only [Option.map_some, Option.some.injEq, List.all_eq_true, List.mem_range] at hlast
          have := hlast j hj
          rw [Array.any_eq_true'] at this
          obtain ⟨e, he, hb⟩ := this
          simp only [Bool.and_eq_true, beq_iff_eq] at hb
          rw [← hb.1]
          exact hdeps e he hb.2
        refine wpOp_mono (fun a' w' hQ => ?_) (hend a w (by have := inv.wld; rwa [hall m hmn] at this) inv.size inv.defers inv.other (fun j oj d hj hoj hd => inv.has j oj d (by simpa using hoj) hd (hall j hj)))
        have h0 : (listed.setIfInBounds i true).toList.count false = 0 := by
          rw [List.count_eq_zero]
          intro hmem
          obtain ⟨j, hj, hje⟩ := List.mem_iff_getElem.1 hmem
          rw [Array.getElem_toList] at hje
          have hj' : j < listed.size := by simpa using hj
          by_cases hji : i = j
          · subst hji
            rw [Array.getElem_setIfInBounds_self] at hje
            simp at hje
          · rw [Array.getElem_setIfInBounds_ne hj' hji] at hje
            have := hall j (by omega)
            rw [Array.getD_eq_getD_getElem?, Array.getElem?_eq_getElem hj'] at this
            simp [hje] at this
        obtain rfl : f = 0 := by omega
        exact ⟨ready_none h0, hQ⟩
      · have hlt : i < n := by omega
        have hol : lo[i]? = some o := by simpa using ho
        by_cases him : i = m
        · subst him
          have hno : listed.getD i false = false := getD_tf hiu
          refine wpOp_mono (fun a' w' hK => ?_) (hmid o hol a w ⟨by have := inv.wld; rwa [hno] at this, inv.size, inv.defers, inv.other, fun e he hb oj d hoj hd => inv.has e.on oj d hoj hd (hdeps e he hb)⟩)
          obtain ⟨v, rfl, hIw, hst, hv⟩ := hK
          have hset : (listed.setIfInBounds i true).getD i false = true := by
            rw [Array.getD_eq_getD_getElem?, Array.getElem?_setIfInBounds_self_of_lt hil]; rfl
          refine ih _ _ _ (by omega) (by simpa using hs) (by rw [getD_set_ne' hin]; exact hln) ⟨by rw [hset]; exact hIw, by rw [size_put]; exact inv.size, ?_, fun d hd => ?_, fun j oj d hoj hd hlj => ?_⟩
          · have : (a.put o.dst v).defers = a.defers := by cases o.dst <;> rfl
            rw [this]; exact inv.defers
          · cases hdo : o.dst with
            | none => exact inv.other d hd
            | some k =>
              rw [eval_put _ _ _ _ (by rw [inv.size]; exact hsz k (inD i o k ho hdo)), if_neg (fun h : d = k => hd (by rw [h]; exact inD0 i o k hlt ho hdo))]
              exact inv.other d hd
          · by_cases hji : j = i
            · subst hji
              obtain rfl : oj = o := Option.some.inj (hoj.symm.trans ho)
              rw [hd, eval_put _ _ _ _ (by rw [inv.size]; exact hsz d (inD j oj d ho hd)), if_pos rfl]
              exact hv d hd
            · rw [getD_set_ne' (Ne.symm hji)] at hlj
              have h1 := hst _ _ hji (inv.has j oj d hoj hd hlj)
              cases hdo : o.dst with
              | none => exact h1
              | some k =>
                have hkd : ¬ d = k := fun h => hji (dst_apart hDa hnd' hoj ho hd (by rw [h]; exact hdo))
                rw [eval_put _ _ _ _ (by rw [inv.size]; exact hsz k (inD i o k ho hdo)), if_neg hkd]
                exact h1
        · refine wpOp_mono (fun a' w' hK => ?_) (hop i o hol hlt him (listed.getD m false) a w ⟨inv.wld, inv.size, inv.defers, inv.other, fun e he hb oj d hoj hd => inv.has e.on oj d hoj hd (hdeps e he hb)⟩)
          obtain ⟨v, rfl, hbw, hv⟩ := hK
          refine ih _ _ _ (by omega) (by simpa using hs) (by rw [getD_set_ne' hin]; exact hln) ⟨by rw [getD_set_ne' him]; exact hI _ _ _ inv.wld hbw, by rw [size_put]; exact inv.size, ?_, fun d hd => ?_, fun j oj d hoj hd hlj => ?_⟩
          · have : (a.put o.dst v).defers = a.defers := by cases o.dst <;> rfl
            rw [this]; exact inv.defers
          · cases hdo : o.dst with
            | none => exact inv.other d hd
            | some k =>
              rw [eval_put _ _ _ _ (by rw [inv.size]; exact hsz k (inD i o k ho hdo)), if_neg (fun h : d = k => hd (by rw [h]; exact inD0 i o k hlt ho hdo))]
              exact inv.other d hd
          · by_cases hji : j = i
            · subst hji
              obtain rfl : oj = o := Option.some.inj (hoj.symm.trans ho)
              rw [hd, eval_put _ _ _ _ (by rw [inv.size]; exact hsz d (inD j oj d ho hd)), if_pos rfl]
              exact hv d hd
            · rw [getD_set_ne' (Ne.symm hji)] at hlj
              have h1 := (fun h => hV _ _ _ _ h hbw) (inv.has j oj d hoj hd hlj)
              cases hdo : o.dst with
              | none => exact h1
              | some k =>
                have hkd : ¬ d = k := fun h => hji (dst_apart hDa hnd' hoj ho hd (by rw [h]; exact hdo))
                rw [eval_put _ _ _ _ (by rw [inv.size]; exact hsz k (inD i o k ho hdo)), if_neg hkd]
                exact h1
  have hrep : (Array.replicate lo.toArray.size false).toList.count false = lo.toArray.size := by simp
  refine key _ _ _ _ hrep (by simp [hn]) ?_ ⟨?_, rfl, rfl, fun _ _ => rfl, fun j o d _ _ hl => ?_⟩
  · rw [Array.getD_eq_getD_getElem?, Array.getElem?_eq_getElem (by simp [hn])]
    simp
  · rw [Array.getD_eq_getD_getElem?, Array.getElem?_eq_getElem (by simp [hn]; omega)]
    simpa using hI0
  · exfalso
    rw [Array.getD_eq_getD_getElem?] at hl
    rcases Nat.lt_or_ge j (Array.replicate lo.toArray.size false).size with h1 | h1
    · rw [Array.getElem?_eq_getElem h1] at hl; simp at hl
    · rw [Array.getElem?_eq_none h1] at hl; simp at hl
end Go.Proofs.Ytpbinkmeldkehaa
namespace Go.Proofs.Ytpbinkmeldkehaa
open Go Go.RowKit
set_option maxRecDepth 20000

theorem clash_at (V M V' M' : List Int) (k : Nat) : (atI V M k + atI V' M' k == 1) = (bt M k && bt M' k && (bt V k != bt V' k)) := by
  unfold atI; cases bt M k <;> cases bt V k <;> cases bt M' k <;> cases bt V' k <;> rfl
theorem min_ne2 (V M V' M' : List Int) (k : Nat) : ((if atI V' M' k < atI V M k then atI V' M' k else atI V M k) != 2) = (bt M k || bt M' k) := by
  unfold atI; cases bt M k <;> cases bt V k <;> cases bt M' k <;> cases bt V' k <;> rfl
theorem min_eq1 (V M V' M' : List Int) (k : Nat) (h : (bt M k && bt M' k && (bt V k != bt V' k)) = false) : ((if atI V' M' k < atI V M k then atI V' M' k else atI V M k) == 1) = ((bt V k && bt M k) || (bt V' k && bt M' k)) := by
  revert h; unfold atI; cases bt M k <;> cases bt V k <;> cases bt M' k <;> cases bt V' k <;> decide

set_option maxHeartbeats 4000000 in
theorem rmeet_any (V M V' M' : List Int) (hV : Byt V) (hM : Byt M) (hV' : Byt V') (hM' : Byt M') (w : World) :
    Calls Try.prog 86 #[.agg (cv V M), .agg (cv V' M')] w fun e w' => e = .returned (meetR V M V' M') ∧ Below w.heap.size w w' := by
  have hVl := hV.1
  have hMl := hM.1
  have hVl' := hV'.1
  have hMl' := hM'.1
  have hzl := Z_byt.1
  obtain ⟨fV, hfV⟩ : ∃ f : Nat → Bool, f = fun i => (bt V i && bt M i) || (bt V' i && bt M' i) := ⟨_, rfl⟩
  obtain ⟨fM, hfM⟩ : ∃ f : Nat → Bool, f = fun i => bt M i || bt M' i := ⟨_, rfl⟩
  have CA : Hid (∀ k : Nat, k < 104 → ∀ W, Calls Try.prog 68 #[.agg (cv V M), .int .i64 (k : Int)] W fun e w' => e = .returned (.int .i64 (atI V M k)) ∧ Below W.heap.size W w') := fun k hk => at_any V M hV hM k hk
  have CB : Hid (∀ k : Nat, k < 104 → ∀ W, Calls Try.prog 68 #[.agg (cv V' M'), .int .i64 (k : Int)] W fun e w' => e = .returned (.int .i64 (atI V' M' k)) ∧ Below W.heap.size W w') := fun k hk => at_any V' M' hV' hM' k hk
  have CS : Hid (∀ k : Nat, k < 104 → (bt M k && bt M' k && (bt V k != bt V' k)) = false → ∀ m, m = (if atI V' M' k < atI V M k then atI V' M' k else atI V M k) → ∀ W, Calls Try.prog 72 #[.agg (cv (upto k fV) (upto k fM)), .int .i64 (k : Int), .int .i64 m] W fun e w' => e = .returned (.agg (cv (upto (k + 1) fV) (upto (k + 1) fM))) ∧ Below W.heap.size W w') := fun k hk hc m hm => by
    have := rset_any _ _ (upto_byt k fV) (upto_byt k fM) k hk m
    rwa [show (m != 2) = fM k by rw [hm, min_ne2, hfM], show (m == 1) = fV k by rw [hm, min_eq1 _ _ _ _ _ hc, hfV], upto_succ, upto_succ] at this
  have HE : Hid (upto 104 fV = meetV V M V' M' ∧ upto 104 fM = meetM M M') := by
    show _ ∧ _
    rw [upto_all, upto_all, hfV, hfM]; exact ⟨rfl, rfl⟩
  clear hV hM hV' hM' hfV hfM
  have lV : ∀ k, (upto k fV).length = 13 := fun k => (upto_byt k fV).1
  have lM : ∀ k, (upto k fM).length = 13 := fun k => (upto_byt k fM).1
  go_enter Try.func86, Try.ntmps86
  go_wp2_with (first
    | (refine wl_zeroC rfl rfl ?_)
    | (refine wl_storeC rfl _ _ rfl (w.heap.size + 3) Z Z rfl rfl _ (heap_new _ _ _ (by simp)) rfl hzl hzl _ (setRow_new _ _ _ _ _ (by simp)) ?_))
  go_loopw [7] (fun i wr => ∃ k : Nat, k ≤ 104 ∧ i = .int .i64 k ∧ (∀ j, j < k → (bt M j && bt M' j && (bt V j != bt V' j)) = false) ∧ wr.heap[w.heap.size]? = some (.cells (cv V M) 42 (0, 0)) ∧ wr.heap[w.heap.size + 1]? = some (.cells (cv V' M') 42 (0, 0)) ∧ wr.heap[w.heap.size + 2]? = some (.cells zeroC 42 (0, 0)) ∧ wr.heap[w.heap.size + 3]? = some (.cells (cv (upto k fV) (upto k fM)) 42 (0, 0)) ∧ Below w.heap.size w wr) (fun i _ => 104 - (intOf i).toNat)
  case atStart => exact ⟨0, Nat.zero_le _, rfl, fun j hj => by omega, heap_past _ _ _ _ (heap_past _ _ _ _ (heap_past _ _ _ _ (heap_new _ _ _ rfl))), heap_past _ _ _ _ (heap_past _ _ _ _ (heap_new _ _ _ (by simp))), heap_past _ _ _ _ (heap_new _ _ _ (by simp)), by rw [upto_zero, upto_zero]; exact heap_new _ _ _ (by simp), ((((Below.refl _ _).alloc (Nat.le_refl _) _).alloc (by simp) _).alloc (by simp; omega) _).alloc (by simp; omega) _⟩
  case round =>
    obtain ⟨k, hk, rfl, hno, g0, g1, g2, g3, hb⟩ := hrel
    have l1 := lV k
    have l2 := lM k
    have l3 := lV (k + 1)
    have l4 := lM (k + 1)
    have HNO : Hid (∀ j, j < k → (bt M j && bt M' j && (bt V j != bt V' j)) = false) := hno
    have hz := (Array.getElem?_eq_some_iff.1 g3).1
    clear hno
    by_cases hlt : k < 104
    · go_wp2_with (first
        | (refine wl_loadC rfl _ rfl w.heap.size rfl V M g0 hVl hMl ?_))
      refine (CA.out k hlt _).mono ?_
      rintro e w1 ⟨rfl, hb1⟩
      have k0 : w1.heap[w.heap.size]? = some (.cells (cv V M) 42 (0, 0)) := by rw [hb1.block _ (by omega)]; exact g0
      have k1 : w1.heap[w.heap.size + 1]? = some (.cells (cv V' M') 42 (0, 0)) := by rw [hb1.block _ (by omega)]; exact g1
      have k2 : w1.heap[w.heap.size + 2]? = some (.cells zeroC 42 (0, 0)) := by rw [hb1.block _ (by omega)]; exact g2
      have k3 : w1.heap[w.heap.size + 3]? = some (.cells (cv (upto k fV) (upto k fM)) 42 (0, 0)) := by rw [hb1.block _ (by omega)]; exact g3
      have B1 := hb.trans (hb1.mono hb.size)
      have hz1 := Nat.lt_of_lt_of_le hz hb1.size
      clear g0 g1 g2 g3 hb hb1 hz
      go_wp2_with (first
        | (refine wl_loadC rfl _ rfl (w.heap.size + 1) rfl V' M' k1 hVl' hMl' ?_))
      refine (CB.out k hlt _).mono ?_
      rintro e w2 ⟨rfl, hb2⟩
      have m0 : w2.heap[w.heap.size]? = some (.cells (cv V M) 42 (0, 0)) := by rw [hb2.block _ (by omega)]; exact k0
      have m1 : w2.heap[w.heap.size + 1]? = some (.cells (cv V' M') 42 (0, 0)) := by rw [hb2.block _ (by omega)]; exact k1
      have m2 : w2.heap[w.heap.size + 2]? = some (.cells zeroC 42 (0, 0)) := by rw [hb2.block _ (by omega)]; exact k2
      have m3 : w2.heap[w.heap.size + 3]? = some (.cells (cv (upto k fV) (upto k fM)) 42 (0, 0)) := by rw [hb2.block _ (by omega)]; exact k3
      have B2 := B1.trans (hb2.mono B1.size)
      have hz2 := Nat.lt_of_lt_of_le hz1 hb2.size
      clear k0 k1 k2 k3 B1 hb2 hz1
      obtain ⟨x, hx⟩ : ∃ x, x = atI V M k := ⟨_, rfl⟩
      obtain ⟨y, hy⟩ : ∃ y, y = atI V' M' k := ⟨_, rfl⟩
      have hxb : 0 ≤ x ∧ x ≤ 2 := by rw [hx]; rcases at_cases V M k with h | h | h <;> rw [h] <;> decide
      have hyb : 0 ≤ y ∧ y ≤ 2 := by rw [hy]; rcases at_cases V' M' k with h | h | h <;> rw [h] <;> decide
      have hcl := clash_at V M V' M' k
      rw [← hx, ← hy] at hcl ⊢
      obtain ⟨hx0, hx2⟩ := hxb
      obtain ⟨hy0, hy2⟩ := hyb
      have HX : Hid (x = atI V M k) := hx
      have HY : Hid (y = atI V' M' k) := hy
      clear hx hy
      by_cases hc : (bt M k && bt M' k && (bt V k != bt V' k)) = true
      · have hxy : (x + y == 1) = true := by rw [hcl, hc]
        have HC : Hid ((bt M k && bt M' k && (bt V k != bt V' k)) = true) := hc
        clear hcl hc
        go_wp2_with (first
          | (refine wl_zeroC rfl rfl ?_)
          | (refine wl_storeC rfl _ _ rfl (w.heap.size + 2) Z Z rfl rfl _ m2 rfl hzl hzl _ rfl ?_))
        refine retCe (p := 4) (u := 5) rfl rfl (w.heap.size + 2) rfl Z Z hzl hzl (setRow_heap _ _ _ _ _ _ m2) _ rfl ⟨?_, below_setRow B2 (by omega) _⟩
        have hme : meets V M V' M' = false := by
          cases e : meets V M V' M'
          · rfl
          · have h3 := HC.out
            simp only [Bool.and_eq_true] at h3
            rw [(meets_iff V M V' M').1 e k hlt h3.1.1 h3.1.2] at h3
            simp at h3
        rw [meetR_no _ _ _ _ hme]; rfl
      · have hc' : (bt M k && bt M' k && (bt V k != bt V' k)) = false := by simpa using hc
        have hxy : (x + y == 1) = false := by rw [hcl, hc']
        have HC : Hid ((bt M k && bt M' k && (bt V k != bt V' k)) = false) := hc'
        clear hcl hc hc'
        by_cases hmin : y < x
        · have D : Hid (∀ W, Calls Try.prog 72 #[.agg (cv (upto k fV) (upto k fM)), .int .i64 (k : Int), .int .i64 y] W fun e w' => e = .returned (.agg (cv (upto (k + 1) fV) (upto (k + 1) fM))) ∧ Below W.heap.size W w') := CS.out k hlt HC.out y (by rw [← HX.out, ← HY.out, if_pos hmin])
          have hmin2 : ¬ x ≤ y := by omega
          have HMN : Hid (y = min x y) := by show _ = _; omega
          go_wp2_with (first
            | (refine wl_minI rfl _ _ rfl x y y rfl rfl HMN.out ?_)
            | (refine wl_loadC rfl _ rfl (w.heap.size + 3) rfl (upto k fV) (upto k fM) m3 l1 l2 ?_))
          refine (D.out _).mono ?_
          rintro e w3 ⟨rfl, hb3⟩
          have p0 : w3.heap[w.heap.size]? = some (.cells (cv V M) 42 (0, 0)) := by rw [hb3.block _ (by omega)]; exact m0
          have p1 : w3.heap[w.heap.size + 1]? = some (.cells (cv V' M') 42 (0, 0)) := by rw [hb3.block _ (by omega)]; exact m1
          have p2 : w3.heap[w.heap.size + 2]? = some (.cells zeroC 42 (0, 0)) := by rw [hb3.block _ (by omega)]; exact m2
          have p3 : w3.heap[w.heap.size + 3]? = some (.cells (cv (upto k fV) (upto k fM)) 42 (0, 0)) := by rw [hb3.block _ (by omega)]; exact m3
          have B3 := B2.trans (hb3.mono B2.size)
          clear m0 m1 m2 m3 B2 hb3 hz2 D
          go_wp2_with (first
            | (refine wl_storeC rfl _ _ rfl (w.heap.size + 3) (upto (k + 1) fV) (upto (k + 1) fM) rfl rfl _ p3 (cv_size _ _ l1 l2) l3 l4 _ rfl ?_))
          go_roundw
          case rel =>
            refine ⟨k + 1, by omega, by go_num, fun j hj => ?_, (setRow_other _ _ _ _ (by omega)).trans p0, (setRow_other _ _ _ _ (by omega)).trans p1, (setRow_other _ _ _ _ (by omega)).trans p2, setRow_heap _ _ _ _ _ _ p3, below_setRow B3 (by omega) _⟩
            by_cases e : j = k
            · subst e; exact HC.out
            · exact HNO.out j (by omega)
          case measure => simp [intOf]; omega
        · have D : Hid (∀ W, Calls Try.prog 72 #[.agg (cv (upto k fV) (upto k fM)), .int .i64 (k : Int), .int .i64 x] W fun e w' => e = .returned (.agg (cv (upto (k + 1) fV) (upto (k + 1) fM))) ∧ Below W.heap.size W w') := CS.out k hlt HC.out x (by rw [← HX.out, ← HY.out, if_neg hmin])
          have hmin2 : x ≤ y := by omega
          have HMN : Hid (x = min x y) := by show _ = _; omega
          go_wp2_with (first
            | (refine wl_minI rfl _ _ rfl x y x rfl rfl HMN.out ?_)
            | (refine wl_loadC rfl _ rfl (w.heap.size + 3) rfl (upto k fV) (upto k fM) m3 l1 l2 ?_))
          refine (D.out _).mono ?_
          rintro e w3 ⟨rfl, hb3⟩
          have p0 : w3.heap[w.heap.size]? = some (.cells (cv V M) 42 (0, 0)) := by rw [hb3.block _ (by omega)]; exact m0
          have p1 : w3.heap[w.heap.size + 1]? = some (.cells (cv V' M') 42 (0, 0)) := by rw [hb3.block _ (by omega)]; exact m1
          have p2 : w3.heap[w.heap.size + 2]? = some (.cells zeroC 42 (0, 0)) := by rw [hb3.block _ (by omega)]; exact m2
          have p3 : w3.heap[w.heap.size + 3]? = some (.cells (cv (upto k fV) (upto k fM)) 42 (0, 0)) := by rw [hb3.block _ (by omega)]; exact m3
          have B3 := B2.trans (hb3.mono B2.size)
          clear m0 m1 m2 m3 B2 hb3 hz2 D
          go_wp2_with (first
            | (refine wl_storeC rfl _ _ rfl (w.heap.size + 3) (upto (k + 1) fV) (upto (k + 1) fM) rfl rfl _ p3 (cv_size _ _ l1 l2) l3 l4 _ rfl ?_))
          go_roundw
          case rel =>
            refine ⟨k + 1, by omega, by go_num, fun j hj => ?_, (setRow_other _ _ _ _ (by omega)).trans p0, (setRow_other _ _ _ _ (by omega)).trans p1, (setRow_other _ _ _ _ (by omega)).trans p2, setRow_heap _ _ _ _ _ _ p3, below_setRow B3 (by omega) _⟩
            by_cases e : j = k
            · subst e; exact HC.out
            · exact HNO.out j (by omega)
          case measure => simp [intOf]; omega
    · obtain rfl : k = 104 := by omega
      rw [HE.out.1, HE.out.2] at g3
      have hAl := (meetV_byt V M V' M').1
      have hBl := (meetM_byt M M').1
      have hme : meets V M V' M' = true := (meets_iff _ _ _ _).2 fun i hi h1 h2 => by
        have := HNO.out i hi
        rw [h1, h2] at this
        simpa using this
      go_wp2_with (first
        | (refine wl_loadC rfl _ rfl (w.heap.size + 3) rfl (meetV V M V' M') (meetM M M') g3 hAl hBl ?_)
        | (refine wl_storeC rfl _ _ rfl (w.heap.size + 2) (meetV V M V' M') (meetM M M') rfl rfl _ g2 rfl hAl hBl _ rfl ?_))
      refine retCe (p := 4) (u := 5) rfl rfl (w.heap.size + 2) rfl _ _ hAl hBl (setRow_heap _ _ _ _ _ _ g2) _ rfl ⟨?_, below_setRow hb (by omega) _⟩
      rw [meetR_yes _ _ _ _ hme]; rfl
end Go.Proofs.Ytpbinkmeldkehaa
