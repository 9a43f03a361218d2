import Derived.Test.YtojhckjdkafpmaaJ15
import Derived.Test.YtojhckjdkafpmaaJ11
import Derived.Test.YtojhckjdkafpmaaJ12
namespace Go.Proofs.Ytojhckjdkafpmaa
open Go Go.RowKit
set_option maxRecDepth 20000

def canC (c : Cub) : Cub := (can c.1 c.2, c.2)
theorem canC_ok {c : Cub} (h : OkC c) : OkC (canC c) := by
  have h1 : Byt (can c.1 c.2) := by unfold can; exact mk_byt _
  exact ⟨h1, h.2⟩
theorem canonC_any (c : Cub) (h : OkC c) (w : World) : Calls Try.prog 44 #[.agg (cv (pad c.1) (pad c.2))] w fun e w' => e = .returned (.agg (cv (pad (canC c).1) (pad (canC c).2))) ∧ Below w.heap.size w w' := by
  have h' := canC_ok h
  rw [pad_id h.1.1, pad_id h.2.1, pad_id h'.1.1, pad_id h'.2.1]
  exact canon_any c.1 c.2 h.1 h.2 w
/-- A slot's cube is stored. -/
theorem storeCub_run {w : World} {q : Nat} {s : Slt} {c : Cub} (hg : w.heap[q]? = some (.cells (slotV s) 38 (0, 0))) :
    (Instr.storeAt 36 (.pointer (some ⟨q, 4, none⟩)) (.agg (cv (pad c.1) (pad c.2)))).run Try.prog w = .ok () (w.setRow q (slotV { s with cube := c })) := by
  have hl : (cv (pad c.1) (pad c.2)).toList.length = 26 := by rw [Array.length_toList, cv_size _ _ (pad_len _) (pad_len _)]
  have hst := run_storeCells_at Try.prog q 4 38 (cv (pad c.1) (pad c.2)).toList 0 (slotV s) w hg (by rw [hl, slotV_size]; decide) (fun u hu => (Array.all_eq_true_iff_forall_mem.1 (cv_one _ _)) u (by simpa using hu))
  rw [Nat.add_zero, hl] at hst
  have hl2 : (cv (pad s.cube.1) (pad s.cube.2)).toList.length = 26 := by rw [Array.length_toList, cv_size _ _ (pad_len _) (pad_len _)]
  have hz : ∀ w, (sizeOf 36).run Try.prog w = .ok 26 w := fun w => by kernel_rfl
  have e : ((slotV s).toList.take 4 ++ (cv (pad c.1) (pad c.2)).toList ++ (slotV s).toList.drop (4 + 26)).toArray = slotV { s with cube := c } := by
    apply Array.ext'
    unfold slotV
    simp only [Array.toList_append]
    rw [List.take_append_of_le_length (by simp), List.append_assoc]
    have e1 : List.drop (4 + 26) (#[Value.int .i64 s.bank, .int .i64 s.epoch, .int .i64 s.place, .int .i64 s.order].toList ++ (cv (pad s.cube.1) (pad s.cube.2)).toList ++ #[Value.int .i64 s.action, .int .i64 s.one, .int .i64 s.two, .int .i64 s.born, .int .i64 s.used, .int .i64 s.count].toList) = #[Value.int .i64 s.action, .int .i64 s.one, .int .i64 s.two, .int .i64 s.born, .int .i64 s.used, .int .i64 s.count].toList := by
      rw [List.drop_append_of_le_length (by rw [List.length_append, hl2]; simp), List.drop_of_length_le (by rw [List.length_append, hl2]; simp), List.nil_append]
    rw [e1]
    simp
  rw [e] at hst
  simp [Instr.storeAt, Instr.sureAddr, storeVar, Sem.run_bind, Value.cells, hst, hz, cv_size _ _ (pad_len _) (pad_len _)]
theorem wl_gSC {P : Program} {ops : Array Oper} {Q : Exit → Act → World → Prop} {o : Oper} {rest : List Oper} {a : Act} {w : World} (x y : Operand) (_ : o.op = .store 36 x y) (h : wpList P ops Q (o :: rest) a w) : wpList P ops Q (o :: rest) a w := h
theorem wl_storeCub {ops : Array Oper} {rest : List Oper} {o : Oper} {a : Act} {w : World} {Q : Exit → Act → World → Prop} (hgd : o.guard = none) (x y : Operand) (ho : o.op = .store 36 x y)
    (q : Nat) (s : Slt) (c : Cub) (hx : a.eval x = .pointer (some ⟨q, 4, none⟩)) (hy : a.eval y = .agg (cv (pad c.1) (pad c.2))) (hg : w.heap[q]? = some (.cells (slotV s) 38 (0, 0))) (w4 : World) (hw4 : w.setRow q (slotV { s with cube := c }) = w4)
    (h : wpList Try.prog ops Q rest (a.put o.dst undef) w4) : wpList Try.prog ops Q (o :: rest) a w := by
  subst hw4
  refine wpList_plain hgd fun K hK => ?_
  unfold Oper.wp execOp
  simp only [ho, hx, hy, Sem.run_bind, Sem.run_pure, Result.andThen_ok, storeCub_run hg]
  exact hK _ _ h
theorem slotV_born (x : Slt) (c : Int) : slotV { x with born := c } = (slotV x).setIfInBounds 33 (.int .i64 c) := by
  unfold slotV
  rw [arr_set _ _ 33 3 _ (by rw [Array.size_append, cv_size _ _ (pad_len _) (pad_len _)]; rfl)]
  rfl
def layB (R : Rm) (S : Bks) (s : Slt) : Bks × Int :=
  if s.bank = 2 then ({ S with a := (layT R.auth S.a s (canC s.cube)).1 }, (layT R.auth S.a s (canC s.cube)).2)
  else if s.bank = 3 then ({ S with p := (layT R.part S.p s (canC s.cube)).1 }, (layT R.part S.p s (canC s.cube)).2)
  else (S, 1)
theorem layB_no {R : Rm} {S : Bks} {s : Slt} (h2 : s.bank ≠ 2) (h3 : s.bank ≠ 3) : layB R S s = (S, 1) := by unfold layB; rw [if_neg h2, if_neg h3]
theorem layB_at {R : Rm} {S : Bks} {s : Slt} {b : Nat} (hb : b = 2 ∨ b = 3) (hs : s.bank = (b : Int)) : layB R S s = (putB S b (layT (roomL R b) (bankL S b) s (canC s.cube)).1, (layT (roomL R b) (bankL S b) s (canC s.cube)).2) := by
  unfold layB
  rcases hb with rfl | rfl
  · rw [if_pos (show s.bank = 2 from hs)]; rfl
  · have hs3 : s.bank = 3 := hs
    rw [if_neg (by omega), if_pos hs3]; rfl
theorem putB_same {S : Bks} {b : Nat} (hb : b = 2 ∨ b = 3) : putB S b (bankL S b) = S := by rcases hb with rfl | rfl <;> rfl
theorem setL_put {S : Bks} {b : Nat} (hb : b = 2 ∨ b = 3) (l : List Slt) : setL S b l = putB S b l := by rcases hb with rfl | rfl <;> rfl
theorem TabV.same {B : Nat} {w w' : World} {g : Nat} {R : Rm} {S : Bks} {v1 v2 v3 : Value} (h : TabV B w g R S v1 v2 v3) (hb : Below w.heap.size w w') : TabTo B w w' g R S v1 v2 v3 := ⟨v1, v2, v3, h.below hb, Kept.of_below hb, fun _ hk => .inl hk⟩
/-- Three numbers of a slot are set to nought. -/
theorem laid_worlds {W : World} {q : Nat} {s : Slt} {cu : Cub} (h : W.heap[q]? = some (.cells (slotV { s with cube := cu }) 38 (0, 0))) :
    W.cell? ⟨q, 33, none⟩ = some (.int .i64 s.born) ∧ W.frozen? ⟨q, 33, none⟩ = false ∧ (W.setCell ⟨q, 33, none⟩ (.int .i64 0)).cell? ⟨q, 34, none⟩ = some (.int .i64 s.used) ∧ (W.setCell ⟨q, 33, none⟩ (.int .i64 0)).frozen? ⟨q, 34, none⟩ = false ∧ ((W.setCell ⟨q, 33, none⟩ (.int .i64 0)).setCell ⟨q, 34, none⟩ (.int .i64 0)).cell? ⟨q, 35, none⟩ = some (.int .i64 s.count) ∧ ((W.setCell ⟨q, 33, none⟩ (.int .i64 0)).setCell ⟨q, 34, none⟩ (.int .i64 0)).frozen? ⟨q, 35, none⟩ = false ∧
    (((W.setCell ⟨q, 33, none⟩ (.int .i64 0)).setCell ⟨q, 34, none⟩ (.int .i64 0)).setCell ⟨q, 35, none⟩ (.int .i64 0)).heap[q]? = some (.cells (slotV (laidS s cu)) 38 (0, 0)) ∧ Kept (isB q) W (((W.setCell ⟨q, 33, none⟩ (.int .i64 0)).setCell ⟨q, 34, none⟩ (.int .i64 0)).setCell ⟨q, 35, none⟩ (.int .i64 0)) := by
  have h1 := heap_setCell_same W q 33 _ _ (.int .i64 0) h
  rw [← slotV_born] at h1
  have h2 := heap_setCell_same _ q 34 _ _ (.int .i64 0) h1
  rw [← slotV_used] at h2
  have h3 := heap_setCell_same _ q 35 _ _ (.int .i64 0) h2
  rw [← slotV_count] at h3
  have f0 := (slf_own h).c33
  have f1 := (slf_own h1).c34
  have f2 := (slf_own h2).c35
  rw [Nat.zero_add] at f0 f1 f2
  have kk : ∀ (W : World) (j : Nat) (u : Value), Kept (isB q) W (W.setCell ⟨q, j, none⟩ u) := fun W j u => ⟨rfl, rfl, rfl, by simp [World.setCell], fun k _ e => heap_setCell_other W ⟨q, j, none⟩ k _ e⟩
  exact ⟨f0, by simp [World.frozen?, h], f1, by simp [World.frozen?, h1], f2, by simp [World.frozen?, h2], h3, ((kk _ _ _).trans (kk _ _ _) fun k hk => .inl hk).trans (kk _ _ _) fun k hk => .inl hk⟩
set_option maxHeartbeats 16000000 in
theorem lay_any (B : Nat) (w : World) (g : Nat) (R : Rm) (S : Bks) (v1 v2 v3 : Value) (h : TabV B w g R S v1 v2 v3) (s : Slt) (hok : OkC s.cube) (hn : ∀ b, (bankL S b).length ≤ 1000000) :
    Calls Try.prog 15 #[.pointer (some ⟨g, 0, none⟩), .agg (slotV s)] w fun e w' => e = .returned (.int .i64 (layB R S s).2) ∧ TabTo B w w' g R (layB R S s).1 v1 v2 v3 := by
  have B0 : Hid (Below w.heap.size w (w.alloc (.cells (slotV s) 38))) := (Below.refl _ _).alloc (Nat.le_refl _) _
  have c0 := (new_slf w s 38).c0
  have Q0 : Hid ((w.alloc (.cells (slotV s) 38)).heap[w.heap.size]? = some (.cells (slotV s) 38 (0, 0))) := heap_new _ _ _ rfl
  by_cases hb2 : s.bank = 2 ∨ s.bank = 3
  · obtain ⟨b, hbb, hsb⟩ : ∃ b : Nat, (b = 2 ∨ b = 3) ∧ s.bank = (b : Int) := by
      rcases hb2 with e | e
      · exact ⟨2, .inl rfl, e⟩
      · exact ⟨3, .inr rfl, e⟩
    have hb4 : b < 4 := by omega
    have EL := layB_at (R := R) (S := S) hbb hsb
    have CT : Hid (∀ W, Below w.heap.size w W → W.heap[w.heap.size]? = some (.cells (slotV s) 38 (0, 0)) → Calls Try.prog 41 #[bankV v1 v2 v3 b, .func (.func 42) #[] #[.pointer (some ⟨w.heap.size, 0, none⟩)]] W fun e w' => e = .returned (.bool ((bankL S b).any (atS s))) ∧ Below W.heap.size W w') := by
      intro W hb hq
      exact contains_any _ _ W ((h.below hb).bank b).sl (hn b) 42 #[.pointer (some ⟨w.heap.size, 0, none⟩)] (atS s) (fun vs W => by have hf := Try.func42; simp [go_sem]) (fun x W' hW' => lay1_any x s W' _ ((hW'.block _ (Array.getElem?_eq_some_iff.1 hq).1).trans hq))
    have FU : Hid (∀ W, Below w.heap.size w W → Calls Try.prog 43 #[.pointer (some ⟨g, 0, none⟩), .int .i64 (b : Int)] W fun e w' => e = .returned (.bool (decide ((bankL S b).length = roomL R b))) ∧ Below W.heap.size W w') := by
      intro W hb
      exact full_any B W g R S v1 v2 v3 (h.below hb) b hb4
    have CA : Hid (∀ W, Calls Try.prog 44 #[.agg (cv (pad s.cube.1) (pad s.cube.2))] W fun e w' => e = .returned (.agg (cv (pad (canC s.cube).1) (pad (canC s.cube).2))) ∧ Below W.heap.size W w') := canonC_any s.cube hok
    have HT : Hid (TabV B w g R S v1 v2 v3) := h
    rcases hbb with rfl | rfl
    · have hsB : s.bank = 2 := hsb
      rw [hsB] at c0
      have d0 : ∀ u : Later (w.alloc (.cells (slotV s) 38)), u.world.cell? ⟨w.heap.size, 0, none⟩ = some (.int .i64 2) := fun u => by have h9 := (later_slf Q0.out (slf_own Q0.out) u).c0; rw [hsB] at h9; exact h9
      obtain ⟨vb, hvb⟩ : ∃ vb, vb = bankV v1 v2 v3 2 := ⟨_, rfl⟩
      have d1 : ∀ u : Later (w.alloc (.cells (slotV s) 38)), u.world.cell? ⟨g, 6, none⟩ = some vb := fun u => by have h9 := ((HT.out.below B0.out).below u.below).f.bankCell 2 (by decide); rw [← hvb] at h9; exact h9
      have CT1 : Hid (∀ u : Later (w.alloc (.cells (slotV s) 38)), Calls Try.prog 41 #[vb, .func (.func 42) #[] #[.pointer (some ⟨w.heap.size, 0, none⟩)]] u.world fun e w' => e = .returned (.bool ((bankL S 2).any (atS s))) ∧ Below u.world.heap.size u.world w') := by intro u; rw [hvb]; exact CT.out u.world (below_step B0.out B0.out.size u.below) (later_block Q0.out _ ⟨u, rfl⟩)
      have ne1 := Later.ne (w.alloc (.cells (slotV s) 38))
      have LL := layT_cases (roomL R 2) (bankL S 2) s (canC s.cube)
      have EL' : Hid (layB R S s = (putB S 2 (layT (roomL R 2) (bankL S 2) s (canC s.cube)).1, (layT (roomL R 2) (bankL S 2) s (canC s.cube)).2)) := EL
      have FU1 : Hid (∀ W, Below w.heap.size w W → Calls Try.prog 43 #[.pointer (some ⟨g, 0, none⟩), .int .i64 2] W fun e w' => e = .returned (.bool (decide ((bankL S 2).length = roomL R 2))) ∧ Below W.heap.size W w') := FU.out
      clear h hb2 CT FU EL hvb hsb
      rcases LL with ⟨hany, el⟩ | ⟨hany, hlen, el⟩ | ⟨hany, hlen, el⟩
      · have CT2 := CT1.out
        rw [hany] at CT2
        have CT2 : Hid _ := CT2
        have ER : Hid (layB R S s = (S, 9)) := by show _ = _; rw [EL'.out, el]; rfl
        clear CT1 el hany EL' FU1
        go_enter Try.func15, Try.ntmps15
        go_wp2_with fail
        refine wp_region_later (by kernel_rfl) (by kernel_rfl) ?_
        go_big_quiet_step (rfl)
        go_big_quiet_step (rfl)
        go_big_quiet_step (rfl)
        refine q_nilT rfl _ rfl _ rfl ?_
        simp only [Act.put, List.setIfInBounds_toArray, List.set_cons_succ, List.set_cons_zero]
        go_big_quiet_step (rfl)
        go_big_quiet_step (rfl)
        go_big_quiet_step (rfl)
        go_big_quiet_step (rfl)
        go_big_quiet_want; go_big_quiet_op
        refine ⟨_, fun u => Calls.later_of (CT2.out u), ?_⟩
        go_big_quiet_on
        go_big_quiet_step (rfl)
        refine wpQuiet_nil ?_
        rintro w' ⟨u, rfl⟩
        have B1 : Hid (Below w.heap.size w u.world) := below_step B0.out B0.out.size u.below
        have Q1 : Hid (u.world.heap[w.heap.size]? = some (.cells (slotV s) 38 (0, 0))) := later_block Q0.out _ ⟨u, rfl⟩
        go_wp2_with fail
        go_ret
        rw [ER.out]
        exact ⟨rfl, HT.out.same B1.out⟩
      · have CT2 := CT1.out
        rw [hany] at CT2
        have CT2 : Hid _ := CT2
        have ER : Hid (layB R S s = (S, 13)) := by show _ = _; rw [EL'.out, el]; rfl
        have FU2 := FU1.out
        rw [show decide ((bankL S 2).length = roomL R 2) = true from decide_eq_true hlen] at FU2
        have FU2 : Hid _ := FU2
        clear CT1 el hany EL' FU1 hlen
        go_enter Try.func15, Try.ntmps15
        go_wp2_with fail
        refine wp_region_later (by kernel_rfl) (by kernel_rfl) ?_
        go_big_quiet_step (rfl)
        go_big_quiet_step (rfl)
        go_big_quiet_step (rfl)
        refine q_nilT rfl _ rfl _ rfl ?_
        simp only [Act.put, List.setIfInBounds_toArray, List.set_cons_succ, List.set_cons_zero]
        go_big_quiet_step (rfl)
        go_big_quiet_step (rfl)
        go_big_quiet_step (rfl)
        go_big_quiet_step (rfl)
        go_big_quiet_want; go_big_quiet_op
        refine ⟨_, fun u => Calls.later_of (CT2.out u), ?_⟩
        go_big_quiet_on
        go_big_quiet_step (rfl)
        refine wpQuiet_nil ?_
        rintro w' ⟨u, rfl⟩
        have B1 : Hid (Below w.heap.size w u.world) := below_step B0.out B0.out.size u.below
        have Q1 : Hid (u.world.heap[w.heap.size]? = some (.cells (slotV s) 38 (0, 0))) := later_block Q0.out _ ⟨u, rfl⟩
        have c8 := (slf_own Q1.out).c0
        rw [hsB] at c8
        go_wp2_with (go_at_call 43; refine (FU2.out u.world B1.out).mono ?_; rintro e w2 ⟨rfl, hb2⟩; have B2 : Hid (Below w.heap.size w w2) := below_step B1.out B1.out.size hb2; have Q2 : Hid (w2.heap[w.heap.size]? = some (.cells (slotV s) 38 (0, 0))) := (hb2.block _ (Array.getElem?_eq_some_iff.1 Q1.out).1).trans Q1.out; have c9 := (slf_own Q2.out).c0; rw [hsB] at c9; clear hb2; refine of_stopS ?_)
        unfold StopS
        go_wp2_with fail
        go_ret
        rw [ER.out]
        exact ⟨rfl, HT.out.same B2.out⟩
      · have CT2 := CT1.out
        rw [hany] at CT2
        have CT2 : Hid _ := CT2
        have ER : Hid (layB R S s = (putB S 2 (bankL S 2 ++ [laidS s (canC s.cube)]), 0)) := by show _ = _; rw [EL'.out, el]
        have FU2 := FU1.out
        rw [show decide ((bankL S 2).length = roomL R 2) = false from decide_eq_false hlen] at FU2
        have FU2 : Hid _ := FU2
        clear CT1 el hany EL' FU1 hlen
        go_enter Try.func15, Try.ntmps15
        go_wp2_with fail
        refine wp_region_later (by kernel_rfl) (by kernel_rfl) ?_
        go_big_quiet_step (rfl)
        go_big_quiet_step (rfl)
        go_big_quiet_step (rfl)
        refine q_nilT rfl _ rfl _ rfl ?_
        simp only [Act.put, List.setIfInBounds_toArray, List.set_cons_succ, List.set_cons_zero]
        go_big_quiet_step (rfl)
        go_big_quiet_step (rfl)
        go_big_quiet_step (rfl)
        go_big_quiet_step (rfl)
        go_big_quiet_want; go_big_quiet_op
        refine ⟨_, fun u => Calls.later_of (CT2.out u), ?_⟩
        go_big_quiet_on
        go_big_quiet_step (rfl)
        refine wpQuiet_nil ?_
        rintro w' ⟨u, rfl⟩
        have B1 : Hid (Below w.heap.size w u.world) := below_step B0.out B0.out.size u.below
        have Q1 : Hid (u.world.heap[w.heap.size]? = some (.cells (slotV s) 38 (0, 0))) := later_block Q0.out _ ⟨u, rfl⟩
        have c8 := (slf_own Q1.out).c0
        rw [hsB] at c8
        go_wp2_with (go_at_call 43; refine (FU2.out u.world B1.out).mono ?_; rintro e w2 ⟨rfl, hb2⟩; have B2 : Hid (Below w.heap.size w w2) := below_step B1.out B1.out.size hb2; have Q2 : Hid (w2.heap[w.heap.size]? = some (.cells (slotV s) 38 (0, 0))) := (hb2.block _ (Array.getElem?_eq_some_iff.1 Q1.out).1).trans Q1.out; have c9 := (slf_own Q2.out).c0; rw [hsB] at c9; clear hb2; refine of_stopS ?_)
        unfold StopS
        go_wp2_with (first | ((with_reducible refine wl_gC _ rfl ?_); refine wl_loadCw rfl _ rfl w.heap.size 4 rfl _ _ _ (pad s.cube.1) (pad s.cube.2) (pad_len _) (pad_len _) Q2.out (slotV_cube s) ?_) | (go_at_call 44; refine (CA.out _).mono ?_; rintro e w3 ⟨rfl, hb3⟩; have B3 : Hid (Below w.heap.size w w3) := below_step B2.out B2.out.size hb3; have Q3 : Hid (w3.heap[w.heap.size]? = some (.cells (slotV s) 38 (0, 0))) := (hb3.block _ (Array.getElem?_eq_some_iff.1 Q2.out).1).trans Q2.out; clear hb3; refine of_stopS ?_))
        unfold StopS
        obtain ⟨w4, hw4⟩ : ∃ w4, World.setRow w3 w.heap.size (slotV { s with cube := canC s.cube }) = w4 := ⟨_, rfl⟩
        go_wp2_with (first | ((with_reducible refine wl_gSC _ _ rfl ?_); refine wl_storeCub rfl _ _ rfl w.heap.size s (canC s.cube) rfl rfl Q3.out w4 hw4 ?_; refine of_stopS ?_))
        unfold StopS
        have Q4 : Hid (w4.heap[w.heap.size]? = some (.cells (slotV { s with cube := canC s.cube }) 38 (0, 0))) := by show _ = _; rw [← hw4]; exact setRow_heap _ _ _ _ _ _ Q3.out
        have K4 : Hid (Kept (isB w.heap.size) w3 w4) := by show Kept _ _ _; rw [← hw4]; exact kept_setRow _ _ _
        clear hw4
        obtain ⟨l1, l2, l3, l4, l5, l6, l7, l8⟩ := laid_worlds (W := w4) Q4.out
        have L7 : Hid _ := l7
        have L8 : Hid _ := l8
        clear l7 l8
        go_wp2_with fail
        obtain ⟨w5, hw5⟩ : ∃ w5, w5 = World.setCell (World.setCell (World.setCell w4 ⟨w.heap.size, 33, none⟩ (.int .i64 0)) ⟨w.heap.size, 34, none⟩ (.int .i64 0)) ⟨w.heap.size, 35, none⟩ (.int .i64 0) := ⟨_, rfl⟩
        have Q9 : Hid (w5.heap[w.heap.size]? = some (.cells (slotV (laidS s (canC s.cube))) 38 (0, 0))) := by show _ = _; rw [hw5]; exact L7.out
        have BW9 : Hid (Below w.heap.size w w5) := by show Below _ _ _; rw [hw5]; exact below_kept ((Kept.of_below (X := isB w.heap.size) B3.out).trans (K4.out.trans L8.out fun k hk => .inl hk) fun k hk => .inl hk) fun k hk => by unfold isB at hk; omega
        rw [← hw5]
        clear hw5 l1 l2 l3 l4 l5 l6 L7 L8 K4 Q4
        have TT9 : Hid (TabV B w5 g R S v1 v2 v3) := HT.out.below BW9.out
        have QG9 : Hid (¬ footT g v1 v2 v3 w.heap.size) := by show ¬ _; intro e; have h9 := (HT.out.foot_in _ e).2; omega
        have BB9 : Hid (B ≤ w.heap.size) := by show _ ≤ _; have h9 := HT.out.hB; have h8 := (Array.getElem?_eq_some_iff.1 HT.out.blk).1; omega
        have e9 : ∀ z : KeepO w.heap.size (.cells (slotV (laidS s (canC s.cube))) 38 (0, 0)), z.world.cell? ⟨w.heap.size, 0, none⟩ = some (.int .i64 2) := fun z => by have h9 := (slf_own z.k1).c0; have h8 : (laidS s (canC s.cube)).bank = 2 := hsB; rw [h8] at h9; exact h9
        refine region_cut (fun a a' w' => ∃ y37 y38 y39 y40 y41 y42 y43 y44 y45 y46 y47 y48 y49 y50 y51 y52 v' w9, a' = ((((((((((((((((a.put (some 37) y37).put (some 38) y38).put (some 39) y39).put (some 40) y40).put (some 41) y41).put (some 42) y42).put (some 43) y43).put (some 44) y44).put (some 45) y45).put (some 46) y46).put (some 47) y47).put (some 48) y48).put (some 49) y49).put (some 50) y50).put (some 51) y51).put (some 52) y52) ∧ w' = World.setCell w9 ⟨g, 6, none⟩ v' ∧ TabTo B w (World.setCell w9 ⟨g, 6, none⟩ v') g R (setL S 2 (bankL S 2 ++ [(laidS s (canC s.cube))])) v1 v2 v3) ?_ ?_
        · have ne9 : Nonempty (KeepO w.heap.size (.cells (slotV (laidS s (canC s.cube))) 38 (0, 0))) := ⟨⟨w5, Q9.out⟩⟩
          refine region_beginS (InO w.heap.size (.cells (slotV (laidS s (canC s.cube))) 38 (0, 0))) 17 rfl (by kernel_rfl) ?_
          refine region_reads 0 6 11 rfl (by kernel_rfl) (by kernel_rfl) (by kernel_rfl) (by intro d v c a w h; exact absurd h.1 (by simp)) (InO.of (w := World.drew w5) Q9.out) ?_
          simp only [List.drop_zero, List.take_succ_cons, List.take_zero]
          go_big_quiet_step (rfl)
          go_big_quiet_step (rfl)
          go_big_quiet_step (rfl)
          go_big_quiet_step (rfl)
          go_big_quiet_step (rfl)
          go_big_quiet_step (rfl)
          refine wpQuiet_nil ?_
          refine take_nil (i := 6) (some 43) rfl rfl _ rfl _ rfl rfl (by kernel_rfl) (by kernel_rfl) (by kernel_rfl) (InO.of (w := World.drew w5) Q9.out) ?_
          simp only [Act.put, List.setIfInBounds_toArray, List.set_cons_succ, List.set_cons_zero]
          refine region_reads 7 2 8 rfl (by kernel_rfl) (by kernel_rfl) (by kernel_rfl) (by intro d v c a w h; exact absurd h.1 (by simp)) (InO.of (w := World.drew w5) Q9.out) ?_
          simp only [List.drop_succ_cons, List.drop_zero, List.take_succ_cons, List.take_zero]
          go_big_quiet_step (rfl)
          go_big_quiet_step (rfl)
          refine wpQuiet_nil ?_
          refine region_reads 10 1 7 rfl (by kernel_rfl) (by kernel_rfl) (by kernel_rfl) (by intro d v c a w h; exact absurd h.1 (by simp)) (InO.of (w := World.drew w5) Q9.out) ?_
          simp only [List.drop_succ_cons, List.drop_zero, List.take_succ_cons, List.take_zero]
          refine qlE (E := SlotE) SlotOk rfl _ rfl w.heap.size 0 rfl _ _ _ (slotV (laidS s (canC s.cube))) (slotV_size _) (by rintro w' ⟨z, rfl⟩; exact z.k1) (own_cells _ _) ?_
          simp only [Act.put, List.setIfInBounds_toArray, List.set_cons_succ, List.set_cons_zero]
          refine wpQuiet_nil ?_
          refine take_nil (i := 13) (some 50) rfl rfl _ rfl _ rfl rfl (by kernel_rfl) (by kernel_rfl) (by kernel_rfl) (InO.of (w := World.drew w5) Q9.out) ?_
          simp only [Act.put, List.setIfInBounds_toArray, List.set_cons_succ, List.set_cons_zero]
          refine region_reads 14 1 5 rfl (by kernel_rfl) (by kernel_rfl) (by kernel_rfl) (by intro d v c a w h; exact absurd h.1 (by simp)) (InO.of (w := World.drew w5) Q9.out) ?_
          simp only [List.drop_succ_cons, List.drop_zero, List.take_succ_cons, List.take_zero]
          go_big_quiet_step (rfl)
          refine wpQuiet_nil ?_
          refine wpAnyH_all (rs := [9, 11]) (by kernel_rfl) (by decide) ?_
          intro i hi
          simp only [List.mem_cons, List.not_mem_nil, or_false] at hi
          rcases hi with rfl | rfl
          · refine wpOp_val rfl rfl (bankV v1 v2 v3 2) (load_sl rfl _ _ ⟨g, 6, none⟩ (bankV v1 v2 v3 2) rfl ((tabf_of (TabV.blk (TabV.below TT9.out (by first | exact (Below.refl _ _).drew | exact (Below.refl _ _).drew.alloc (Nat.le_refl _) _)))).bankCell 2 (by decide))) (some 46) rfl ?_
            refine ⟨InO.of (w := World.drew w5) Q9.out, ?_⟩
            simp only [Act.put, List.setIfInBounds_toArray, List.set_cons_succ, List.set_cons_zero]
            refine wpAnyH_all (rs := [11]) (by kernel_rfl) (by decide) ?_
            intro i hi
            obtain rfl := List.mem_singleton.1 hi
            refine wpOp_build1S rfl rfl _ rfl (laidS s (canC s.cube)) rfl (some 48) rfl ?_
            refine ⟨InO.of (heap_past _ _ _ _ Q9.out), ?_⟩
            simp only [Act.put, List.setIfInBounds_toArray, List.set_cons_succ, List.set_cons_zero]
            refine wpAnyH_all (rs := [12]) (by kernel_rfl) (by decide) ?_
            intro i hi
            obtain rfl := List.mem_singleton.1 hi
            refine wpOp_appendS rfl rfl _ _ rfl B (bankV v1 v2 v3 2) _ (laidS s (canC s.cube)) rfl (((TT9.out.below ((Below.refl _ _).drew.alloc (Nat.le_refl _) _)).bank 2)) _ 1 rfl (heap_new _ _ _ rfl) (hn 2) (by have h9 := BW9.out.size; have h8 := BB9.out; simp; omega) (some 49) rfl ?_
            intro v' w9 hown9 hgr9 hat9
            have F9 := app_fin (b := 2) (s := (laidS s (canC s.cube))) HT.out (by decide) (by decide) BW9.out v' w9 hown9 hgr9 hat9
            obtain ⟨⟨o9, n9, c9, rfl⟩, ce9, fz9, bl9, tt9⟩ := F9
            refine ⟨InO.of (bl9 _ _ QG9.out Q9.out).1, ?_⟩
            simp only [Act.put, List.setIfInBounds_toArray, List.set_cons_succ, List.set_cons_zero]
            refine region_reads 15 1 1 rfl (by kernel_rfl) (by kernel_rfl) (by kernel_rfl) (by intro d v c a w h; exact absurd h.1 (by simp)) (InO.of (bl9 _ _ QG9.out Q9.out).1) ?_
            simp only [List.drop_succ_cons, List.drop_zero, List.take_succ_cons, List.take_zero]
            go_big_quiet_step (rfl)
            refine wpQuiet_nil ?_
            refine wpAnyH_all (rs := [16]) (by kernel_rfl) (by decide) ?_
            intro i hi
            obtain rfl := List.mem_singleton.1 hi
            refine wpOp_skip0 rfl rfl (store_sl rfl _ _ ⟨g, 6, none⟩ _ _ _ _ rfl rfl ce9 fz9) rfl ?_
            refine ⟨InO.of (bl9 _ _ QG9.out Q9.out).2, ?_⟩
            refine wpAnyH_done (by kernel_rfl) ?_ _
            exact ⟨rfl, _, _, _, _, _, _, _, _, _, _, _, _, _, _, _, _, _, w9, rfl, rfl, tt9⟩
          · refine wpOp_build1S rfl rfl _ rfl (laidS s (canC s.cube)) rfl (some 48) rfl ?_
            refine ⟨InO.of (heap_past _ _ _ _ Q9.out), ?_⟩
            simp only [Act.put, List.setIfInBounds_toArray, List.set_cons_succ, List.set_cons_zero]
            refine wpAnyH_all (rs := [9]) (by kernel_rfl) (by decide) ?_
            intro i hi
            obtain rfl := List.mem_singleton.1 hi
            refine wpOp_val rfl rfl (bankV v1 v2 v3 2) (load_sl rfl _ _ ⟨g, 6, none⟩ (bankV v1 v2 v3 2) rfl ((tabf_of (TabV.blk (TabV.below TT9.out (by first | exact (Below.refl _ _).drew | exact (Below.refl _ _).drew.alloc (Nat.le_refl _) _)))).bankCell 2 (by decide))) (some 46) rfl ?_
            refine ⟨InO.of (heap_past _ _ _ _ Q9.out), ?_⟩
            simp only [Act.put, List.setIfInBounds_toArray, List.set_cons_succ, List.set_cons_zero]
            refine wpAnyH_all (rs := [12]) (by kernel_rfl) (by decide) ?_
            intro i hi
            obtain rfl := List.mem_singleton.1 hi
            refine wpOp_appendS rfl rfl _ _ rfl B (bankV v1 v2 v3 2) _ (laidS s (canC s.cube)) rfl (((TT9.out.below ((Below.refl _ _).drew.alloc (Nat.le_refl _) _)).bank 2)) _ 1 rfl (heap_new _ _ _ rfl) (hn 2) (by have h9 := BW9.out.size; have h8 := BB9.out; simp; omega) (some 49) rfl ?_
            intro v' w9 hown9 hgr9 hat9
            have F9 := app_fin (b := 2) (s := (laidS s (canC s.cube))) HT.out (by decide) (by decide) BW9.out v' w9 hown9 hgr9 hat9
            obtain ⟨⟨o9, n9, c9, rfl⟩, ce9, fz9, bl9, tt9⟩ := F9
            refine ⟨InO.of (bl9 _ _ QG9.out Q9.out).1, ?_⟩
            simp only [Act.put, List.setIfInBounds_toArray, List.set_cons_succ, List.set_cons_zero]
            refine region_reads 15 1 1 rfl (by kernel_rfl) (by kernel_rfl) (by kernel_rfl) (by intro d v c a w h; exact absurd h.1 (by simp)) (InO.of (bl9 _ _ QG9.out Q9.out).1) ?_
            simp only [List.drop_succ_cons, List.drop_zero, List.take_succ_cons, List.take_zero]
            go_big_quiet_step (rfl)
            refine wpQuiet_nil ?_
            refine wpAnyH_all (rs := [16]) (by kernel_rfl) (by decide) ?_
            intro i hi
            obtain rfl := List.mem_singleton.1 hi
            refine wpOp_skip0 rfl rfl (store_sl rfl _ _ ⟨g, 6, none⟩ _ _ _ _ rfl rfl ce9 fz9) rfl ?_
            refine ⟨InO.of (bl9 _ _ QG9.out Q9.out).2, ?_⟩
            refine wpAnyH_done (by kernel_rfl) ?_ _
            exact ⟨rfl, _, _, _, _, _, _, _, _, _, _, _, _, _, _, _, _, _, w9, rfl, rfl, tt9⟩
        · rintro a' w' ⟨y37, y38, y39, y40, y41, y42, y43, y44, y45, y46, y47, y48, y49, y50, y51, y52, v', w9, rfl, rfl, tt9⟩
          have T9 : Hid _ := tt9
          clear tt9
          simp only [Act.put, List.setIfInBounds_toArray, List.set_cons_succ, List.set_cons_zero]
          go_wp2_with fail
          go_ret
          rw [ER.out]
          exact ⟨rfl, T9.out⟩
    · have hsB : s.bank = 3 := hsb
      rw [hsB] at c0
      have d0 : ∀ u : Later (w.alloc (.cells (slotV s) 38)), u.world.cell? ⟨w.heap.size, 0, none⟩ = some (.int .i64 3) := fun u => by have h9 := (later_slf Q0.out (slf_own Q0.out) u).c0; rw [hsB] at h9; exact h9
      obtain ⟨vb, hvb⟩ : ∃ vb, vb = bankV v1 v2 v3 3 := ⟨_, rfl⟩
      have d1 : ∀ u : Later (w.alloc (.cells (slotV s) 38)), u.world.cell? ⟨g, 7, none⟩ = some vb := fun u => by have h9 := ((HT.out.below B0.out).below u.below).f.bankCell 3 (by decide); rw [← hvb] at h9; exact h9
      have CT1 : Hid (∀ u : Later (w.alloc (.cells (slotV s) 38)), Calls Try.prog 41 #[vb, .func (.func 42) #[] #[.pointer (some ⟨w.heap.size, 0, none⟩)]] u.world fun e w' => e = .returned (.bool ((bankL S 3).any (atS s))) ∧ Below u.world.heap.size u.world w') := by intro u; rw [hvb]; exact CT.out u.world (below_step B0.out B0.out.size u.below) (later_block Q0.out _ ⟨u, rfl⟩)
      have ne1 := Later.ne (w.alloc (.cells (slotV s) 38))
      have LL := layT_cases (roomL R 3) (bankL S 3) s (canC s.cube)
      have EL' : Hid (layB R S s = (putB S 3 (layT (roomL R 3) (bankL S 3) s (canC s.cube)).1, (layT (roomL R 3) (bankL S 3) s (canC s.cube)).2)) := EL
      have FU1 : Hid (∀ W, Below w.heap.size w W → Calls Try.prog 43 #[.pointer (some ⟨g, 0, none⟩), .int .i64 3] W fun e w' => e = .returned (.bool (decide ((bankL S 3).length = roomL R 3))) ∧ Below W.heap.size W w') := FU.out
      clear h hb2 CT FU EL hvb hsb
      rcases LL with ⟨hany, el⟩ | ⟨hany, hlen, el⟩ | ⟨hany, hlen, el⟩
      · have CT2 := CT1.out
        rw [hany] at CT2
        have CT2 : Hid _ := CT2
        have ER : Hid (layB R S s = (S, 9)) := by show _ = _; rw [EL'.out, el]; rfl
        clear CT1 el hany EL' FU1
        go_enter Try.func15, Try.ntmps15
        go_wp2_with fail
        refine wp_region_later (by kernel_rfl) (by kernel_rfl) ?_
        go_big_quiet_step (rfl)
        go_big_quiet_step (rfl)
        go_big_quiet_step (rfl)
        refine q_nilT rfl _ rfl _ rfl ?_
        simp only [Act.put, List.setIfInBounds_toArray, List.set_cons_succ, List.set_cons_zero]
        go_big_quiet_step (rfl)
        go_big_quiet_step (rfl)
        go_big_quiet_step (rfl)
        go_big_quiet_step (rfl)
        go_big_quiet_want; go_big_quiet_op
        refine ⟨_, fun u => Calls.later_of (CT2.out u), ?_⟩
        go_big_quiet_on
        go_big_quiet_step (rfl)
        refine wpQuiet_nil ?_
        rintro w' ⟨u, rfl⟩
        have B1 : Hid (Below w.heap.size w u.world) := below_step B0.out B0.out.size u.below
        have Q1 : Hid (u.world.heap[w.heap.size]? = some (.cells (slotV s) 38 (0, 0))) := later_block Q0.out _ ⟨u, rfl⟩
        go_wp2_with fail
        go_ret
        rw [ER.out]
        exact ⟨rfl, HT.out.same B1.out⟩
      · have CT2 := CT1.out
        rw [hany] at CT2
        have CT2 : Hid _ := CT2
        have ER : Hid (layB R S s = (S, 13)) := by show _ = _; rw [EL'.out, el]; rfl
        have FU2 := FU1.out
        rw [show decide ((bankL S 3).length = roomL R 3) = true from decide_eq_true hlen] at FU2
        have FU2 : Hid _ := FU2
        clear CT1 el hany EL' FU1 hlen
        go_enter Try.func15, Try.ntmps15
        go_wp2_with fail
        refine wp_region_later (by kernel_rfl) (by kernel_rfl) ?_
        go_big_quiet_step (rfl)
        go_big_quiet_step (rfl)
        go_big_quiet_step (rfl)
        refine q_nilT rfl _ rfl _ rfl ?_
        simp only [Act.put, List.setIfInBounds_toArray, List.set_cons_succ, List.set_cons_zero]
        go_big_quiet_step (rfl)
        go_big_quiet_step (rfl)
        go_big_quiet_step (rfl)
        go_big_quiet_step (rfl)
        go_big_quiet_want; go_big_quiet_op
        refine ⟨_, fun u => Calls.later_of (CT2.out u), ?_⟩
        go_big_quiet_on
        go_big_quiet_step (rfl)
        refine wpQuiet_nil ?_
        rintro w' ⟨u, rfl⟩
        have B1 : Hid (Below w.heap.size w u.world) := below_step B0.out B0.out.size u.below
        have Q1 : Hid (u.world.heap[w.heap.size]? = some (.cells (slotV s) 38 (0, 0))) := later_block Q0.out _ ⟨u, rfl⟩
        have c8 := (slf_own Q1.out).c0
        rw [hsB] at c8
        go_wp2_with (go_at_call 43; refine (FU2.out u.world B1.out).mono ?_; rintro e w2 ⟨rfl, hb2⟩; have B2 : Hid (Below w.heap.size w w2) := below_step B1.out B1.out.size hb2; have Q2 : Hid (w2.heap[w.heap.size]? = some (.cells (slotV s) 38 (0, 0))) := (hb2.block _ (Array.getElem?_eq_some_iff.1 Q1.out).1).trans Q1.out; have c9 := (slf_own Q2.out).c0; rw [hsB] at c9; clear hb2; refine of_stopS ?_)
        unfold StopS
        go_wp2_with fail
        go_ret
        rw [ER.out]
        exact ⟨rfl, HT.out.same B2.out⟩
      · have CT2 := CT1.out
        rw [hany] at CT2
        have CT2 : Hid _ := CT2
        have ER : Hid (layB R S s = (putB S 3 (bankL S 3 ++ [laidS s (canC s.cube)]), 0)) := by show _ = _; rw [EL'.out, el]
        have FU2 := FU1.out
        rw [show decide ((bankL S 3).length = roomL R 3) = false from decide_eq_false hlen] at FU2
        have FU2 : Hid _ := FU2
        clear CT1 el hany EL' FU1 hlen
        go_enter Try.func15, Try.ntmps15
        go_wp2_with fail
        refine wp_region_later (by kernel_rfl) (by kernel_rfl) ?_
        go_big_quiet_step (rfl)
        go_big_quiet_step (rfl)
        go_big_quiet_step (rfl)
        refine q_nilT rfl _ rfl _ rfl ?_
        simp only [Act.put, List.setIfInBounds_toArray, List.set_cons_succ, List.set_cons_zero]
        go_big_quiet_step (rfl)
        go_big_quiet_step (rfl)
        go_big_quiet_step (rfl)
        go_big_quiet_step (rfl)
        go_big_quiet_want; go_big_quiet_op
        refine ⟨_, fun u => Calls.later_of (CT2.out u), ?_⟩
        go_big_quiet_on
        go_big_quiet_step (rfl)
        refine wpQuiet_nil ?_
        rintro w' ⟨u, rfl⟩
        have B1 : Hid (Below w.heap.size w u.world) := below_step B0.out B0.out.size u.below
        have Q1 : Hid (u.world.heap[w.heap.size]? = some (.cells (slotV s) 38 (0, 0))) := later_block Q0.out _ ⟨u, rfl⟩
        have c8 := (slf_own Q1.out).c0
        rw [hsB] at c8
        go_wp2_with (go_at_call 43; refine (FU2.out u.world B1.out).mono ?_; rintro e w2 ⟨rfl, hb2⟩; have B2 : Hid (Below w.heap.size w w2) := below_step B1.out B1.out.size hb2; have Q2 : Hid (w2.heap[w.heap.size]? = some (.cells (slotV s) 38 (0, 0))) := (hb2.block _ (Array.getElem?_eq_some_iff.1 Q1.out).1).trans Q1.out; have c9 := (slf_own Q2.out).c0; rw [hsB] at c9; clear hb2; refine of_stopS ?_)
        unfold StopS
        go_wp2_with (first | ((with_reducible refine wl_gC _ rfl ?_); refine wl_loadCw rfl _ rfl w.heap.size 4 rfl _ _ _ (pad s.cube.1) (pad s.cube.2) (pad_len _) (pad_len _) Q2.out (slotV_cube s) ?_) | (go_at_call 44; refine (CA.out _).mono ?_; rintro e w3 ⟨rfl, hb3⟩; have B3 : Hid (Below w.heap.size w w3) := below_step B2.out B2.out.size hb3; have Q3 : Hid (w3.heap[w.heap.size]? = some (.cells (slotV s) 38 (0, 0))) := (hb3.block _ (Array.getElem?_eq_some_iff.1 Q2.out).1).trans Q2.out; clear hb3; refine of_stopS ?_))
        unfold StopS
        obtain ⟨w4, hw4⟩ : ∃ w4, World.setRow w3 w.heap.size (slotV { s with cube := canC s.cube }) = w4 := ⟨_, rfl⟩
        go_wp2_with (first | ((with_reducible refine wl_gSC _ _ rfl ?_); refine wl_storeCub rfl _ _ rfl w.heap.size s (canC s.cube) rfl rfl Q3.out w4 hw4 ?_; refine of_stopS ?_))
        unfold StopS
        have Q4 : Hid (w4.heap[w.heap.size]? = some (.cells (slotV { s with cube := canC s.cube }) 38 (0, 0))) := by show _ = _; rw [← hw4]; exact setRow_heap _ _ _ _ _ _ Q3.out
        have K4 : Hid (Kept (isB w.heap.size) w3 w4) := by show Kept _ _ _; rw [← hw4]; exact kept_setRow _ _ _
        clear hw4
        obtain ⟨l1, l2, l3, l4, l5, l6, l7, l8⟩ := laid_worlds (W := w4) Q4.out
        have L7 : Hid _ := l7
        have L8 : Hid _ := l8
        clear l7 l8
        go_wp2_with fail
        obtain ⟨w5, hw5⟩ : ∃ w5, w5 = World.setCell (World.setCell (World.setCell w4 ⟨w.heap.size, 33, none⟩ (.int .i64 0)) ⟨w.heap.size, 34, none⟩ (.int .i64 0)) ⟨w.heap.size, 35, none⟩ (.int .i64 0) := ⟨_, rfl⟩
        have Q9 : Hid (w5.heap[w.heap.size]? = some (.cells (slotV (laidS s (canC s.cube))) 38 (0, 0))) := by show _ = _; rw [hw5]; exact L7.out
        have BW9 : Hid (Below w.heap.size w w5) := by show Below _ _ _; rw [hw5]; exact below_kept ((Kept.of_below (X := isB w.heap.size) B3.out).trans (K4.out.trans L8.out fun k hk => .inl hk) fun k hk => .inl hk) fun k hk => by unfold isB at hk; omega
        rw [← hw5]
        clear hw5 l1 l2 l3 l4 l5 l6 L7 L8 K4 Q4
        have TT9 : Hid (TabV B w5 g R S v1 v2 v3) := HT.out.below BW9.out
        have QG9 : Hid (¬ footT g v1 v2 v3 w.heap.size) := by show ¬ _; intro e; have h9 := (HT.out.foot_in _ e).2; omega
        have BB9 : Hid (B ≤ w.heap.size) := by show _ ≤ _; have h9 := HT.out.hB; have h8 := (Array.getElem?_eq_some_iff.1 HT.out.blk).1; omega
        have e9 : ∀ z : KeepO w.heap.size (.cells (slotV (laidS s (canC s.cube))) 38 (0, 0)), z.world.cell? ⟨w.heap.size, 0, none⟩ = some (.int .i64 3) := fun z => by have h9 := (slf_own z.k1).c0; have h8 : (laidS s (canC s.cube)).bank = 3 := hsB; rw [h8] at h9; exact h9
        refine region_cut (fun a a' w' => ∃ y37 y38 y39 y40 y41 y42 y43 y44 y45 y46 y47 y48 y49 y50 y51 y52 v' w9, a' = ((((((((((((((((a.put (some 37) y37).put (some 38) y38).put (some 39) y39).put (some 40) y40).put (some 41) y41).put (some 42) y42).put (some 43) y43).put (some 44) y44).put (some 45) y45).put (some 46) y46).put (some 47) y47).put (some 48) y48).put (some 49) y49).put (some 50) y50).put (some 51) y51).put (some 52) y52) ∧ w' = World.setCell w9 ⟨g, 7, none⟩ v' ∧ TabTo B w (World.setCell w9 ⟨g, 7, none⟩ v') g R (setL S 3 (bankL S 3 ++ [(laidS s (canC s.cube))])) v1 v2 v3) ?_ ?_
        · have ne9 : Nonempty (KeepO w.heap.size (.cells (slotV (laidS s (canC s.cube))) 38 (0, 0))) := ⟨⟨w5, Q9.out⟩⟩
          refine region_beginS (InO w.heap.size (.cells (slotV (laidS s (canC s.cube))) 38 (0, 0))) 17 rfl (by kernel_rfl) ?_
          refine region_reads 0 6 11 rfl (by kernel_rfl) (by kernel_rfl) (by kernel_rfl) (by intro d v c a w h; exact absurd h.1 (by simp)) (InO.of (w := World.drew w5) Q9.out) ?_
          simp only [List.drop_zero, List.take_succ_cons, List.take_zero]
          go_big_quiet_step (rfl)
          go_big_quiet_step (rfl)
          go_big_quiet_step (rfl)
          go_big_quiet_step (rfl)
          go_big_quiet_step (rfl)
          go_big_quiet_step (rfl)
          refine wpQuiet_nil ?_
          refine take_nil (i := 6) (some 43) rfl rfl _ rfl _ rfl rfl (by kernel_rfl) (by kernel_rfl) (by kernel_rfl) (InO.of (w := World.drew w5) Q9.out) ?_
          simp only [Act.put, List.setIfInBounds_toArray, List.set_cons_succ, List.set_cons_zero]
          refine region_reads 7 2 8 rfl (by kernel_rfl) (by kernel_rfl) (by kernel_rfl) (by intro d v c a w h; exact absurd h.1 (by simp)) (InO.of (w := World.drew w5) Q9.out) ?_
          simp only [List.drop_succ_cons, List.drop_zero, List.take_succ_cons, List.take_zero]
          go_big_quiet_step (rfl)
          go_big_quiet_step (rfl)
          refine wpQuiet_nil ?_
          refine region_reads 10 1 7 rfl (by kernel_rfl) (by kernel_rfl) (by kernel_rfl) (by intro d v c a w h; exact absurd h.1 (by simp)) (InO.of (w := World.drew w5) Q9.out) ?_
          simp only [List.drop_succ_cons, List.drop_zero, List.take_succ_cons, List.take_zero]
          refine qlE (E := SlotE) SlotOk rfl _ rfl w.heap.size 0 rfl _ _ _ (slotV (laidS s (canC s.cube))) (slotV_size _) (by rintro w' ⟨z, rfl⟩; exact z.k1) (own_cells _ _) ?_
          simp only [Act.put, List.setIfInBounds_toArray, List.set_cons_succ, List.set_cons_zero]
          refine wpQuiet_nil ?_
          refine take_nil (i := 13) (some 50) rfl rfl _ rfl _ rfl rfl (by kernel_rfl) (by kernel_rfl) (by kernel_rfl) (InO.of (w := World.drew w5) Q9.out) ?_
          simp only [Act.put, List.setIfInBounds_toArray, List.set_cons_succ, List.set_cons_zero]
          refine region_reads 14 1 5 rfl (by kernel_rfl) (by kernel_rfl) (by kernel_rfl) (by intro d v c a w h; exact absurd h.1 (by simp)) (InO.of (w := World.drew w5) Q9.out) ?_
          simp only [List.drop_succ_cons, List.drop_zero, List.take_succ_cons, List.take_zero]
          go_big_quiet_step (rfl)
          refine wpQuiet_nil ?_
          refine wpAnyH_all (rs := [9, 11]) (by kernel_rfl) (by decide) ?_
          intro i hi
          simp only [List.mem_cons, List.not_mem_nil, or_false] at hi
          rcases hi with rfl | rfl
          · refine wpOp_val rfl rfl (bankV v1 v2 v3 3) (load_sl rfl _ _ ⟨g, 7, none⟩ (bankV v1 v2 v3 3) rfl ((tabf_of (TabV.blk (TabV.below TT9.out (by first | exact (Below.refl _ _).drew | exact (Below.refl _ _).drew.alloc (Nat.le_refl _) _)))).bankCell 3 (by decide))) (some 46) rfl ?_
            refine ⟨InO.of (w := World.drew w5) Q9.out, ?_⟩
            simp only [Act.put, List.setIfInBounds_toArray, List.set_cons_succ, List.set_cons_zero]
            refine wpAnyH_all (rs := [11]) (by kernel_rfl) (by decide) ?_
            intro i hi
            obtain rfl := List.mem_singleton.1 hi
            refine wpOp_build1S rfl rfl _ rfl (laidS s (canC s.cube)) rfl (some 48) rfl ?_
            refine ⟨InO.of (heap_past _ _ _ _ Q9.out), ?_⟩
            simp only [Act.put, List.setIfInBounds_toArray, List.set_cons_succ, List.set_cons_zero]
            refine wpAnyH_all (rs := [12]) (by kernel_rfl) (by decide) ?_
            intro i hi
            obtain rfl := List.mem_singleton.1 hi
            refine wpOp_appendS rfl rfl _ _ rfl B (bankV v1 v2 v3 3) _ (laidS s (canC s.cube)) rfl (((TT9.out.below ((Below.refl _ _).drew.alloc (Nat.le_refl _) _)).bank 3)) _ 1 rfl (heap_new _ _ _ rfl) (hn 3) (by have h9 := BW9.out.size; have h8 := BB9.out; simp; omega) (some 49) rfl ?_
            intro v' w9 hown9 hgr9 hat9
            have F9 := app_fin (b := 3) (s := (laidS s (canC s.cube))) HT.out (by decide) (by decide) BW9.out v' w9 hown9 hgr9 hat9
            obtain ⟨⟨o9, n9, c9, rfl⟩, ce9, fz9, bl9, tt9⟩ := F9
            refine ⟨InO.of (bl9 _ _ QG9.out Q9.out).1, ?_⟩
            simp only [Act.put, List.setIfInBounds_toArray, List.set_cons_succ, List.set_cons_zero]
            refine region_reads 15 1 1 rfl (by kernel_rfl) (by kernel_rfl) (by kernel_rfl) (by intro d v c a w h; exact absurd h.1 (by simp)) (InO.of (bl9 _ _ QG9.out Q9.out).1) ?_
            simp only [List.drop_succ_cons, List.drop_zero, List.take_succ_cons, List.take_zero]
            go_big_quiet_step (rfl)
            refine wpQuiet_nil ?_
            refine wpAnyH_all (rs := [16]) (by kernel_rfl) (by decide) ?_
            intro i hi
            obtain rfl := List.mem_singleton.1 hi
            refine wpOp_skip0 rfl rfl (store_sl rfl _ _ ⟨g, 7, none⟩ _ _ _ _ rfl rfl ce9 fz9) rfl ?_
            refine ⟨InO.of (bl9 _ _ QG9.out Q9.out).2, ?_⟩
            refine wpAnyH_done (by kernel_rfl) ?_ _
            exact ⟨rfl, _, _, _, _, _, _, _, _, _, _, _, _, _, _, _, _, _, w9, rfl, rfl, tt9⟩
          · refine wpOp_build1S rfl rfl _ rfl (laidS s (canC s.cube)) rfl (some 48) rfl ?_
            refine ⟨InO.of (heap_past _ _ _ _ Q9.out), ?_⟩
            simp only [Act.put, List.setIfInBounds_toArray, List.set_cons_succ, List.set_cons_zero]
            refine wpAnyH_all (rs := [9]) (by kernel_rfl) (by decide) ?_
            intro i hi
            obtain rfl := List.mem_singleton.1 hi
            refine wpOp_val rfl rfl (bankV v1 v2 v3 3) (load_sl rfl _ _ ⟨g, 7, none⟩ (bankV v1 v2 v3 3) rfl ((tabf_of (TabV.blk (TabV.below TT9.out (by first | exact (Below.refl _ _).drew | exact (Below.refl _ _).drew.alloc (Nat.le_refl _) _)))).bankCell 3 (by decide))) (some 46) rfl ?_
            refine ⟨InO.of (heap_past _ _ _ _ Q9.out), ?_⟩
            simp only [Act.put, List.setIfInBounds_toArray, List.set_cons_succ, List.set_cons_zero]
            refine wpAnyH_all (rs := [12]) (by kernel_rfl) (by decide) ?_
            intro i hi
            obtain rfl := List.mem_singleton.1 hi
            refine wpOp_appendS rfl rfl _ _ rfl B (bankV v1 v2 v3 3) _ (laidS s (canC s.cube)) rfl (((TT9.out.below ((Below.refl _ _).drew.alloc (Nat.le_refl _) _)).bank 3)) _ 1 rfl (heap_new _ _ _ rfl) (hn 3) (by have h9 := BW9.out.size; have h8 := BB9.out; simp; omega) (some 49) rfl ?_
            intro v' w9 hown9 hgr9 hat9
            have F9 := app_fin (b := 3) (s := (laidS s (canC s.cube))) HT.out (by decide) (by decide) BW9.out v' w9 hown9 hgr9 hat9
            obtain ⟨⟨o9, n9, c9, rfl⟩, ce9, fz9, bl9, tt9⟩ := F9
            refine ⟨InO.of (bl9 _ _ QG9.out Q9.out).1, ?_⟩
            simp only [Act.put, List.setIfInBounds_toArray, List.set_cons_succ, List.set_cons_zero]
            refine region_reads 15 1 1 rfl (by kernel_rfl) (by kernel_rfl) (by kernel_rfl) (by intro d v c a w h; exact absurd h.1 (by simp)) (InO.of (bl9 _ _ QG9.out Q9.out).1) ?_
            simp only [List.drop_succ_cons, List.drop_zero, List.take_succ_cons, List.take_zero]
            go_big_quiet_step (rfl)
            refine wpQuiet_nil ?_
            refine wpAnyH_all (rs := [16]) (by kernel_rfl) (by decide) ?_
            intro i hi
            obtain rfl := List.mem_singleton.1 hi
            refine wpOp_skip0 rfl rfl (store_sl rfl _ _ ⟨g, 7, none⟩ _ _ _ _ rfl rfl ce9 fz9) rfl ?_
            refine ⟨InO.of (bl9 _ _ QG9.out Q9.out).2, ?_⟩
            refine wpAnyH_done (by kernel_rfl) ?_ _
            exact ⟨rfl, _, _, _, _, _, _, _, _, _, _, _, _, _, _, _, _, _, w9, rfl, rfl, tt9⟩
        · rintro a' w' ⟨y37, y38, y39, y40, y41, y42, y43, y44, y45, y46, y47, y48, y49, y50, y51, y52, v', w9, rfl, rfl, tt9⟩
          have T9 : Hid _ := tt9
          clear tt9
          simp only [Act.put, List.setIfInBounds_toArray, List.set_cons_succ, List.set_cons_zero]
          go_wp2_with fail
          go_ret
          rw [ER.out]
          exact ⟨rfl, T9.out⟩
  · have hn2 : s.bank ≠ 2 := fun e => hb2 (.inl e)
    have hn3 : s.bank ≠ 3 := fun e => hb2 (.inr e)
    have EL : Hid (layB R S s = (S, 1)) := layB_no hn2 hn3
    have FT : Hid (TabTo B w (w.alloc (.cells (slotV s) 38)) g R S v1 v2 v3) := h.same B0.out
    clear h hok hb2 hn
    have hd2 : (s.bank != 2) = true := by simpa using hn2
    have hd3 : (s.bank != 3) = true := by simpa using hn3
    generalize s.bank = sb at c0 hn2 hn3 hd2 hd3
    go_enter Try.func15, Try.ntmps15
    go_wp2_with fail
    go_ret
    rw [EL.out]
    exact ⟨rfl, FT.out⟩
end Go.Proofs.Ytojhckjdkafpmaa
