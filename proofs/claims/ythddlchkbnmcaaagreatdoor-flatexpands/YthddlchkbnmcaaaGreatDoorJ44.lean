import Derived.Test.YthddlchkbnmcaaaGreatDoorJ37
import Derived.Test.YthddlchkbnmcaaaGreatDoorJ12
import Derived.Defers
import Derived.Recover
import Derived.Test.YthddlchkbnmcaaaGreatDoorJ42
import Derived.Test.YthddlchkbnmcaaaGreatDoorJ8
namespace Go.Proofs.YthddlchkbnmcaaaGreatDoor
open Go Go.RowKit
set_option maxRecDepth 20000

theorem lexeme_wordless {c : UInt8} {r : List UInt8} {n k v : Nat} {t : List UInt8} (h : lexeme c r = (Lx.tok k t v, n)) : k = 1 ∨ t = [] := by
  unfold lexeme at h
  repeat' split at h
  all_goals simp only [Prod.mk.injEq, Except.ok.injEq, Option.some.injEq, reduceCtorEq, false_and] at h
  all_goals first | exact .inl h.1.1.symm | exact .inr h.1.2.1.symm | skip
theorem lexW_word : ∀ (S : List UInt8) (p : Nat) (l : List Tok), lexW p S = .ok l → WordT l := by
  refine lexW_induct _ (fun p l h => ?_) (fun p c r n hx ih l h => ?_) (fun p c r n k t v hx ih l h => ?_) (fun p c r n e hx l h => ?_)
  · rw [lexW_nil] at h
    obtain rfl : [] = l := Except.ok.inj h
    intro t ht; simp at ht
  · rw [lexW_none hx] at h; exact ih l h
  · rw [lexW_tok hx] at h
    cases hy : lexW (p + 1 + n) (r.drop n) with
    | error x => rw [hy] at h; simp [glue] at h
    | ok l' =>
      rw [hy] at h
      obtain rfl : ⟨k, p, t, v⟩ :: l' = l := by simpa [glue] using h
      intro u hu
      rcases List.mem_cons.1 hu with rfl | hu
      · intro ht
        rcases lexeme_wordless hx with hk | hk
        · exact hk
        · exfalso
          have ht' : t = wDefault := ht
          rw [hk] at ht'
          cases ht'
      · exact ih l' hy u hu
  · rw [lexW_err hx] at h; cases h
/-- What a text parses to: its lines, or what is wrong with it and where. -/
def parseP (S : List UInt8) : List Raw × Nat × Nat := match parseT S with | .ok l => (l, 0, 0) | .error x => ([], x.1, x.2)
theorem parseP_lex {S : List UInt8} (h : (lexT S).2.1 ≠ 0) : parseP S = ([], (lexT S).2.1, (lexT S).2.2) := by
  unfold parseP parseT
  unfold lexT at h ⊢
  by_cases h4 : 4096 < S.length
  · rw [if_pos h4, if_pos h4]
  · rw [if_neg h4, if_neg h4]
    rw [if_neg h4] at h
    cases hx : lexW 0 S with
    | ok l => rw [hx] at h; exact absurd rfl h
    | error x => rfl
theorem parseP_ok {S : List UInt8} (h : (lexT S).2.1 = 0) : ∃ T, lexW 0 S = .ok T ∧ lexT S = (T, 0, 0) ∧ S.length ≤ 4096 ∧ parseP S = match takeL S.length (T.length + 1) [] T with | .ok l => (l, 0, 0) | .error x => ([], x.1, x.2) := by
  unfold parseP parseT
  unfold lexT at h ⊢
  by_cases h4 : 4096 < S.length
  · rw [if_pos h4] at h; exact absurd h (by decide)
  · rw [if_neg h4, if_neg h4]
    rw [if_neg h4] at h
    cases hx : lexW 0 S with
    | ok l => exact ⟨l, rfl, rfl, by omega, rfl⟩
    | error x =>
      obtain ⟨e, p⟩ := x
      rw [hx] at h
      have := lexW_error S 0 e p hx
      have h' : e = 0 := h
      omega

theorem load_one {ty : TypeId} (W : World) (ha : (isAgg ty).run Tryz.prog W = .ok false W) (ad : Addr) (v : Value) (h : W.cell? ad = some v) : (Instr.loadAt ty (.pointer (some ad))).run Tryz.prog W = .ok v W := by
  simp [Instr.loadAt, Instr.sureAddr, loadVar, Sem.run_bind, ha, go_sem, h]
theorem store_one {ty : TypeId} (hsz : ∀ W, (sizeOf ty).run Tryz.prog W = .ok 1 W) (W : World) (ad : Addr) (v u : Value) (hv : (∃ o n c, v = .slice o n c) ∨ (∃ k z, v = .int k z)) (h : W.cell? ad = some u) (hz : W.frozen? ad = false) : (Instr.storeAt ty (.pointer (some ad)) v).run Tryz.prog W = .ok () (W.setCell ad v) := by
  rcases hv with ⟨o, n, c, rfl⟩ | ⟨k, z, rfl⟩
  · simp [Instr.storeAt, Instr.sureAddr, storeVar, Sem.run_bind, hsz, go_sem, h, hz]
  · simp [Instr.storeAt, Instr.sureAddr, storeVar, Sem.run_bind, hsz, go_sem, h, hz]
/-- The three results as they lie in memory, one cell each. -/
structure Res3 (w : World) (b0 : Nat) (x0 x1 x2 : Value) : Prop where
  k0 : w.heap[b0]? = some (.cells #[x0] 55 (0, 0))
  k1 : w.heap[b0 + 1]? = some (.cells #[x1] 25 (0, 0))
  k2 : w.heap[b0 + 1 + 1]? = some (.cells #[x2] 3 (0, 0))
theorem Res3.set0 {w : World} {b0 : Nat} {x0 x1 x2 : Value} (h : Res3 w b0 x0 x1 x2) (y : Value) : Res3 (w.setCell ⟨b0, 0, none⟩ y) b0 y x1 x2 := ⟨tc_row h.k0 y, (tc_far (by omega) y).trans h.k1, (tc_far (by omega) y).trans h.k2⟩
theorem Res3.set1 {w : World} {b0 : Nat} {x0 x1 x2 : Value} (h : Res3 w b0 x0 x1 x2) (y : Value) : Res3 (w.setCell ⟨b0 + 1, 0, none⟩ y) b0 x0 y x2 := ⟨(tc_far (by omega) y).trans h.k0, tc_row h.k1 y, (tc_far (by omega) y).trans h.k2⟩
theorem Res3.set2 {w : World} {b0 : Nat} {x0 x1 x2 : Value} (h : Res3 w b0 x0 x1 x2) (y : Value) : Res3 (w.setCell ⟨b0 + 1 + 1, 0, none⟩ y) b0 x0 x1 y := ⟨(tc_far (by omega) y).trans h.k0, (tc_far (by omega) y).trans h.k1, tc_row h.k2 y⟩
theorem Res3.far {w : World} {b0 : Nat} {x0 x1 x2 : Value} (h : Res3 w b0 x0 x1 x2) {w' : World} (hb : ∀ k, k = b0 ∨ k = b0 + 1 ∨ k = b0 + 1 + 1 → w'.heap[k]? = w.heap[k]?) : Res3 w' b0 x0 x1 x2 := ⟨(hb _ (.inl rfl)).trans h.k0, (hb _ (.inr (.inl rfl))).trans h.k1, (hb _ (.inr (.inr rfl))).trans h.k2⟩
theorem wl_storeX {ops : Array Oper} {rest : List Oper} {o : Oper} {a : Act} {w : World} {Q : Exit → Act → World → Prop} (hgd : o.guard = none) (x y : Operand) (ho : o.op = .store 84 x y)
    (g : Nat) (c q : Int) (hx : a.eval x = .pointer (some ⟨g, 0, none⟩)) (hy : a.eval y = .agg #[.int .i64 c, .int .i64 q]) (old : Array Value) (hg : w.heap[g]? = some (.cells old 84 (0, 0))) (hold : old.size = 2) (w' : World) (hw' : w.setRow g #[.int .i64 c, .int .i64 q] = w')
    (h : wpList Tryz.prog ops Q rest (a.put o.dst undef) w') : wpList Tryz.prog ops Q (o :: rest) a w :=
  wpList_store_row hgd 84 x y ho g _ hx hy 84 old hg (by kernel_rfl) hold (by simp [Value.oneCell']) (by rw [hw']; exact h)

set_option maxHeartbeats 2000000 in
theorem catch_fault (b0 : Nat) (c q : Nat) (x0 x1 x2 : Value) (w : World) (k : Res3 w b0 x0 x1 x2) (hb0 : b0 + 2 < w.heap.size) (B : Nat) (hB : B ≤ b0) :
    CallsD Tryz.prog 43 #[.pointer (some ⟨b0, 0, none⟩), .pointer (some ⟨b0 + 1, 0, none⟩), .pointer (some ⟨b0 + 1 + 1, 0, none⟩)] (.panicking [{ v := faultV c q, recovered := false }]) w fun e u' w' =>
      e = .returned (.tuple #[]) ∧ u' = .panicking [{ v := faultV c q, recovered := true }] ∧ Res3 w' b0 (.slice none 0 0) (.int .i64 (c : Int)) (.int .i64 (q : Int)) ∧ Below B w w' := by
  unfold faultV
  refine callsD_of_wpS Tryz.func43 rfl fun c₀ cs hu => ?_
  apply wpS_seq
  apply wpS_region
  simp [wpOpsS, go_sem, recoverD, hu, Tryz.ntmps43, Exit.thenS]
  refine wpS_of_wp ?_
  have hta : ∀ W, (Instr.typeAssert (.iface 84 (.agg #[.int .i64 (c : Int), .int .i64 (q : Int)])) 20 84 false).run Tryz.prog W = .ok (.agg #[.int .i64 (c : Int), .int .i64 (q : Int)]) W := fun W => by kernel_rfl
  have hrep : Array.replicate 11 undef = #[undef, undef, undef, undef, undef, undef, undef, undef, undef, undef, undef] := rfl
  simp only [hrep, List.setIfInBounds_toArray, List.set_cons_succ, List.set_cons_zero, List.append_toArray, List.cons_append, List.nil_append]
  clear hrep
  go_wp2_with (first
    | (refine wl_storeX rfl _ _ rfl w.heap.size (c : Int) (q : Int) rfl rfl _ (heap_new _ _ _ rfl) rfl _ (setRow_new _ _ _ _ _ rfl) ?_))
  obtain ⟨wa, hwa⟩ : ∃ wa, wa = w.alloc (.cells #[.int .i64 (c : Int), .int .i64 (q : Int)] 84) := ⟨_, rfl⟩
  rw [← hwa]
  obtain ⟨F, hF⟩ : ∃ F, F = w.heap.size := ⟨_, rfl⟩
  rw [← hF]
  have kF : wa.heap[F]? = some (.cells #[.int .i64 (c : Int), .int .i64 (q : Int)] 84 (0, 0)) := by rw [hwa, hF]; exact heap_new _ _ _ rfl
  have ka : Res3 wa b0 x0 x1 x2 := k.far fun j hj => by
    rw [hwa]
    have hlt : j < w.heap.size := by omega
    exact (heap_past w _ _ _ (Array.getElem?_eq_getElem hlt)).trans (Array.getElem?_eq_getElem hlt).symm
  have ba : Below B w wa := by rw [hwa]; exact (Below.refl _ _).alloc (by omega) _
  have hFb : F ≠ b0 ∧ F ≠ b0 + 1 ∧ F ≠ b0 + 1 + 1 := by omega
  clear hwa hF k hb0
  refine region_cut (fun a a' w' => a'.defers = [] ∧ Res3 w' b0 (.slice none 0 0) (.int .i64 (c : Int)) (.int .i64 (q : Int)) ∧ Below B w w') ?_ ?_
  · refine region_beginS (fun w' => w'.heap[F]? = some (.cells #[.int .i64 (c : Int), .int .i64 (q : Int)] 84 (0, 0))) 7 rfl (by kernel_rfl) ?_
    have i24 : ∀ W, (isAgg 25).run Tryz.prog W = .ok false W := fun W => by kernel_rfl
    have i3 : ∀ W, (isAgg 3).run Tryz.prog W = .ok false W := fun W => by kernel_rfl
    have fa0 : ∀ W, (Instr.fieldAt 84 (.pointer (some ⟨F, 0, none⟩)) 0).run Tryz.prog W = .ok (.pointer (some ⟨F, 0, none⟩)) W := fun W => by simp [go_sem]
    have fa1 : ∀ W, (Instr.fieldAt 84 (.pointer (some ⟨F, 0, none⟩)) 1).run Tryz.prog W = .ok (.pointer (some ⟨F, 1, none⟩)) W := fun W => by simp [go_sem]
    refine wpAnyH_take (i := 0) (v := .pointer (some ⟨F, 0, none⟩)) rfl (by kernel_rfl) (by kernel_rfl) (by kernel_rfl) (fun _ _ _ h => absurd h.1 (by simp)) (.inl ⟨rfl, fun W _ => run_fieldOp rfl _ _ _ (fa0 W)⟩) kF ?_
    refine wpAnyH_take (i := 1) (v := .int .i64 (c : Int)) rfl (by kernel_rfl) (by kernel_rfl) (by kernel_rfl) (fun _ _ _ h => absurd h.1 (by simp)) (.inl ⟨rfl, fun W hW => run_loadOp rfl _ _ _ _ rfl (load_one W (i24 W) _ _ (by rw [cell_of_row _ _ _ _ _ _ hW]; rfl))⟩) kF ?_
    refine wpAnyH_take (i := 2) (v := .pointer (some ⟨F, 1, none⟩)) rfl (by kernel_rfl) (by kernel_rfl) (by kernel_rfl) (fun _ _ _ h => absurd h.1 (by simp)) (.inl ⟨rfl, fun W _ => run_fieldOp rfl _ _ _ (fa1 W)⟩) kF ?_
    refine wpAnyH_take (i := 3) (v := .int .i64 (q : Int)) rfl (by kernel_rfl) (by kernel_rfl) (by kernel_rfl) (fun _ _ _ h => absurd h.1 (by simp)) (.inl ⟨rfl, fun W hW => run_loadOp rfl _ _ _ _ rfl (load_one W (i3 W) _ _ (by rw [cell_of_row _ _ _ _ _ _ hW]; rfl))⟩) kF ?_
    have kd : Res3 wa.drew b0 x0 x1 x2 := ⟨ka.k0, ka.k1, ka.k2⟩
    have kFd : wa.drew.heap[F]? = some (.cells #[.int .i64 (c : Int), .int .i64 (q : Int)] 84 (0, 0)) := kF
    have bd : Below B w wa.drew := ba.drew
    refine wpAnyH_all (rs := [4]) (by kernel_rfl) (by decide) ?_
    intro i hi
    obtain rfl := List.mem_singleton.1 hi
    refine wpOp_skip0 rfl rfl (run_storeOp rfl _ _ _ (.pointer (some ⟨b0, 0, none⟩)) (.slice none 0 0) rfl rfl (store_one (fun W => Tryz.sizeOf55 W) _ _ _ x0 (.inl ⟨_, _, _, rfl⟩) (by rw [cell_of_row _ _ _ _ _ _ kd.k0]; rfl) (tc_frozen kd.k0 rfl))) rfl ⟨(tc_far (by omega) _).trans kFd, ?_⟩
    have k4 := kd.set0 (.slice none 0 0)
    have kF4 := (tc_far (w := wa.drew) (k := 0) (Ne.symm hFb.1) (.slice none 0 0)).trans kFd
    have b4 := tc_below bd (g := b0) hB 0 (.slice none 0 0)
    refine wpAnyH_all (rs := [5]) (by kernel_rfl) (by decide) ?_
    intro i hi
    obtain rfl := List.mem_singleton.1 hi
    refine wpOp_skip0 rfl rfl (run_storeOp rfl _ _ _ (.pointer (some ⟨b0 + 1, 0, none⟩)) (.int .i64 (c : Int)) rfl rfl (store_one (fun W => Tryz.sizeOf25 W) _ _ _ x1 (.inr ⟨_, _, rfl⟩) (by rw [cell_of_row _ _ _ _ _ _ k4.k1]; rfl) (tc_frozen k4.k1 rfl))) rfl ⟨(tc_far (by omega) _).trans kF4, ?_⟩
    have k5 := k4.set1 (.int .i64 (c : Int))
    have kF5 := (tc_far (w := wa.drew.setCell ⟨b0, 0, none⟩ (.slice none 0 0)) (k := 0) (Ne.symm hFb.2.1) (.int .i64 (c : Int))).trans kF4
    have b5 := tc_below b4 (g := b0 + 1) (by omega) 0 (.int .i64 (c : Int))
    refine wpAnyH_all (rs := [6]) (by kernel_rfl) (by decide) ?_
    intro i hi
    obtain rfl := List.mem_singleton.1 hi
    refine wpOp_skip0 rfl rfl (run_storeOp rfl _ _ _ (.pointer (some ⟨b0 + 1 + 1, 0, none⟩)) (.int .i64 (q : Int)) rfl rfl (store_one (fun W => Tryz.sizeOf3 W) _ _ _ x2 (.inr ⟨_, _, rfl⟩) (by rw [cell_of_row _ _ _ _ _ _ k5.k2]; rfl) (tc_frozen k5.k2 rfl))) rfl ⟨(tc_far (by omega) _).trans kF5, ?_⟩
    refine wpAnyH_done (by kernel_rfl) ?_ _
    exact ⟨rfl, rfl, k5.set2 _, tc_below b5 (by omega) 0 _⟩
  rintro a' w' ⟨hdf, k6, b6⟩
  go_wp2_with fail
  exact ⟨hdf, _, rfl, .tuple #[], by simp [results, Tryz.results43], rfl, rfl, k6, b6⟩
theorem catch_idle (b0 b1 b2 : Nat) (w : World) :
    CallsD Tryz.prog 43 #[.pointer (some ⟨b0, 0, none⟩), .pointer (some ⟨b1, 0, none⟩), .pointer (some ⟨b2, 0, none⟩)] .returning w fun e u' w' => e = .returned (.tuple #[]) ∧ u' = .returning ∧ w' = w := by
  refine callsD_of_wpS Tryz.func43 rfl fun c₀ cs hu => ?_
  apply wpS_seq
  apply wpS_region
  simp [wpOpsS, go_sem, recoverD, hu, Tryz.ntmps43, Exit.thenS]
  refine wpS_of_wp ?_
  have hrep : Array.replicate 11 undef = #[undef, undef, undef, undef, undef, undef, undef, undef, undef, undef, undef] := rfl
  simp only [hrep, List.setIfInBounds_toArray, List.set_cons_succ, List.set_cons_zero, List.append_toArray, List.cons_append, List.nil_append]
  clear hrep
  go_wp2_with fail
  cases c₀
  simp_all [bodyPostS, results, Tryz.results43]
theorem res3_run {tmps : Array Value} {fn : Func} (hr : fn.results = #[.cell 2 55, .cell 3 25, .cell 4 3]) {w : World} {b0 : Nat} {x0 x1 x2 : Value} (h : Res3 w b0 x0 x1 x2) (h2 : tmps.getD 2 undef = .pointer (some ⟨b0, 0, none⟩)) (h3 : tmps.getD 3 undef = .pointer (some ⟨b0 + 1, 0, none⟩)) (h4 : tmps.getD 4 undef = .pointer (some ⟨b0 + 1 + 1, 0, none⟩)) :
    (results fn tmps).run Tryz.prog w = .ok (.tuple #[x0, x1, x2]) w := by
  rw [Array.getD_eq_getD_getElem?] at h2 h3 h4
  have a0 : (isAgg 55).run Tryz.prog w = .ok false w := by kernel_rfl
  have c0 : w.cell? ⟨b0, 0, none⟩ = some x0 := by rw [cell_of_row _ _ _ _ _ _ h.k0]; rfl
  have c1 : w.cell? ⟨b0 + 1, 0, none⟩ = some x1 := by rw [cell_of_row _ _ _ _ _ _ h.k1]; rfl
  have c2 : w.cell? ⟨b0 + 1 + 1, 0, none⟩ = some x2 := by rw [cell_of_row _ _ _ _ _ _ h.k2]; rfl
  simp [results, hr, h2, h3, h4, asAddr, loadVar, a0, c0, c1, c2, go_sem]
theorem raws_set {w : World} {B : Nat} {L : List Raw} {v : Value} (h : RawsOwn B w L v) {p i : Nat} {cs : Array Value} {t : TypeId} {fr : Nat × Nat} (hp : w.heap[p]? = some (.cells cs t fr)) (ht : 92 ≠ t ∧ 129 ≠ t ∧ 89 ≠ t) (y : Value) : RawsOwn B (w.setCell ⟨p, i, none⟩ y) L v := by
  obtain ⟨P, h1, h2, h3⟩ := h
  refine ⟨P, h1, own_set h2 hp ht.1 y, fun q hq => ?_⟩
  obtain ⟨P', g1, g2, g3⟩ := h3 q hq
  exact ⟨P', g1, own_set g2 hp ht.2.1 y, fun r hr => own_set (g3 r hr) hp ht.2.2 y⟩
theorem raws_base {w : World} {B B' : Nat} {L : List Raw} {v : Value} (h : RawsOwn B w L v) (hB : B' ≤ B) : RawsOwn B' w L v := by
  obtain ⟨P, h1, h2, h3⟩ := h
  exact ⟨P, h1, gown_base h2 hB, fun q hq => clas_base (h3 q hq) hB⟩

theorem wl_storeRd {ops : Array Oper} {rest : List Oper} {o : Oper} {a : Act} {w : World} {Q : Exit → Act → World → Prop} (hgd : o.guard = none) (x y : Operand) (ho : o.op = .store 86 x y)
    (g : Nat) (so : Option Addr) (sn sc : Nat) (q : Int) (hx : a.eval x = .pointer (some ⟨g, 0, none⟩)) (hy : a.eval y = .agg #[.slice so sn sc, .int .i64 q]) (old : Array Value) (hg : w.heap[g]? = some (.cells old 86 (0, 0))) (hold : old.size = 2) (w' : World) (hw' : w.setRow g #[.slice so sn sc, .int .i64 q] = w')
    (h : wpList Tryz.prog ops Q rest (a.put o.dst undef) w') : wpList Tryz.prog ops Q (o :: rest) a w :=
  wpList_store_row hgd 86 x y ho g _ hx hy 86 old hg (by kernel_rfl) hold (by simp [Value.oneCell']) (by rw [hw']; exact h)

set_option maxHeartbeats 8000000 in
theorem parse_any (s : ByteArray) (hs : s.size ≤ maxLen) (w : World) :
    Calls Tryz.prog 24 #[.string s] w fun e w' => ∃ v, e = .returned (.tuple #[v, .int .i64 ((parseP s.data.toList).2.1 : Nat), .int .i64 ((parseP s.data.toList).2.2 : Nat)]) ∧ RawsOwn w.heap.size w' (parseP s.data.toList).1 v ∧ Below w.heap.size w w' := by
  have C1 : Hid (∀ W, Calls Tryz.prog 42 #[.string s] W fun e w' => ∃ u, e = .returned (.tuple #[u, .int .i64 ((lexT s.data.toList).2.1 : Nat), .int .i64 ((lexT s.data.toList).2.2 : Nat)]) ∧ w'.ownsRow W.heap.size 117 4 u (lexT s.data.toList).1.length (gcells encT (lexT s.data.toList).1) ∧ Below W.heap.size W w') := tokens_any s hs
  have hmf : ∀ (fn : Fn) (first cap : Array Value) (w : World), (Instr.makeFunc fn first cap).run Tryz.prog w = .ok (.func fn first cap) w := fun _ _ _ _ => rfl
  obtain ⟨S, hS⟩ : ∃ S, S = s.data.toList := ⟨_, rfl⟩
  have hlen : S.length = s.size := by rw [hS]; exact (Lib.size_eq s).symm
  rw [← hS] at C1 ⊢
  have HLEN : Hid (S.length = s.size) := hlen
  clear hS hlen hs
  by_cases hE : (lexT S).2.1 = 0
  · obtain ⟨T, hT, hL, h4, hP⟩ := parseP_ok hE
    rw [hL] at C1
    have C2 : Hid (∀ W, Calls Tryz.prog 42 #[.string s] W fun e w' => ∃ u, e = .returned (.tuple #[u, .int .i64 0, .int .i64 0]) ∧ w'.ownsRow W.heap.size 117 4 u T.length (gcells encT T) ∧ Below W.heap.size W w') := C1.out
    have HTl : Hid (T.length ≤ 5000) := by have := lexW_len hT; show _ ≤ _; omega
    have HTW : Hid (WordT T) := lexW_word S 0 T hT
    have HP : Hid (parseP S = match takeL S.length (T.length + 1) [] T with | .ok l => (l, 0, 0) | .error x => ([], x.1, x.2)) := hP
    obtain ⟨R, hR⟩ : ∃ R, R = parseP S := ⟨_, rfl⟩
    rw [← hR] at HP ⊢
    clear hE hT hL hP hR C1 h4
    go_enter_defers Tryz.func24, Tryz.ntmps24
    go_wp2_with fail
    refine (C2.out _).mono ?_
    rintro e w1 ⟨u, rfl, hown1, hb1⟩
    obtain ⟨o, cap, rfl⟩ := gown_slice hown1
    have B1 : Below w.heap.size w w1 := (((((Below.refl _ _).alloc (Nat.le_refl _) _).alloc (by simp) _).alloc (by simp; omega) _)).trans (hb1.mono (by simp; omega))
    have z1 : w.heap.size + 3 ≤ w1.heap.size := by have := hb1.size; simp at this; omega
    have K1 : Res3 w1 w.heap.size (.slice none 0 0) (.int .i64 0) (.int .i64 0) :=
      ⟨(hb1.block _ (by simp; omega)).trans (heap_past _ _ _ _ (heap_past _ _ _ _ (heap_new _ _ _ rfl))), (hb1.block _ (by simp)).trans (heap_past _ _ _ _ (heap_new _ _ _ (by simp))), (hb1.block _ (by simp)).trans (heap_new _ _ _ (by simp))⟩
    have K2 := K1.set1 (.int .i64 0)
    have K3 := K2.set2 (.int .i64 0)
    have c1 : w1.cell? ⟨w.heap.size + 1, 0, none⟩ = some (.int .i64 0) := by rw [cell_of_row _ _ _ _ _ _ K1.k1]; rfl
    have f1 : w1.frozen? ⟨w.heap.size + 1, 0, none⟩ = false := tc_frozen K1.k1 rfl
    have c2 : (w1.setCell ⟨w.heap.size + 1, 0, none⟩ (.int .i64 0)).cell? ⟨w.heap.size + 1 + 1, 0, none⟩ = some (.int .i64 0) := by rw [cell_of_row _ _ _ _ _ _ K2.k2]; rfl
    have f2 : (w1.setCell ⟨w.heap.size + 1, 0, none⟩ (.int .i64 0)).frozen? ⟨w.heap.size + 1 + 1, 0, none⟩ = false := tc_frozen K2.k2 rfl
    have c3 : ((w1.setCell ⟨w.heap.size + 1, 0, none⟩ (.int .i64 0)).setCell ⟨w.heap.size + 1 + 1, 0, none⟩ (.int .i64 0)).cell? ⟨w.heap.size + 1, 0, none⟩ = some (.int .i64 0) := by rw [cell_of_row _ _ _ _ _ _ K3.k1]; rfl
    have B3 : Below w.heap.size w ((w1.setCell ⟨w.heap.size + 1, 0, none⟩ (.int .i64 0)).setCell ⟨w.heap.size + 1 + 1, 0, none⟩ (.int .i64 0)) := tc_below (tc_below B1 (by omega) _ _) (by omega) _ _
    have G3 : GSl TokE encT ((w1.setCell ⟨w.heap.size + 1, 0, none⟩ (.int .i64 0)).setCell ⟨w.heap.size + 1 + 1, 0, none⟩ (.int .i64 0)) (.slice o T.length cap) T := gsl_of (E := TokE) (own_set (own_set hown1 K1.k1 (by decide) _) K2.k2 (by decide) _) fun c _ => rfl
    have HK : Hid (_ ∧ _ ∧ _) := ⟨K3, B3, G3⟩
    have z3 : ((w1.setCell ⟨w.heap.size + 1, 0, none⟩ (.int .i64 0)).setCell ⟨w.heap.size + 1 + 1, 0, none⟩ (.int .i64 0)).heap.size = w1.heap.size := by rw [tc_size, tc_size]
    obtain ⟨w2, hw2⟩ : ∃ w2, w2 = ((w1.setCell ⟨w.heap.size + 1, 0, none⟩ (.int .i64 0)).setCell ⟨w.heap.size + 1 + 1, 0, none⟩ (.int .i64 0)) := ⟨_, rfl⟩
    rw [← hw2] at HK c3 z3
    have HW2 : Hid (w2 = ((w1.setCell ⟨w.heap.size + 1, 0, none⟩ (.int .i64 0)).setCell ⟨w.heap.size + 1 + 1, 0, none⟩ (.int .i64 0))) := hw2
    have c3' : ((w1.setCell ⟨w.heap.size + 1, 0, none⟩ (.int .i64 0)).setCell ⟨w.heap.size + 1 + 1, 0, none⟩ (.int .i64 0)).cell? ⟨w.heap.size + 1, 0, none⟩ = some (.int .i64 0) := by rw [← hw2]; exact c3
    have ZZ : Hid (w2.heap.size = w1.heap.size) := z3
    clear hb1 hown1 B1 K1 K2 K3 B3 G3 hw2 c3 z3
    go_wp2_with (first
      | (refine wl_storeRd rfl _ _ rfl _ o T.length cap (s.size : Int) rfl rfl _ (heap_new _ _ _ rfl) rfl _ (setRow_new _ _ _ _ _ rfl) ?_))
    rw [← HW2.out]
    have hz := ZZ.out
    have RD : Rd w2 (w2.alloc (.cells #[.slice o T.length cap, .int .i64 (s.size : Int)] 86)) w1.heap.size S.length T :=
      ⟨(Below.refl _ _).alloc (Nat.le_refl _) _, by omega, .slice o T.length cap, by rw [HLEN.out]; exact heap_new _ _ _ (by omega), HK.out.2.2⟩
    have HZ : Hid (w2.heap.size = w1.heap.size) := hz
    have z2 : w1.heap.size ≤ w2.heap.size := by omega
    refine (lines_any w2 _ w1.heap.size S.length T HTl.out HTW.out RD).mono ?_
    clear RD hz c1 f1 c2 f2 c3'
    cases hA : takeL S.length (T.length + 1) [] T with
    | error x =>
      obtain ⟨c, q⟩ := x
      have HR : Hid (R = ([], c, q)) := by show _ = _; rw [HP.out, hA]
      clear hA
      rintro e w5 ⟨hg5, rfl⟩
      have z5 := hg5.size
      rw [World.size_alloc] at z5
      have K5 : Res3 w5 w.heap.size (.slice none 0 0) (.int .i64 0) (.int .i64 0) := HK.out.1.far fun j hj => by
        have hlt : j < w2.heap.size := by omega
        exact (hg5.block j (by rw [World.size_alloc]; omega) (by simp; omega)).trans ((heap_past w2 _ _ _ (Array.getElem?_eq_getElem hlt)).trans (Array.getElem?_eq_getElem hlt).symm)
      have B5 : Below w.heap.size w w5 := ⟨hg5.os.trans HK.out.2.1.os, hg5.tape.trans HK.out.2.1.tape, hg5.output.trans HK.out.2.1.output, by omega, fun j hj => by
        have hlt : j < w2.heap.size := by omega
        exact ((hg5.block j (by rw [World.size_alloc]; omega) (by simp; omega)).trans ((heap_past w2 _ _ _ (Array.getElem?_eq_getElem hlt)).trans (Array.getElem?_eq_getElem hlt).symm)).trans (HK.out.2.1.block j hj)⟩
      have HK5 : Hid (_ ∧ _) := ⟨K5, B5⟩
      clear hg5 K5 B5
      go_wp2_with fail
      refine leaves_cons (f := 43) (args := #[.pointer (some ⟨w.heap.size, 0, none⟩), .pointer (some ⟨w.heap.size + 1, 0, none⟩), .pointer (some ⟨w.heap.size + 1 + 1, 0, none⟩)]) (by simp) (by simp [go_sem]) ?_
      refine (catch_fault w.heap.size c q _ _ _ w5 HK5.out.1 (by omega) w.heap.size (Nat.le_refl _)).mono ?_
      rintro e u' w6 ⟨rfl, rfl, K6, B6⟩
      refine ⟨_, res3_run rfl K6 rfl rfl rfl, .slice none 0 0, ?_, ?_, HK5.out.2.trans B6⟩
      · rw [HR.out]
      · rw [HR.out]
        exact NOwn.nil _ _ _ _ _
    | ok l =>
      have HR : Hid (R = (l, 0, 0)) := by show _ = _; rw [HP.out, hA]
      clear hA
      rintro e w5 ⟨hg5, ⟨v, rfl, hraw⟩, _⟩
      obtain ⟨vo, vc, rfl⟩ : ∃ o c, v = .slice o l.length c := by
        obtain ⟨P, hP, hP2, _⟩ := hraw
        obtain ⟨o, cap, e⟩ := gown_slice hP2
        exact ⟨o, cap, by rw [e, ← hP, List.length_map]⟩
      have z5 := hg5.size
      rw [World.size_alloc] at z5
      have K5 : Res3 w5 w.heap.size (.slice none 0 0) (.int .i64 0) (.int .i64 0) := HK.out.1.far fun j hj => by
        have hlt : j < w2.heap.size := by omega
        exact (hg5.block j (by rw [World.size_alloc]; omega) (by simp; omega)).trans ((heap_past w2 _ _ _ (Array.getElem?_eq_getElem hlt)).trans (Array.getElem?_eq_getElem hlt).symm)
      have B5 : Below w.heap.size w w5 := ⟨hg5.os.trans HK.out.2.1.os, hg5.tape.trans HK.out.2.1.tape, hg5.output.trans HK.out.2.1.output, by omega, fun j hj => by
        have hlt : j < w2.heap.size := by omega
        exact ((hg5.block j (by rw [World.size_alloc]; omega) (by simp; omega)).trans ((heap_past w2 _ _ _ (Array.getElem?_eq_getElem hlt)).trans (Array.getElem?_eq_getElem hlt).symm)).trans (HK.out.2.1.block j hj)⟩
      have K6 := K5.set0 (.slice vo l.length vc)
      have K7 := K6.set1 (.int .i64 0)
      have K8 := K7.set2 (.int .i64 0)
      have hraw' : RawsOwn w.heap.size w5 l (.slice vo l.length vc) := raws_base hraw (by rw [World.size_alloc]; omega)
      have O8 := raws_set (raws_set (raws_set hraw' K5.k0 (by decide) (i := 0) (.slice vo l.length vc)) K6.k1 (by decide) (i := 0) (.int .i64 0)) K7.k2 (by decide) (i := 0) (.int .i64 0)
      have B8 := tc_below (tc_below (tc_below B5 (Nat.le_refl _) 0 (.slice vo l.length vc)) (g := w.heap.size + 1) (by omega) 0 (.int .i64 0)) (g := w.heap.size + 1 + 1) (by omega) 0 (.int .i64 0)
      have c0 : w5.cell? ⟨w.heap.size, 0, none⟩ = some (.slice none 0 0) := by rw [cell_of_row _ _ _ _ _ _ K5.k0]; rfl
      have f0 : w5.frozen? ⟨w.heap.size, 0, none⟩ = false := tc_frozen K5.k0 rfl
      have c1 : (w5.setCell ⟨w.heap.size, 0, none⟩ (.slice vo l.length vc)).cell? ⟨w.heap.size + 1, 0, none⟩ = some (.int .i64 0) := by rw [cell_of_row _ _ _ _ _ _ K6.k1]; rfl
      have f1 : (w5.setCell ⟨w.heap.size, 0, none⟩ (.slice vo l.length vc)).frozen? ⟨w.heap.size + 1, 0, none⟩ = false := tc_frozen K6.k1 rfl
      have c2 : ((w5.setCell ⟨w.heap.size, 0, none⟩ (.slice vo l.length vc)).setCell ⟨w.heap.size + 1, 0, none⟩ (.int .i64 0)).cell? ⟨w.heap.size + 1 + 1, 0, none⟩ = some (.int .i64 0) := by rw [cell_of_row _ _ _ _ _ _ K7.k2]; rfl
      have f2 : ((w5.setCell ⟨w.heap.size, 0, none⟩ (.slice vo l.length vc)).setCell ⟨w.heap.size + 1, 0, none⟩ (.int .i64 0)).frozen? ⟨w.heap.size + 1 + 1, 0, none⟩ = false := tc_frozen K7.k2 rfl
      have HK8 : Hid (_ ∧ _ ∧ _) := ⟨K8, O8, B8⟩
      clear hg5 K5 B5 K6 K7 K8 O8 B8 hraw hraw'
      go_wp2_with fail
      refine leaves_cons (f := 43) (args := #[.pointer (some ⟨w.heap.size, 0, none⟩), .pointer (some ⟨w.heap.size + 1, 0, none⟩), .pointer (some ⟨w.heap.size + 1 + 1, 0, none⟩)]) (by simp) (by simp [go_sem]) ?_
      refine (catch_idle w.heap.size (w.heap.size + 1) (w.heap.size + 1 + 1) _).mono ?_
      rintro e u' w6 ⟨rfl, rfl, rfl⟩
      refine ⟨_, res3_run rfl HK8.out.1 rfl rfl rfl, .slice vo l.length vc, ?_, ?_, HK8.out.2.2⟩
      · rw [HR.out]
        rfl
      · rw [HR.out]
        exact HK8.out.2.1
  · have HP : Hid (parseP S = ([], (lexT S).2.1, (lexT S).2.2)) := parseP_lex hE
    obtain ⟨R, hR⟩ : ∃ R, R = parseP S := ⟨_, rfl⟩
    rw [← hR] at HP ⊢
    obtain ⟨⟨L, E, A⟩, hL⟩ : ∃ x, x = lexT S := ⟨_, rfl⟩
    rw [← hL] at C1 HP hE
    simp only at C1 HP hE
    have hne : ((E : Int) != 0) = true := by simp; omega
    clear hE hL hR
    go_enter_defers Tryz.func24, Tryz.ntmps24
    go_wp2_with fail
    refine (C1.out _).mono ?_
    rintro e w1 ⟨u, rfl, -, hb1⟩
    have B1 : Below w.heap.size w w1 := (((((Below.refl _ _).alloc (Nat.le_refl _) _).alloc (by simp) _).alloc (by simp; omega) _)).trans (hb1.mono (by simp; omega))
    have z1 : w.heap.size + 3 ≤ w1.heap.size := by have := hb1.size; simp at this; omega
    have K1 : Res3 w1 w.heap.size (.slice none 0 0) (.int .i64 0) (.int .i64 0) :=
      ⟨(hb1.block _ (by simp; omega)).trans (heap_past _ _ _ _ (heap_past _ _ _ _ (heap_new _ _ _ rfl))), (hb1.block _ (by simp)).trans (heap_past _ _ _ _ (heap_new _ _ _ (by simp))), (hb1.block _ (by simp)).trans (heap_new _ _ _ (by simp))⟩
    have K2 := K1.set1 (.int .i64 (E : Int))
    have K3 := K2.set2 (.int .i64 (A : Int))
    have c1 : w1.cell? ⟨w.heap.size + 1, 0, none⟩ = some (.int .i64 0) := by rw [cell_of_row _ _ _ _ _ _ K1.k1]; rfl
    have f1 : w1.frozen? ⟨w.heap.size + 1, 0, none⟩ = false := tc_frozen K1.k1 rfl
    have c2 : (w1.setCell ⟨w.heap.size + 1, 0, none⟩ (.int .i64 (E : Int))).cell? ⟨w.heap.size + 1 + 1, 0, none⟩ = some (.int .i64 0) := by rw [cell_of_row _ _ _ _ _ _ K2.k2]; rfl
    have f2 : (w1.setCell ⟨w.heap.size + 1, 0, none⟩ (.int .i64 (E : Int))).frozen? ⟨w.heap.size + 1 + 1, 0, none⟩ = false := tc_frozen K2.k2 rfl
    have c3 : ((w1.setCell ⟨w.heap.size + 1, 0, none⟩ (.int .i64 (E : Int))).setCell ⟨w.heap.size + 1 + 1, 0, none⟩ (.int .i64 (A : Int))).cell? ⟨w.heap.size + 1, 0, none⟩ = some (.int .i64 (E : Int)) := by rw [cell_of_row _ _ _ _ _ _ K3.k1]; rfl
    have B3 : Below w.heap.size w ((w1.setCell ⟨w.heap.size + 1, 0, none⟩ (.int .i64 (E : Int))).setCell ⟨w.heap.size + 1 + 1, 0, none⟩ (.int .i64 (A : Int))) := tc_below (tc_below B1 (by omega) _ _) (by omega) _ _
    have HK : Hid (_ ∧ _) := ⟨K3, B3⟩
    clear hb1 B1 K1 K2 K3 B3
    go_wp2_with fail
    obtain ⟨wa, hwa⟩ : ∃ wa, wa = ((w1.setCell ⟨w.heap.size + 1, 0, none⟩ (.int .i64 (E : Int))).setCell ⟨w.heap.size + 1 + 1, 0, none⟩ (.int .i64 (A : Int))) := ⟨_, rfl⟩
    rw [← hwa] at HK ⊢
    clear hwa c1 f1 c2 f2 c3
    refine region_cut (fun a a' w' => (∃ y z, a' = (a.put (some 15) y).put (some 16) z) ∧ Res3 w' w.heap.size (.slice none 0 0) (.int .i64 (E : Int)) (.int .i64 (A : Int)) ∧ Below w.heap.size w w') ?_ ?_
    · refine region_beginS (fun w' => w'.heap[w.heap.size + 1]? = some (.cells #[.int .i64 (E : Int)] 25 (0, 0)) ∧ w'.heap[w.heap.size + 1 + 1]? = some (.cells #[.int .i64 (A : Int)] 3 (0, 0))) 5 rfl (by kernel_rfl) ?_
      have i24 : ∀ W, (isAgg 25).run Tryz.prog W = .ok false W := fun W => by kernel_rfl
      have i3 : ∀ W, (isAgg 3).run Tryz.prog W = .ok false W := fun W => by kernel_rfl
      have kd : Res3 wa.drew w.heap.size (.slice none 0 0) (.int .i64 (E : Int)) (.int .i64 (A : Int)) := ⟨HK.out.1.k0, HK.out.1.k1, HK.out.1.k2⟩
      have bd : Below w.heap.size w wa.drew := HK.out.2.drew
      refine wpAnyH_take (i := 0) (v := .int .i64 (E : Int)) rfl (by kernel_rfl) (by kernel_rfl) (by kernel_rfl) (fun _ _ _ h => absurd h.1 (by simp)) (.inl ⟨rfl, fun W hW => run_loadOp rfl _ _ _ (.int .i64 (E : Int)) rfl (load_one W (i24 W) _ _ (by rw [cell_of_row _ _ _ _ _ _ hW.1]; rfl))⟩) ⟨kd.k1, kd.k2⟩ ?_
      refine wpAnyH_take (i := 1) (v := .int .i64 (A : Int)) rfl (by kernel_rfl) (by kernel_rfl) (by kernel_rfl) (fun _ _ _ h => absurd h.1 (by simp)) (.inl ⟨rfl, fun W hW => run_loadOp rfl _ _ _ (.int .i64 (A : Int)) rfl (load_one W (i3 W) _ _ (by rw [cell_of_row _ _ _ _ _ _ hW.2]; rfl))⟩) ⟨kd.k1, kd.k2⟩ ?_
      have k4 := kd.set0 (.slice none 0 0)
      have k5 := k4.set1 (.int .i64 (E : Int))
      have k6 := k5.set2 (.int .i64 (A : Int))
      have b6 := tc_below (tc_below (tc_below bd (Nat.le_refl _) 0 (.slice none 0 0)) (g := w.heap.size + 1) (by omega) 0 (.int .i64 (E : Int))) (g := w.heap.size + 1 + 1) (by omega) 0 (.int .i64 (A : Int))
      refine wpAnyH_all (rs := [2]) (by kernel_rfl) (by decide) ?_
      intro i hi
      obtain rfl := List.mem_singleton.1 hi
      refine wpOp_skip0 rfl rfl (run_storeOp rfl _ _ _ (.pointer (some ⟨w.heap.size, 0, none⟩)) (.slice none 0 0) rfl rfl (store_one (fun W => Tryz.sizeOf55 W) _ _ _ (.slice none 0 0) (.inl ⟨_, _, _, rfl⟩) (by rw [cell_of_row _ _ _ _ _ _ kd.k0]; rfl) (tc_frozen kd.k0 rfl))) rfl ⟨⟨k4.k1, k4.k2⟩, ?_⟩
      refine wpAnyH_all (rs := [3]) (by kernel_rfl) (by decide) ?_
      intro i hi
      obtain rfl := List.mem_singleton.1 hi
      refine wpOp_skip0 rfl rfl (run_storeOp rfl _ _ _ (.pointer (some ⟨w.heap.size + 1, 0, none⟩)) (.int .i64 (E : Int)) rfl rfl (store_one (fun W => Tryz.sizeOf25 W) _ _ _ (.int .i64 (E : Int)) (.inr ⟨_, _, rfl⟩) (by rw [cell_of_row _ _ _ _ _ _ k4.k1]; rfl) (tc_frozen k4.k1 rfl))) rfl ⟨⟨k5.k1, k5.k2⟩, ?_⟩
      refine wpAnyH_all (rs := [4]) (by kernel_rfl) (by decide) ?_
      intro i hi
      obtain rfl := List.mem_singleton.1 hi
      refine wpOp_skip0 rfl rfl (run_storeOp rfl _ _ _ (.pointer (some ⟨w.heap.size + 1 + 1, 0, none⟩)) (.int .i64 (A : Int)) rfl rfl (store_one (fun W => Tryz.sizeOf3 W) _ _ _ (.int .i64 (A : Int)) (.inr ⟨_, _, rfl⟩) (by rw [cell_of_row _ _ _ _ _ _ k5.k2]; rfl) (tc_frozen k5.k2 rfl))) rfl ⟨⟨k6.k1, k6.k2⟩, ?_⟩
      refine wpAnyH_done (by kernel_rfl) ?_ _
      exact ⟨rfl, ⟨_, _, rfl⟩, k6, b6⟩
    rintro a' w' ⟨⟨y, z, rfl⟩, k6, b6⟩
    simp only [Act.put, List.setIfInBounds_toArray, List.set_cons_succ, List.set_cons_zero]
    go_wp2_with fail
    refine ⟨_, res3_run rfl k6 rfl rfl rfl, .slice none 0 0, ?_, ?_, b6⟩
    · rw [HP.out]
    · rw [HP.out]
      exact NOwn.nil _ _ _ _ _
end Go.Proofs.YthddlchkbnmcaaaGreatDoor
namespace Go.Proofs.YthddlchkbnmcaaaGreatDoor
open Go Go.RowKit
set_option maxRecDepth 20000

theorem parseP_zero7 {S : List UInt8} (h : (parseP S).2.1 = 0) : parseT S = .ok (parseP S).1 := by
  unfold parseP at h ⊢
  cases hx : parseT S with
  | ok l => rfl
  | error x =>
    rw [hx] at h
    exfalso
    have h' : x.1 = 0 := h
    unfold parseT at hx
    by_cases h4 : 4096 < S.length
    · rw [if_pos h4] at hx; cases hx; exact absurd h' (by decide)
    · rw [if_neg h4] at hx
      cases hl : lexW 0 S with
      | error y =>
        rw [hl] at hx
        cases hx
        obtain ⟨e, p⟩ := x
        have := lexW_error S 0 e p hl
        have h2 : e = 0 := h'
        omega
      | ok T =>
        rw [hl] at hx
        have hx' : takeL S.length (T.length + 1) [] T = .error x := hx
        have := does_rows S.length T (T.length + 1) [] ⟨0, 0, 0⟩ rfl
        rw [show T.drop (Ws.mk 0 0 0).i = T from rfl, hx'] at this
        exact this.2.2 h'
set_option maxHeartbeats 1000000 in
theorem says_any (l : List Ent) (vl : Value) (w : World) (hl : EntsAt w vl l) (h32 : ∀ x ∈ l, ent32 x) (L : List Int) (hL : Byt L) (hP : Places w) :
    Calls Tryz.prog 12 #[vl, .agg (hv L)] w fun e w' => e = .returned (.tuple #[.int .i64 (saysT (applyT L) l).1, .bool (saysT (applyT L) l).2]) ∧ Below w.heap.size w w' := by
  have hLl := hL.1
  have hp := hP.pos
  have WC : Hid (∀ W, Below w.heap.size w W → Calls Tryz.prog 23 #[vl, .agg (hv L)] W fun e w' => e = .returned (.int .i64 (whichI (applyT L) l)) ∧ Below W.heap.size W w') := fun W hb => which_any l vl W (GSl.below hl hb) h32 L hL (hP.later hp hb)
  obtain ⟨o, cap, rfl, hc1, hc2⟩ := GSl.slice hl
  obtain ⟨n, hn⟩ : ∃ n, n = l.length := ⟨_, rfl⟩
  rw [← hn] at hl hc1 WC ⊢
  have HL : Hid (EntsAt w (.slice o n cap) l) := hl
  unfold maxLen at hc2
  have KN : Hid ((w.alloc (.cells (hv L) 31)).heap[w.heap.size]? = some (.cells (hv L) 31 (0, 0)) ∧ Below w.heap.size w (w.alloc (.cells (hv L) 31))) := ⟨heap_new _ _ _ rfl, (Below.refl _ _).alloc (Nat.le_refl _) _⟩
  cases hw : whichT (applyT L) l with
  | none =>
    have e1 : whichI (applyT L) l = -1 := by unfold whichI; rw [hw]; rfl
    have e2 : saysT (applyT L) l = (0, false) := by unfold saysT; rw [hw]
    rw [e2]
    rw [e1] at WC
    clear hl h32 hP hp hw e1 e2 hn
    go_enter Tryz.func12, Tryz.ntmps12
    go_wp2_with (refine wl_load26 rfl _ rfl w.heap.size rfl L KN.out.1 hLl ?_)
    refine (WC.out _ KN.out.2).mono ?_
    rintro e w1 ⟨rfl, hb1⟩
    have B1 : Hid (Below w.heap.size w w1) := KN.out.2.trans (hb1.mono KN.out.2.size)
    clear hb1
    go_wp2_with fail
    go_ret2
    exact ⟨rfl, B1.out⟩
  | some i =>
    obtain ⟨x, hx⟩ := whichT_in hw
    have hi : i < n := by rw [hn]; exact (List.getElem?_eq_some_iff.1 hx).1
    have e1 : whichI (applyT L) l = (i : Int) := by unfold whichI; rw [hw]; rfl
    have e2 : saysT (applyT L) l = (x.action, true) := by unfold saysT; rw [hw]; simp only [List.getD_eq_getElem?_getD, hx]; rfl
    rw [e2]
    rw [e1] at WC
    obtain ⟨g, off, cur, ty, fr, x', rfl, hg, hc, hxi⟩ := hl.at i hi
    obtain rfl : x = x' := Option.some.inj (hx.symm.trans hxi)
    have HG : Hid (w.heap[g]? = some (.cells cur ty fr)) := hg
    have HC : Hid (cur[off + i * 12 + 11]? = some (.int .i64 x.action)) := ent_act hc
    have hi0 : ¬ (i : Int) < 0 := by omega
    have hi1 : (i : Int) < (n : Int) := by omega
    clear hl h32 hP hp hw e1 e2 hx hxi hg hc hn
    go_enter Tryz.func12, Tryz.ntmps12
    go_wp2_with (refine wl_load26 rfl _ rfl w.heap.size rfl L KN.out.1 hLl ?_)
    refine (WC.out _ KN.out.2).mono ?_
    rintro e w1 ⟨rfl, hb1⟩
    have B1 : Hid (Below w.heap.size w w1) := KN.out.2.trans (hb1.mono KN.out.2.size)
    have q : w1.cell? ⟨g, off + i * 12 + 11, none⟩ = some (.int .i64 x.action) := by rw [cell_of_row _ _ _ _ _ _ ((B1.out.block g (Array.getElem?_eq_some_iff.1 HG.out).1).trans HG.out)]; exact HC.out
    clear hb1
    go_wp2_with fail
    go_ret2
    exact ⟨rfl, B1.out⟩

/-- What a text comes to. -/
def readP (S : List UInt8) : List Ent × Int × Int := outC (readT S)
theorem readP_bad {S : List UInt8} (h : (parseP S).2.1 ≠ 0) : readP S = ([], ((parseP S).2.1 : Int), ((parseP S).2.2 : Int)) := by
  unfold readP readT
  unfold parseP at h ⊢
  cases hp : parseT S with
  | ok l => rw [hp] at h; exact absurd rfl h
  | error x => rfl
theorem readP_good {S : List UInt8} (h : (parseP S).2.1 = 0) : readP S = checkP (S.length : Int) (parseP S).1 := by
  have := parseP_zero7 h
  unfold readP readT checkP
  rw [this]
theorem raws_sl7 {B : Nat} {w : World} {L : List Raw} {v : Value} (h : RawsOwn B w L v) : RawsAt w v L := by
  obtain ⟨P, h1, h2, h3⟩ := h
  refine ⟨P, h1, gsl_of (E := RawE) h2 fun c _ => rfl, fun p hp => ?_⟩
  obtain ⟨Q, q1, q2, q3⟩ := h3 p hp
  exact ⟨Q, q1, gsl_of (E := ClaE) q2 fun c _ => rfl, fun r hr => gsl_of (E := FigE) (q3 r hr) fun c _ => rfl⟩

set_option maxHeartbeats 4000000 in
theorem read_any (s : ByteArray) (hs : s.size ≤ maxLen) (w : World) :
    Calls Tryz.prog 13 #[.string s] w fun e w' => ∃ v, e = .returned (.tuple #[v, .int .i64 (readP s.data.toList).2.1, .int .i64 (readP s.data.toList).2.2]) ∧ EntsOwn w.heap.size w' (readP s.data.toList).1 v ∧ Below w.heap.size w w' := by
  have C1 : Hid (∀ W, Calls Tryz.prog 24 #[.string s] W fun e w' => ∃ v, e = .returned (.tuple #[v, .int .i64 ((parseP s.data.toList).2.1 : Nat), .int .i64 ((parseP s.data.toList).2.2 : Nat)]) ∧ RawsOwn W.heap.size w' (parseP s.data.toList).1 v ∧ Below W.heap.size W w') := parse_any s hs
  have hlen : (s.data.toList.length : Int) = (s.size : Int) := by rw [← Lib.size_eq]
  have hz : (parseP s.data.toList).2.1 = 0 → readP s.data.toList = checkP (s.size : Int) (parseP s.data.toList).1 := fun h => by rw [readP_good h, hlen]
  have hb := @readP_bad s.data.toList
  obtain ⟨S, hS⟩ : ∃ S, S = s.data.toList := ⟨_, rfl⟩
  rw [← hS] at C1 hz hb ⊢
  have CK : Hid (∀ (l : List Raw) vl W, RawsAt W vl l → Calls Tryz.prog 25 #[vl, .int .i64 (s.size : Int)] W fun e w' => ∃ v, e = .returned (.tuple #[v, .int .i64 (checkP (s.size : Int) l).2.1, .int .i64 (checkP (s.size : Int) l).2.2]) ∧ EntsOwn W.heap.size w' (checkP (s.size : Int) l).1 v ∧ Below W.heap.size W w') := fun l vl W h => check_any l vl _ W h
  obtain ⟨⟨R, E, A⟩, hP⟩ : ∃ x, x = parseP S := ⟨_, rfl⟩
  rw [← hP] at C1 hz hb
  simp only at C1 hz hb
  obtain ⟨X, hX⟩ : ∃ X, X = readP S := ⟨_, rfl⟩
  rw [← hX] at hz hb ⊢
  unfold maxLen at hs
  clear hS hP hX hlen
  by_cases hE : E = 0
  · subst hE
    obtain rfl := hz rfl
    clear hz hb
    go_enter Tryz.func13, Tryz.ntmps13
    go_wp2_with fail
    refine (C1.out _).mono ?_
    rintro e w1 ⟨v, rfl, ho1, hb1⟩
    have HR : Hid (RawsAt w1 v R) := raws_sl7 ho1
    have HB : Hid (Below w.heap.size w w1) := hb1
    clear ho1 hb1
    go_wp2_with fail
    refine (CK.out _ _ _ HR.out).mono ?_
    rintro e w2 ⟨v2, rfl, ho2, hb2⟩
    have HO : Hid (EntsOwn w.heap.size w2 (checkP (s.size : Int) R).1 v2) := gown_base ho2 HB.out.size
    have HB2 : Hid (Below w.heap.size w w2) := HB.out.trans (hb2.mono HB.out.size)
    clear ho2 hb2
    go_wp2_with fail
    go_ret3
    exact ⟨_, rfl, HO.out, HB2.out⟩
  · obtain rfl := hb hE
    have hne : ((E : Int) != 0) = true := by simp; omega
    clear hz hb hE
    go_enter Tryz.func13, Tryz.ntmps13
    go_wp2_with fail
    refine (C1.out _).mono ?_
    rintro e w1 ⟨v, rfl, ho1, hb1⟩
    have HB : Hid (Below w.heap.size w w1) := hb1
    clear ho1 hb1
    go_wp2_with fail
    go_ret3
    exact ⟨_, rfl, World.ownsRow_nil _ _ _ _, HB.out⟩

end Go.Proofs.YthddlchkbnmcaaaGreatDoor
