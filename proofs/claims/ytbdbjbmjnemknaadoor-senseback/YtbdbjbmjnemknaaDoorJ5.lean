import Derived.Test.YtbdbjbmjnemknaaDoorJ4
import Derived.Defers
import Derived.Recover
import Derived.Test.YtbdbjbmjnemknaaDoorJ1
import Derived.Test.YtbdbjbmjnemknaaDoorJ3
namespace Go.Proofs.YtbdbjbmjnemknaaDoor
open Go Go.RowKit
set_option maxRecDepth 20000

theorem lexeme_wordless {c : UInt8} {r : List UInt8} {n k v : Nat} {t : List UInt8} (h : lexeme c r = (Lx.tok k t v, n)) : k = 1 ∨ t = [] := by
  unfold lexeme at h
  repeat' split at h
  all_goals simp only [Prod.mk.injEq, Except.ok.injEq, Option.some.injEq, reduceCtorEq, false_and] at h
  all_goals first | exact .inl h.1.1.symm | exact .inr h.1.2.1.symm | skip
theorem lexW_word : ∀ (S : List UInt8) (p : Nat) (l : List Tok), lexW p S = .ok l → WordT l := by
  refine lexW_induct _ (fun p l h => ?_) (fun p c r n hx ih l h => ?_) (fun p c r n k t v hx ih l h => ?_) (fun p c r n e hx l h => ?_)
  · rw [lexW_nil] at h
    obtain rfl : [] = l := Except.ok.inj h
    intro t ht; simp at ht
  · rw [lexW_none hx] at h; exact ih l h
  · rw [lexW_tok hx] at h
    cases hy : lexW (p + 1 + n) (r.drop n) with
    | error x => rw [hy] at h; simp [glue] at h
    | ok l' =>
      rw [hy] at h
      obtain rfl : ⟨k, p, t, v⟩ :: l' = l := by simpa [glue] using h
      intro u hu
      rcases List.mem_cons.1 hu with rfl | hu
      · intro ht
        rcases lexeme_wordless hx with hk | hk
        · exact hk
        · exfalso
          have ht' : t = wDefault := ht
          rw [hk] at ht'
          cases ht'
      · exact ih l' hy u hu
  · rw [lexW_err hx] at h; cases h
/-- What a text parses to: its lines, or what is wrong with it and where. -/
def parseP (S : List UInt8) : List Raw × Nat × Nat := match parseT S with | .ok l => (l, 0, 0) | .error x => ([], x.1, x.2)
theorem parseP_lex {S : List UInt8} (h : (lexT S).2.1 ≠ 0) : parseP S = ([], (lexT S).2.1, (lexT S).2.2) := by
  unfold parseP parseT
  unfold lexT at h ⊢
  by_cases h4 : 4096 < S.length
  · rw [if_pos h4, if_pos h4]
  · rw [if_neg h4, if_neg h4]
    rw [if_neg h4] at h
    cases hx : lexW 0 S with
    | ok l => rw [hx] at h; exact absurd rfl h
    | error x => rfl
theorem parseP_ok {S : List UInt8} (h : (lexT S).2.1 = 0) : ∃ T, lexW 0 S = .ok T ∧ lexT S = (T, 0, 0) ∧ S.length ≤ 4096 ∧ parseP S = match takeL S.length (T.length + 1) [] T with | .ok l => (l, 0, 0) | .error x => ([], x.1, x.2) := by
  unfold parseP parseT
  unfold lexT at h ⊢
  by_cases h4 : 4096 < S.length
  · rw [if_pos h4] at h; exact absurd h (by decide)
  · rw [if_neg h4, if_neg h4]
    rw [if_neg h4] at h
    cases hx : lexW 0 S with
    | ok l => exact ⟨l, rfl, rfl, by omega, rfl⟩
    | error x =>
      obtain ⟨e, p⟩ := x
      rw [hx] at h
      have := lexW_error S 0 e p hx
      have h' : e = 0 := h
      omega

theorem load_one {ty : TypeId} (W : World) (ha : (isAgg ty).run Tryd.prog W = .ok false W) (ad : Addr) (v : Value) (h : W.cell? ad = some v) : (Instr.loadAt ty (.pointer (some ad))).run Tryd.prog W = .ok v W := by
  simp [Instr.loadAt, Instr.sureAddr, loadVar, Sem.run_bind, ha, go_sem, h]
theorem store_one {ty : TypeId} (hsz : ∀ W, (sizeOf ty).run Tryd.prog W = .ok 1 W) (W : World) (ad : Addr) (v u : Value) (hv : (∃ o n c, v = .slice o n c) ∨ (∃ k z, v = .int k z)) (h : W.cell? ad = some u) (hz : W.frozen? ad = false) : (Instr.storeAt ty (.pointer (some ad)) v).run Tryd.prog W = .ok () (W.setCell ad v) := by
  rcases hv with ⟨o, n, c, rfl⟩ | ⟨k, z, rfl⟩
  · simp [Instr.storeAt, Instr.sureAddr, storeVar, Sem.run_bind, hsz, go_sem, h, hz]
  · simp [Instr.storeAt, Instr.sureAddr, storeVar, Sem.run_bind, hsz, go_sem, h, hz]
/-- The three results as they lie in memory, one cell each. -/
structure Res3 (w : World) (b0 : Nat) (x0 x1 x2 : Value) : Prop where
  k0 : w.heap[b0]? = some (.cells #[x0] 35 (0, 0))
  k1 : w.heap[b0 + 1]? = some (.cells #[x1] 24 (0, 0))
  k2 : w.heap[b0 + 1 + 1]? = some (.cells #[x2] 3 (0, 0))
theorem Res3.set0 {w : World} {b0 : Nat} {x0 x1 x2 : Value} (h : Res3 w b0 x0 x1 x2) (y : Value) : Res3 (w.setCell ⟨b0, 0, none⟩ y) b0 y x1 x2 := ⟨tc_row h.k0 y, (tc_far (by omega) y).trans h.k1, (tc_far (by omega) y).trans h.k2⟩
theorem Res3.set1 {w : World} {b0 : Nat} {x0 x1 x2 : Value} (h : Res3 w b0 x0 x1 x2) (y : Value) : Res3 (w.setCell ⟨b0 + 1, 0, none⟩ y) b0 x0 y x2 := ⟨(tc_far (by omega) y).trans h.k0, tc_row h.k1 y, (tc_far (by omega) y).trans h.k2⟩
theorem Res3.set2 {w : World} {b0 : Nat} {x0 x1 x2 : Value} (h : Res3 w b0 x0 x1 x2) (y : Value) : Res3 (w.setCell ⟨b0 + 1 + 1, 0, none⟩ y) b0 x0 x1 y := ⟨(tc_far (by omega) y).trans h.k0, (tc_far (by omega) y).trans h.k1, tc_row h.k2 y⟩
theorem Res3.far {w : World} {b0 : Nat} {x0 x1 x2 : Value} (h : Res3 w b0 x0 x1 x2) {w' : World} (hb : ∀ k, k = b0 ∨ k = b0 + 1 ∨ k = b0 + 1 + 1 → w'.heap[k]? = w.heap[k]?) : Res3 w' b0 x0 x1 x2 := ⟨(hb _ (.inl rfl)).trans h.k0, (hb _ (.inr (.inl rfl))).trans h.k1, (hb _ (.inr (.inr rfl))).trans h.k2⟩
theorem wl_storeX {ops : Array Oper} {rest : List Oper} {o : Oper} {a : Act} {w : World} {Q : Exit → Act → World → Prop} (hgd : o.guard = none) (x y : Operand) (ho : o.op = .store 63 x y)
    (g : Nat) (c q : Int) (hx : a.eval x = .pointer (some ⟨g, 0, none⟩)) (hy : a.eval y = .agg #[.int .i64 c, .int .i64 q]) (old : Array Value) (hg : w.heap[g]? = some (.cells old 63 (0, 0))) (hold : old.size = 2) (w' : World) (hw' : w.setRow g #[.int .i64 c, .int .i64 q] = w')
    (h : wpList Tryd.prog ops Q rest (a.put o.dst undef) w') : wpList Tryd.prog ops Q (o :: rest) a w :=
  wpList_store_row hgd 63 x y ho g _ hx hy 63 old hg (by kernel_rfl) hold (by simp [Value.oneCell']) (by rw [hw']; exact h)

set_option maxHeartbeats 2000000 in
theorem catch_fault (b0 : Nat) (c q : Nat) (x0 x1 x2 : Value) (w : World) (k : Res3 w b0 x0 x1 x2) (hb0 : b0 + 2 < w.heap.size) (B : Nat) (hB : B ≤ b0) :
    CallsD Tryd.prog 21 #[.pointer (some ⟨b0, 0, none⟩), .pointer (some ⟨b0 + 1, 0, none⟩), .pointer (some ⟨b0 + 1 + 1, 0, none⟩)] (.panicking [{ v := faultV c q, recovered := false }]) w fun e u' w' =>
      e = .returned (.tuple #[]) ∧ u' = .panicking [{ v := faultV c q, recovered := true }] ∧ Res3 w' b0 (.slice none 0 0) (.int .i64 (c : Int)) (.int .i64 (q : Int)) ∧ Below B w w' := by
  unfold faultV
  refine callsD_of_wpS Tryd.func21 rfl fun c₀ cs hu => ?_
  apply wpS_seq
  apply wpS_region
  simp [wpOpsS, go_sem, recoverD, hu, Tryd.ntmps21, Exit.thenS]
  refine wpS_of_wp ?_
  have hta : ∀ W, (Instr.typeAssert (.iface 63 (.agg #[.int .i64 (c : Int), .int .i64 (q : Int)])) 20 63 false).run Tryd.prog W = .ok (.agg #[.int .i64 (c : Int), .int .i64 (q : Int)]) W := fun W => by kernel_rfl
  have hrep : Array.replicate 11 undef = #[undef, undef, undef, undef, undef, undef, undef, undef, undef, undef, undef] := rfl
  simp only [hrep, List.setIfInBounds_toArray, List.set_cons_succ, List.set_cons_zero, List.append_toArray, List.cons_append, List.nil_append]
  clear hrep
  go_wp2_with (first
    | (refine wl_storeX rfl _ _ rfl w.heap.size (c : Int) (q : Int) rfl rfl _ (heap_new _ _ _ rfl) rfl _ (setRow_new _ _ _ _ _ rfl) ?_))
  obtain ⟨wa, hwa⟩ : ∃ wa, wa = w.alloc (.cells #[.int .i64 (c : Int), .int .i64 (q : Int)] 63) := ⟨_, rfl⟩
  rw [← hwa]
  obtain ⟨F, hF⟩ : ∃ F, F = w.heap.size := ⟨_, rfl⟩
  rw [← hF]
  have kF : wa.heap[F]? = some (.cells #[.int .i64 (c : Int), .int .i64 (q : Int)] 63 (0, 0)) := by rw [hwa, hF]; exact heap_new _ _ _ rfl
  have ka : Res3 wa b0 x0 x1 x2 := k.far fun j hj => by
    rw [hwa]
    have hlt : j < w.heap.size := by omega
    exact (heap_past w _ _ _ (Array.getElem?_eq_getElem hlt)).trans (Array.getElem?_eq_getElem hlt).symm
  have ba : Below B w wa := by rw [hwa]; exact (Below.refl _ _).alloc (by omega) _
  have hFb : F ≠ b0 ∧ F ≠ b0 + 1 ∧ F ≠ b0 + 1 + 1 := by omega
  clear hwa hF k hb0
  refine region_cut (fun a a' w' => a'.defers = [] ∧ Res3 w' b0 (.slice none 0 0) (.int .i64 (c : Int)) (.int .i64 (q : Int)) ∧ Below B w w') ?_ ?_
  · refine region_beginS (fun w' => w'.heap[F]? = some (.cells #[.int .i64 (c : Int), .int .i64 (q : Int)] 63 (0, 0))) 7 rfl (by kernel_rfl) ?_
    have i24 : ∀ W, (isAgg 24).run Tryd.prog W = .ok false W := fun W => by kernel_rfl
    have i3 : ∀ W, (isAgg 3).run Tryd.prog W = .ok false W := fun W => by kernel_rfl
    have fa0 : ∀ W, (Instr.fieldAt 63 (.pointer (some ⟨F, 0, none⟩)) 0).run Tryd.prog W = .ok (.pointer (some ⟨F, 0, none⟩)) W := fun W => by simp [go_sem]
    have fa1 : ∀ W, (Instr.fieldAt 63 (.pointer (some ⟨F, 0, none⟩)) 1).run Tryd.prog W = .ok (.pointer (some ⟨F, 1, none⟩)) W := fun W => by simp [go_sem]
    refine wpAnyH_take (i := 0) (v := .pointer (some ⟨F, 0, none⟩)) rfl (by kernel_rfl) (by kernel_rfl) (by kernel_rfl) (fun _ _ _ h => absurd h.1 (by simp)) (.inl ⟨rfl, fun W _ => run_fieldOp rfl _ _ _ (fa0 W)⟩) kF ?_
    refine wpAnyH_take (i := 1) (v := .int .i64 (c : Int)) rfl (by kernel_rfl) (by kernel_rfl) (by kernel_rfl) (fun _ _ _ h => absurd h.1 (by simp)) (.inl ⟨rfl, fun W hW => run_loadOp rfl _ _ _ _ rfl (load_one W (i24 W) _ _ (by rw [cell_of_row _ _ _ _ _ _ hW]; rfl))⟩) kF ?_
    refine wpAnyH_take (i := 2) (v := .pointer (some ⟨F, 1, none⟩)) rfl (by kernel_rfl) (by kernel_rfl) (by kernel_rfl) (fun _ _ _ h => absurd h.1 (by simp)) (.inl ⟨rfl, fun W _ => run_fieldOp rfl _ _ _ (fa1 W)⟩) kF ?_
    refine wpAnyH_take (i := 3) (v := .int .i64 (q : Int)) rfl (by kernel_rfl) (by kernel_rfl) (by kernel_rfl) (fun _ _ _ h => absurd h.1 (by simp)) (.inl ⟨rfl, fun W hW => run_loadOp rfl _ _ _ _ rfl (load_one W (i3 W) _ _ (by rw [cell_of_row _ _ _ _ _ _ hW]; rfl))⟩) kF ?_
    have kd : Res3 wa.drew b0 x0 x1 x2 := ⟨ka.k0, ka.k1, ka.k2⟩
    have kFd : wa.drew.heap[F]? = some (.cells #[.int .i64 (c : Int), .int .i64 (q : Int)] 63 (0, 0)) := kF
    have bd : Below B w wa.drew := ba.drew
    refine wpAnyH_all (rs := [4]) (by kernel_rfl) (by decide) ?_
    intro i hi
    obtain rfl := List.mem_singleton.1 hi
    refine wpOp_skip0 rfl rfl (run_storeOp rfl _ _ _ (.pointer (some ⟨b0, 0, none⟩)) (.slice none 0 0) rfl rfl (store_one (fun W => Tryd.sizeOf35 W) _ _ _ x0 (.inl ⟨_, _, _, rfl⟩) (by rw [cell_of_row _ _ _ _ _ _ kd.k0]; rfl) (tc_frozen kd.k0 rfl))) rfl ⟨(tc_far (by omega) _).trans kFd, ?_⟩
    have k4 := kd.set0 (.slice none 0 0)
    have kF4 := (tc_far (w := wa.drew) (k := 0) (Ne.symm hFb.1) (.slice none 0 0)).trans kFd
    have b4 := tc_below bd (g := b0) hB 0 (.slice none 0 0)
    refine wpAnyH_all (rs := [5]) (by kernel_rfl) (by decide) ?_
    intro i hi
    obtain rfl := List.mem_singleton.1 hi
    refine wpOp_skip0 rfl rfl (run_storeOp rfl _ _ _ (.pointer (some ⟨b0 + 1, 0, none⟩)) (.int .i64 (c : Int)) rfl rfl (store_one (fun W => Tryd.sizeOf24 W) _ _ _ x1 (.inr ⟨_, _, rfl⟩) (by rw [cell_of_row _ _ _ _ _ _ k4.k1]; rfl) (tc_frozen k4.k1 rfl))) rfl ⟨(tc_far (by omega) _).trans kF4, ?_⟩
    have k5 := k4.set1 (.int .i64 (c : Int))
    have kF5 := (tc_far (w := wa.drew.setCell ⟨b0, 0, none⟩ (.slice none 0 0)) (k := 0) (Ne.symm hFb.2.1) (.int .i64 (c : Int))).trans kF4
    have b5 := tc_below b4 (g := b0 + 1) (by omega) 0 (.int .i64 (c : Int))
    refine wpAnyH_all (rs := [6]) (by kernel_rfl) (by decide) ?_
    intro i hi
    obtain rfl := List.mem_singleton.1 hi
    refine wpOp_skip0 rfl rfl (run_storeOp rfl _ _ _ (.pointer (some ⟨b0 + 1 + 1, 0, none⟩)) (.int .i64 (q : Int)) rfl rfl (store_one (fun W => Tryd.sizeOf3 W) _ _ _ x2 (.inr ⟨_, _, rfl⟩) (by rw [cell_of_row _ _ _ _ _ _ k5.k2]; rfl) (tc_frozen k5.k2 rfl))) rfl ⟨(tc_far (by omega) _).trans kF5, ?_⟩
    refine wpAnyH_done (by kernel_rfl) ?_ _
    exact ⟨rfl, rfl, k5.set2 _, tc_below b5 (by omega) 0 _⟩
  rintro a' w' ⟨hdf, k6, b6⟩
  go_wp2_with fail
  exact ⟨hdf, _, rfl, .tuple #[], by simp [results, Tryd.results21], rfl, rfl, k6, b6⟩
theorem catch_idle (b0 b1 b2 : Nat) (w : World) :
    CallsD Tryd.prog 21 #[.pointer (some ⟨b0, 0, none⟩), .pointer (some ⟨b1, 0, none⟩), .pointer (some ⟨b2, 0, none⟩)] .returning w fun e u' w' => e = .returned (.tuple #[]) ∧ u' = .returning ∧ w' = w := by
  refine callsD_of_wpS Tryd.func21 rfl fun c₀ cs hu => ?_
  apply wpS_seq
  apply wpS_region
  simp [wpOpsS, go_sem, recoverD, hu, Tryd.ntmps21, Exit.thenS]
  refine wpS_of_wp ?_
  have hrep : Array.replicate 11 undef = #[undef, undef, undef, undef, undef, undef, undef, undef, undef, undef, undef] := rfl
  simp only [hrep, List.setIfInBounds_toArray, List.set_cons_succ, List.set_cons_zero, List.append_toArray, List.cons_append, List.nil_append]
  clear hrep
  go_wp2_with fail
  cases c₀
  simp_all [bodyPostS, results, Tryd.results21]
theorem res3_run {tmps : Array Value} {fn : Func} (hr : fn.results = #[.cell 2 35, .cell 3 24, .cell 4 3]) {w : World} {b0 : Nat} {x0 x1 x2 : Value} (h : Res3 w b0 x0 x1 x2) (h2 : tmps.getD 2 undef = .pointer (some ⟨b0, 0, none⟩)) (h3 : tmps.getD 3 undef = .pointer (some ⟨b0 + 1, 0, none⟩)) (h4 : tmps.getD 4 undef = .pointer (some ⟨b0 + 1 + 1, 0, none⟩)) :
    (results fn tmps).run Tryd.prog w = .ok (.tuple #[x0, x1, x2]) w := by
  rw [Array.getD_eq_getD_getElem?] at h2 h3 h4
  have a0 : (isAgg 35).run Tryd.prog w = .ok false w := by kernel_rfl
  have c0 : w.cell? ⟨b0, 0, none⟩ = some x0 := by rw [cell_of_row _ _ _ _ _ _ h.k0]; rfl
  have c1 : w.cell? ⟨b0 + 1, 0, none⟩ = some x1 := by rw [cell_of_row _ _ _ _ _ _ h.k1]; rfl
  have c2 : w.cell? ⟨b0 + 1 + 1, 0, none⟩ = some x2 := by rw [cell_of_row _ _ _ _ _ _ h.k2]; rfl
  simp [results, hr, h2, h3, h4, asAddr, loadVar, a0, c0, c1, c2, go_sem]
theorem raws_set {w : World} {B : Nat} {L : List Raw} {v : Value} (h : RawsOwn B w L v) {p i : Nat} {cs : Array Value} {t : TypeId} {fr : Nat × Nat} (hp : w.heap[p]? = some (.cells cs t fr)) (ht : 55 ≠ t ∧ 76 ≠ t ∧ 52 ≠ t) (y : Value) : RawsOwn B (w.setCell ⟨p, i, none⟩ y) L v := by
  obtain ⟨P, h1, h2, h3⟩ := h
  refine ⟨P, h1, own_set h2 hp ht.1 y, fun q hq => ?_⟩
  obtain ⟨P', g1, g2, g3⟩ := h3 q hq
  exact ⟨P', g1, own_set g2 hp ht.2.1 y, fun r hr => own_set (g3 r hr) hp ht.2.2 y⟩
theorem raws_base {w : World} {B B' : Nat} {L : List Raw} {v : Value} (h : RawsOwn B w L v) (hB : B' ≤ B) : RawsOwn B' w L v := by
  obtain ⟨P, h1, h2, h3⟩ := h
  exact ⟨P, h1, gown_base h2 hB, fun q hq => clas_base (h3 q hq) hB⟩

theorem wl_storeRd {ops : Array Oper} {rest : List Oper} {o : Oper} {a : Act} {w : World} {Q : Exit → Act → World → Prop} (hgd : o.guard = none) (x y : Operand) (ho : o.op = .store 65 x y)
    (g : Nat) (so : Option Addr) (sn sc : Nat) (q : Int) (hx : a.eval x = .pointer (some ⟨g, 0, none⟩)) (hy : a.eval y = .agg #[.slice so sn sc, .int .i64 q]) (old : Array Value) (hg : w.heap[g]? = some (.cells old 65 (0, 0))) (hold : old.size = 2) (w' : World) (hw' : w.setRow g #[.slice so sn sc, .int .i64 q] = w')
    (h : wpList Tryd.prog ops Q rest (a.put o.dst undef) w') : wpList Tryd.prog ops Q (o :: rest) a w :=
  wpList_store_row hgd 65 x y ho g _ hx hy 65 old hg (by kernel_rfl) hold (by simp [Value.oneCell']) (by rw [hw']; exact h)

set_option maxHeartbeats 8000000 in
theorem parse_any (s : ByteArray) (hs : s.size ≤ maxLen) (w : World) :
    Calls Tryd.prog 11 #[.string s] w fun e w' => ∃ v, e = .returned (.tuple #[v, .int .i64 ((parseP s.data.toList).2.1 : Nat), .int .i64 ((parseP s.data.toList).2.2 : Nat)]) ∧ RawsOwn w.heap.size w' (parseP s.data.toList).1 v ∧ Below w.heap.size w w' := by
  have C1 : Hid (∀ W, Calls Tryd.prog 20 #[.string s] W fun e w' => ∃ u, e = .returned (.tuple #[u, .int .i64 ((lexT s.data.toList).2.1 : Nat), .int .i64 ((lexT s.data.toList).2.2 : Nat)]) ∧ w'.ownsRow W.heap.size 87 4 u (lexT s.data.toList).1.length (gcells encT (lexT s.data.toList).1) ∧ Below W.heap.size W w') := tokens_any s hs
  have hmf : ∀ (fn : Fn) (first cap : Array Value) (w : World), (Instr.makeFunc fn first cap).run Tryd.prog w = .ok (.func fn first cap) w := fun _ _ _ _ => rfl
  obtain ⟨S, hS⟩ : ∃ S, S = s.data.toList := ⟨_, rfl⟩
  have hlen : S.length = s.size := by rw [hS]; exact (Lib.size_eq s).symm
  rw [← hS] at C1 ⊢
  have HLEN : Hid (S.length = s.size) := hlen
  clear hS hlen hs
  by_cases hE : (lexT S).2.1 = 0
  · obtain ⟨T, hT, hL, h4, hP⟩ := parseP_ok hE
    rw [hL] at C1
    have C2 : Hid (∀ W, Calls Tryd.prog 20 #[.string s] W fun e w' => ∃ u, e = .returned (.tuple #[u, .int .i64 0, .int .i64 0]) ∧ w'.ownsRow W.heap.size 87 4 u T.length (gcells encT T) ∧ Below W.heap.size W w') := C1.out
    have HTl : Hid (T.length ≤ 5000) := by have := lexW_len hT; show _ ≤ _; omega
    have HTW : Hid (WordT T) := lexW_word S 0 T hT
    have HP : Hid (parseP S = match takeL S.length (T.length + 1) [] T with | .ok l => (l, 0, 0) | .error x => ([], x.1, x.2)) := hP
    obtain ⟨R, hR⟩ : ∃ R, R = parseP S := ⟨_, rfl⟩
    rw [← hR] at HP ⊢
    clear hE hT hL hP hR C1 h4
    go_enter_defers Tryd.func11, Tryd.ntmps11
    go_wp2_with fail
    refine (C2.out _).mono ?_
    rintro e w1 ⟨u, rfl, hown1, hb1⟩
    obtain ⟨o, cap, rfl⟩ := gown_slice hown1
    have B1 : Below w.heap.size w w1 := (((((Below.refl _ _).alloc (Nat.le_refl _) _).alloc (by simp) _).alloc (by simp; omega) _)).trans (hb1.mono (by simp; omega))
    have z1 : w.heap.size + 3 ≤ w1.heap.size := by have := hb1.size; simp at this; omega
    have K1 : Res3 w1 w.heap.size (.slice none 0 0) (.int .i64 0) (.int .i64 0) :=
      ⟨(hb1.block _ (by simp; omega)).trans (heap_past _ _ _ _ (heap_past _ _ _ _ (heap_new _ _ _ rfl))), (hb1.block _ (by simp)).trans (heap_past _ _ _ _ (heap_new _ _ _ (by simp))), (hb1.block _ (by simp)).trans (heap_new _ _ _ (by simp))⟩
    have K2 := K1.set1 (.int .i64 0)
    have K3 := K2.set2 (.int .i64 0)
    have c1 : w1.cell? ⟨w.heap.size + 1, 0, none⟩ = some (.int .i64 0) := by rw [cell_of_row _ _ _ _ _ _ K1.k1]; rfl
    have f1 : w1.frozen? ⟨w.heap.size + 1, 0, none⟩ = false := tc_frozen K1.k1 rfl
    have c2 : (w1.setCell ⟨w.heap.size + 1, 0, none⟩ (.int .i64 0)).cell? ⟨w.heap.size + 1 + 1, 0, none⟩ = some (.int .i64 0) := by rw [cell_of_row _ _ _ _ _ _ K2.k2]; rfl
    have f2 : (w1.setCell ⟨w.heap.size + 1, 0, none⟩ (.int .i64 0)).frozen? ⟨w.heap.size + 1 + 1, 0, none⟩ = false := tc_frozen K2.k2 rfl
    have c3 : ((w1.setCell ⟨w.heap.size + 1, 0, none⟩ (.int .i64 0)).setCell ⟨w.heap.size + 1 + 1, 0, none⟩ (.int .i64 0)).cell? ⟨w.heap.size + 1, 0, none⟩ = some (.int .i64 0) := by rw [cell_of_row _ _ _ _ _ _ K3.k1]; rfl
    have B3 : Below w.heap.size w ((w1.setCell ⟨w.heap.size + 1, 0, none⟩ (.int .i64 0)).setCell ⟨w.heap.size + 1 + 1, 0, none⟩ (.int .i64 0)) := tc_below (tc_below B1 (by omega) _ _) (by omega) _ _
    have G3 : GSl TokE encT ((w1.setCell ⟨w.heap.size + 1, 0, none⟩ (.int .i64 0)).setCell ⟨w.heap.size + 1 + 1, 0, none⟩ (.int .i64 0)) (.slice o T.length cap) T := gsl_of (E := TokE) (own_set (own_set hown1 K1.k1 (by decide) _) K2.k2 (by decide) _) fun c _ => rfl
    have HK : Hid (_ ∧ _ ∧ _) := ⟨K3, B3, G3⟩
    have z3 : ((w1.setCell ⟨w.heap.size + 1, 0, none⟩ (.int .i64 0)).setCell ⟨w.heap.size + 1 + 1, 0, none⟩ (.int .i64 0)).heap.size = w1.heap.size := by rw [tc_size, tc_size]
    obtain ⟨w2, hw2⟩ : ∃ w2, w2 = ((w1.setCell ⟨w.heap.size + 1, 0, none⟩ (.int .i64 0)).setCell ⟨w.heap.size + 1 + 1, 0, none⟩ (.int .i64 0)) := ⟨_, rfl⟩
    rw [← hw2] at HK c3 z3
    have HW2 : Hid (w2 = ((w1.setCell ⟨w.heap.size + 1, 0, none⟩ (.int .i64 0)).setCell ⟨w.heap.size + 1 + 1, 0, none⟩ (.int .i64 0))) := hw2
    have c3' : ((w1.setCell ⟨w.heap.size + 1, 0, none⟩ (.int .i64 0)).setCell ⟨w.heap.size + 1 + 1, 0, none⟩ (.int .i64 0)).cell? ⟨w.heap.size + 1, 0, none⟩ = some (.int .i64 0) := by rw [← hw2]; exact c3
    have ZZ : Hid (w2.heap.size = w1.heap.size) := z3
    clear hb1 hown1 B1 K1 K2 K3 B3 G3 hw2 c3 z3
    go_wp2_with (first
      | (refine wl_storeRd rfl _ _ rfl _ o T.length cap (s.size : Int) rfl rfl _ (heap_new _ _ _ rfl) rfl _ (setRow_new _ _ _ _ _ rfl) ?_))
    rw [← HW2.out]
    have hz := ZZ.out
    have RD : Rd w2 (w2.alloc (.cells #[.slice o T.length cap, .int .i64 (s.size : Int)] 65)) w1.heap.size S.length T :=
      ⟨(Below.refl _ _).alloc (Nat.le_refl _) _, by omega, .slice o T.length cap, by rw [HLEN.out]; exact heap_new _ _ _ (by omega), HK.out.2.2⟩
    have HZ : Hid (w2.heap.size = w1.heap.size) := hz
    have z2 : w1.heap.size ≤ w2.heap.size := by omega
    refine (lines_any w2 _ w1.heap.size S.length T HTl.out HTW.out RD).mono ?_
    clear RD hz c1 f1 c2 f2 c3'
    cases hA : takeL S.length (T.length + 1) [] T with
    | error x =>
      obtain ⟨c, q⟩ := x
      have HR : Hid (R = ([], c, q)) := by show _ = _; rw [HP.out, hA]
      clear hA
      rintro e w5 ⟨hg5, rfl⟩
      have z5 := hg5.size
      rw [World.size_alloc] at z5
      have K5 : Res3 w5 w.heap.size (.slice none 0 0) (.int .i64 0) (.int .i64 0) := HK.out.1.far fun j hj => by
        have hlt : j < w2.heap.size := by omega
        exact (hg5.block j (by rw [World.size_alloc]; omega) (by simp; omega)).trans ((heap_past w2 _ _ _ (Array.getElem?_eq_getElem hlt)).trans (Array.getElem?_eq_getElem hlt).symm)
      have B5 : Below w.heap.size w w5 := ⟨hg5.os.trans HK.out.2.1.os, hg5.tape.trans HK.out.2.1.tape, hg5.output.trans HK.out.2.1.output, by omega, fun j hj => by
        have hlt : j < w2.heap.size := by omega
        exact ((hg5.block j (by rw [World.size_alloc]; omega) (by simp; omega)).trans ((heap_past w2 _ _ _ (Array.getElem?_eq_getElem hlt)).trans (Array.getElem?_eq_getElem hlt).symm)).trans (HK.out.2.1.block j hj)⟩
      have HK5 : Hid (_ ∧ _) := ⟨K5, B5⟩
      clear hg5 K5 B5
      go_wp2_with fail
      refine leaves_cons (f := 21) (args := #[.pointer (some ⟨w.heap.size, 0, none⟩), .pointer (some ⟨w.heap.size + 1, 0, none⟩), .pointer (some ⟨w.heap.size + 1 + 1, 0, none⟩)]) (by simp) (by simp [go_sem]) ?_
      refine (catch_fault w.heap.size c q _ _ _ w5 HK5.out.1 (by omega) w.heap.size (Nat.le_refl _)).mono ?_
      rintro e u' w6 ⟨rfl, rfl, K6, B6⟩
      refine ⟨_, res3_run rfl K6 rfl rfl rfl, .slice none 0 0, ?_, ?_, HK5.out.2.trans B6⟩
      · rw [HR.out]
      · rw [HR.out]
        exact NOwn.nil _ _ _ _ _
    | ok l =>
      have HR : Hid (R = (l, 0, 0)) := by show _ = _; rw [HP.out, hA]
      clear hA
      rintro e w5 ⟨hg5, ⟨v, rfl, hraw⟩, _⟩
      obtain ⟨vo, vc, rfl⟩ : ∃ o c, v = .slice o l.length c := by
        obtain ⟨P, hP, hP2, _⟩ := hraw
        obtain ⟨o, cap, e⟩ := gown_slice hP2
        exact ⟨o, cap, by rw [e, ← hP, List.length_map]⟩
      have z5 := hg5.size
      rw [World.size_alloc] at z5
      have K5 : Res3 w5 w.heap.size (.slice none 0 0) (.int .i64 0) (.int .i64 0) := HK.out.1.far fun j hj => by
        have hlt : j < w2.heap.size := by omega
        exact (hg5.block j (by rw [World.size_alloc]; omega) (by simp; omega)).trans ((heap_past w2 _ _ _ (Array.getElem?_eq_getElem hlt)).trans (Array.getElem?_eq_getElem hlt).symm)
      have B5 : Below w.heap.size w w5 := ⟨hg5.os.trans HK.out.2.1.os, hg5.tape.trans HK.out.2.1.tape, hg5.output.trans HK.out.2.1.output, by omega, fun j hj => by
        have hlt : j < w2.heap.size := by omega
        exact ((hg5.block j (by rw [World.size_alloc]; omega) (by simp; omega)).trans ((heap_past w2 _ _ _ (Array.getElem?_eq_getElem hlt)).trans (Array.getElem?_eq_getElem hlt).symm)).trans (HK.out.2.1.block j hj)⟩
      have K6 := K5.set0 (.slice vo l.length vc)
      have K7 := K6.set1 (.int .i64 0)
      have K8 := K7.set2 (.int .i64 0)
      have hraw' : RawsOwn w.heap.size w5 l (.slice vo l.length vc) := raws_base hraw (by rw [World.size_alloc]; omega)
      have O8 := raws_set (raws_set (raws_set hraw' K5.k0 (by decide) (i := 0) (.slice vo l.length vc)) K6.k1 (by decide) (i := 0) (.int .i64 0)) K7.k2 (by decide) (i := 0) (.int .i64 0)
      have B8 := tc_below (tc_below (tc_below B5 (Nat.le_refl _) 0 (.slice vo l.length vc)) (g := w.heap.size + 1) (by omega) 0 (.int .i64 0)) (g := w.heap.size + 1 + 1) (by omega) 0 (.int .i64 0)
      have c0 : w5.cell? ⟨w.heap.size, 0, none⟩ = some (.slice none 0 0) := by rw [cell_of_row _ _ _ _ _ _ K5.k0]; rfl
      have f0 : w5.frozen? ⟨w.heap.size, 0, none⟩ = false := tc_frozen K5.k0 rfl
      have c1 : (w5.setCell ⟨w.heap.size, 0, none⟩ (.slice vo l.length vc)).cell? ⟨w.heap.size + 1, 0, none⟩ = some (.int .i64 0) := by rw [cell_of_row _ _ _ _ _ _ K6.k1]; rfl
      have f1 : (w5.setCell ⟨w.heap.size, 0, none⟩ (.slice vo l.length vc)).frozen? ⟨w.heap.size + 1, 0, none⟩ = false := tc_frozen K6.k1 rfl
      have c2 : ((w5.setCell ⟨w.heap.size, 0, none⟩ (.slice vo l.length vc)).setCell ⟨w.heap.size + 1, 0, none⟩ (.int .i64 0)).cell? ⟨w.heap.size + 1 + 1, 0, none⟩ = some (.int .i64 0) := by rw [cell_of_row _ _ _ _ _ _ K7.k2]; rfl
      have f2 : ((w5.setCell ⟨w.heap.size, 0, none⟩ (.slice vo l.length vc)).setCell ⟨w.heap.size + 1, 0, none⟩ (.int .i64 0)).frozen? ⟨w.heap.size + 1 + 1, 0, none⟩ = false := tc_frozen K7.k2 rfl
      have HK8 : Hid (_ ∧ _ ∧ _) := ⟨K8, O8, B8⟩
      clear hg5 K5 B5 K6 K7 K8 O8 B8 hraw hraw'
      go_wp2_with fail
      refine leaves_cons (f := 21) (args := #[.pointer (some ⟨w.heap.size, 0, none⟩), .pointer (some ⟨w.heap.size + 1, 0, none⟩), .pointer (some ⟨w.heap.size + 1 + 1, 0, none⟩)]) (by simp) (by simp [go_sem]) ?_
      refine (catch_idle w.heap.size (w.heap.size + 1) (w.heap.size + 1 + 1) _).mono ?_
      rintro e u' w6 ⟨rfl, rfl, rfl⟩
      refine ⟨_, res3_run rfl HK8.out.1 rfl rfl rfl, .slice vo l.length vc, ?_, ?_, HK8.out.2.2⟩
      · rw [HR.out]
        rfl
      · rw [HR.out]
        exact HK8.out.2.1
  · have HP : Hid (parseP S = ([], (lexT S).2.1, (lexT S).2.2)) := parseP_lex hE
    obtain ⟨R, hR⟩ : ∃ R, R = parseP S := ⟨_, rfl⟩
    rw [← hR] at HP ⊢
    obtain ⟨⟨L, E, A⟩, hL⟩ : ∃ x, x = lexT S := ⟨_, rfl⟩
    rw [← hL] at C1 HP hE
    simp only at C1 HP hE
    have hne : ((E : Int) != 0) = true := by simp; omega
    clear hE hL hR
    go_enter_defers Tryd.func11, Tryd.ntmps11
    go_wp2_with fail
    refine (C1.out _).mono ?_
    rintro e w1 ⟨u, rfl, -, hb1⟩
    have B1 : Below w.heap.size w w1 := (((((Below.refl _ _).alloc (Nat.le_refl _) _).alloc (by simp) _).alloc (by simp; omega) _)).trans (hb1.mono (by simp; omega))
    have z1 : w.heap.size + 3 ≤ w1.heap.size := by have := hb1.size; simp at this; omega
    have K1 : Res3 w1 w.heap.size (.slice none 0 0) (.int .i64 0) (.int .i64 0) :=
      ⟨(hb1.block _ (by simp; omega)).trans (heap_past _ _ _ _ (heap_past _ _ _ _ (heap_new _ _ _ rfl))), (hb1.block _ (by simp)).trans (heap_past _ _ _ _ (heap_new _ _ _ (by simp))), (hb1.block _ (by simp)).trans (heap_new _ _ _ (by simp))⟩
    have K2 := K1.set1 (.int .i64 (E : Int))
    have K3 := K2.set2 (.int .i64 (A : Int))
    have c1 : w1.cell? ⟨w.heap.size + 1, 0, none⟩ = some (.int .i64 0) := by rw [cell_of_row _ _ _ _ _ _ K1.k1]; rfl
    have f1 : w1.frozen? ⟨w.heap.size + 1, 0, none⟩ = false := tc_frozen K1.k1 rfl
    have c2 : (w1.setCell ⟨w.heap.size + 1, 0, none⟩ (.int .i64 (E : Int))).cell? ⟨w.heap.size + 1 + 1, 0, none⟩ = some (.int .i64 0) := by rw [cell_of_row _ _ _ _ _ _ K2.k2]; rfl
    have f2 : (w1.setCell ⟨w.heap.size + 1, 0, none⟩ (.int .i64 (E : Int))).frozen? ⟨w.heap.size + 1 + 1, 0, none⟩ = false := tc_frozen K2.k2 rfl
    have c3 : ((w1.setCell ⟨w.heap.size + 1, 0, none⟩ (.int .i64 (E : Int))).setCell ⟨w.heap.size + 1 + 1, 0, none⟩ (.int .i64 (A : Int))).cell? ⟨w.heap.size + 1, 0, none⟩ = some (.int .i64 (E : Int)) := by rw [cell_of_row _ _ _ _ _ _ K3.k1]; rfl
    have B3 : Below w.heap.size w ((w1.setCell ⟨w.heap.size + 1, 0, none⟩ (.int .i64 (E : Int))).setCell ⟨w.heap.size + 1 + 1, 0, none⟩ (.int .i64 (A : Int))) := tc_below (tc_below B1 (by omega) _ _) (by omega) _ _
    have HK : Hid (_ ∧ _) := ⟨K3, B3⟩
    clear hb1 B1 K1 K2 K3 B3
    go_wp2_with fail
    obtain ⟨wa, hwa⟩ : ∃ wa, wa = ((w1.setCell ⟨w.heap.size + 1, 0, none⟩ (.int .i64 (E : Int))).setCell ⟨w.heap.size + 1 + 1, 0, none⟩ (.int .i64 (A : Int))) := ⟨_, rfl⟩
    rw [← hwa] at HK ⊢
    clear hwa c1 f1 c2 f2 c3
    refine region_cut (fun a a' w' => (∃ y z, a' = (a.put (some 15) y).put (some 16) z) ∧ Res3 w' w.heap.size (.slice none 0 0) (.int .i64 (E : Int)) (.int .i64 (A : Int)) ∧ Below w.heap.size w w') ?_ ?_
    · refine region_beginS (fun w' => w'.heap[w.heap.size + 1]? = some (.cells #[.int .i64 (E : Int)] 24 (0, 0)) ∧ w'.heap[w.heap.size + 1 + 1]? = some (.cells #[.int .i64 (A : Int)] 3 (0, 0))) 5 rfl (by kernel_rfl) ?_
      have i24 : ∀ W, (isAgg 24).run Tryd.prog W = .ok false W := fun W => by kernel_rfl
      have i3 : ∀ W, (isAgg 3).run Tryd.prog W = .ok false W := fun W => by kernel_rfl
      have kd : Res3 wa.drew w.heap.size (.slice none 0 0) (.int .i64 (E : Int)) (.int .i64 (A : Int)) := ⟨HK.out.1.k0, HK.out.1.k1, HK.out.1.k2⟩
      have bd : Below w.heap.size w wa.drew := HK.out.2.drew
      refine wpAnyH_take (i := 0) (v := .int .i64 (E : Int)) rfl (by kernel_rfl) (by kernel_rfl) (by kernel_rfl) (fun _ _ _ h => absurd h.1 (by simp)) (.inl ⟨rfl, fun W hW => run_loadOp rfl _ _ _ (.int .i64 (E : Int)) rfl (load_one W (i24 W) _ _ (by rw [cell_of_row _ _ _ _ _ _ hW.1]; rfl))⟩) ⟨kd.k1, kd.k2⟩ ?_
      refine wpAnyH_take (i := 1) (v := .int .i64 (A : Int)) rfl (by kernel_rfl) (by kernel_rfl) (by kernel_rfl) (fun _ _ _ h => absurd h.1 (by simp)) (.inl ⟨rfl, fun W hW => run_loadOp rfl _ _ _ (.int .i64 (A : Int)) rfl (load_one W (i3 W) _ _ (by rw [cell_of_row _ _ _ _ _ _ hW.2]; rfl))⟩) ⟨kd.k1, kd.k2⟩ ?_
      have k4 := kd.set0 (.slice none 0 0)
      have k5 := k4.set1 (.int .i64 (E : Int))
      have k6 := k5.set2 (.int .i64 (A : Int))
      have b6 := tc_below (tc_below (tc_below bd (Nat.le_refl _) 0 (.slice none 0 0)) (g := w.heap.size + 1) (by omega) 0 (.int .i64 (E : Int))) (g := w.heap.size + 1 + 1) (by omega) 0 (.int .i64 (A : Int))
      refine wpAnyH_all (rs := [2]) (by kernel_rfl) (by decide) ?_
      intro i hi
      obtain rfl := List.mem_singleton.1 hi
      refine wpOp_skip0 rfl rfl (run_storeOp rfl _ _ _ (.pointer (some ⟨w.heap.size, 0, none⟩)) (.slice none 0 0) rfl rfl (store_one (fun W => Tryd.sizeOf35 W) _ _ _ (.slice none 0 0) (.inl ⟨_, _, _, rfl⟩) (by rw [cell_of_row _ _ _ _ _ _ kd.k0]; rfl) (tc_frozen kd.k0 rfl))) rfl ⟨⟨k4.k1, k4.k2⟩, ?_⟩
      refine wpAnyH_all (rs := [3]) (by kernel_rfl) (by decide) ?_
      intro i hi
      obtain rfl := List.mem_singleton.1 hi
      refine wpOp_skip0 rfl rfl (run_storeOp rfl _ _ _ (.pointer (some ⟨w.heap.size + 1, 0, none⟩)) (.int .i64 (E : Int)) rfl rfl (store_one (fun W => Tryd.sizeOf24 W) _ _ _ (.int .i64 (E : Int)) (.inr ⟨_, _, rfl⟩) (by rw [cell_of_row _ _ _ _ _ _ k4.k1]; rfl) (tc_frozen k4.k1 rfl))) rfl ⟨⟨k5.k1, k5.k2⟩, ?_⟩
      refine wpAnyH_all (rs := [4]) (by kernel_rfl) (by decide) ?_
      intro i hi
      obtain rfl := List.mem_singleton.1 hi
      refine wpOp_skip0 rfl rfl (run_storeOp rfl _ _ _ (.pointer (some ⟨w.heap.size + 1 + 1, 0, none⟩)) (.int .i64 (A : Int)) rfl rfl (store_one (fun W => Tryd.sizeOf3 W) _ _ _ (.int .i64 (A : Int)) (.inr ⟨_, _, rfl⟩) (by rw [cell_of_row _ _ _ _ _ _ k5.k2]; rfl) (tc_frozen k5.k2 rfl))) rfl ⟨⟨k6.k1, k6.k2⟩, ?_⟩
      refine wpAnyH_done (by kernel_rfl) ?_ _
      exact ⟨rfl, ⟨_, _, rfl⟩, k6, b6⟩
    rintro a' w' ⟨⟨y, z, rfl⟩, k6, b6⟩
    simp only [Act.put, List.setIfInBounds_toArray, List.set_cons_succ, List.set_cons_zero]
    go_wp2_with fail
    refine ⟨_, res3_run rfl k6 rfl rfl rfl, .slice none 0 0, ?_, ?_, b6⟩
    · rw [HP.out]
    · rw [HP.out]
      exact NOwn.nil _ _ _ _ _
end Go.Proofs.YtbdbjbmjnemknaaDoor
namespace Go.Proofs.YtbdbjbmjnemknaaDoor
open Go
set_option maxRecDepth 20000

/-- Where a walk through tokens stands, and what was wrong first. -/
structure Ws where
  i : Nat
  bad : Nat
  pos : Nat
/-- The token at hand. -/
def nx (E : Nat) (T : List Tok) (s : Ws) : Tok := T.getD s.i ⟨0, E, [], 0⟩
/-- The first fault counts. -/
def wrong (E : Nat) (T : List Tok) (e : Nat) (s : Ws) : Ws := if s.bad = 0 then ⟨s.i, e, (nx E T s).pos⟩ else s
def stepW (s : Ws) : Ws := ⟨s.i + 1, s.bad, s.pos⟩
def kindW (E : Nat) (T : List Tok) (k : Nat) (s : Ws) : Tok × Ws := (nx E T s, stepW (if (nx E T s).kind = k then s else wrong E T 8 s))
def wordW (E : Nat) (T : List Tok) (w : List UInt8) (s : Ws) : Bool := decide ((nx E T s).kind = 1) && (nx E T s).text == w
def figW (E : Nat) (T : List Tok) (s : Ws) : Fig × Ws := (⟨((kindW E T 2 s).1.num : Int), ((kindW E T 2 s).1.pos : Int)⟩, (kindW E T 2 s).2)
def dotsW (E : Nat) (T : List Tok) : Nat → Ws → List Fig × Ws
  | 0, s => ([], s)
  | n + 1, s => ((figW E T (kindW E T 3 s).2).1 :: (dotsW E T n (figW E T (kindW E T 3 s).2).2).1, (dotsW E T n (figW E T (kindW E T 3 s).2).2).2)
def optW (E : Nat) (T : List Tok) (b : Bool) (k : Nat) (s : Ws) : Option Fig × Ws := if b = true ∧ (nx E T s).kind = k then (some (figW E T (stepW s)).1, (figW E T (stepW s)).2) else (none, s)
/-- What is looked at before a clause's numbers. -/
def headW (E : Nat) (T : List Tok) (had : List Cla) (s : Ws) : Ws :=
  let s1 := if !(isAddrW (nx E T s).text) && !(isPortW (nx E T s).text) && !((nx E T s).text == wProto) then wrong E T 8 s else s
  stepW (if had.any (fun c => c.word == (nx E T s).text) then wrong E T 9 s1 else s1)
def clauseW (E : Nat) (T : List Tok) (had : List Cla) (s : Ws) : Cla × Ws :=
  let t := nx E T s
  let f := figW E T (headW E T had s)
  let d := if isAddrW t.text then dotsW E T 3 f.2 else ([], f.2)
  let o4 := optW E T (isAddrW t.text) 4 d.2
  let o5 := optW E T (isPortW t.text) 5 o4.2
  (⟨t.text, (t.pos : Int), f.1 :: (d.1 ++ o4.1.toList ++ o5.1.toList), o4.1.isSome, o5.1.isSome⟩, o5.2)
def clausesW (E : Nat) (T : List Tok) : Nat → List Cla → Ws → List Cla × Ws
  | 0, had, s => (had, s)
  | f + 1, had, s => if s.bad = 0 ∧ (nx E T s).kind = 1 then clausesW E T f (had ++ [(clauseW E T had s).1]) (clauseW E T had s).2 else (had, s)
def frontW (E : Nat) (T : List Tok) (s : Ws) : (Bool × Fig × List Cla) × Ws :=
  if wordW E T wDefault s then ((true, ⟨0, 0⟩, []), stepW s) else
    let f := figW E T s
    let c := clausesW E T (T.length - f.2.i) [] f.2
    ((false, f.1, c.1), c.2)
def actW (E : Nat) (T : List Tok) (s : Ws) : (Bool × Fig) × Ws :=
  if wordW E T wDrop s then ((true, ⟨0, 0⟩), stepW s) else
    let f := figW E T (stepW (if wordW E T wPort s then s else wrong E T 8 s))
    ((false, f.1), f.2)
def endW (E : Nat) (T : List Tok) (s : Ws) : Ws := if s.i < T.length ∧ (nx E T s).kind ≠ 7 then wrong E T 8 s else s
def rowW (E : Nat) (T : List Tok) (s : Ws) : Raw × Ws :=
  let h := frontW E T s
  let k := kindW E T 6 h.2
  let a := actW E T k.2
  (⟨((nx E T s).pos : Int), h.1.1, h.1.2.1, h.1.2.2, a.1.1, a.1.2⟩, endW E T a.2)
def rowsW (E : Nat) (T : List Tok) : Nat → List Raw → Ws → List Raw × Ws
  | 0, had, s => (had, s)
  | f + 1, had, s => if s.i < T.length ∧ s.bad = 0 then (if (nx E T s).kind = 7 then rowsW E T f had (stepW s) else
      rowsW E T f (had ++ [(rowW E T (if had.length = 64 then wrong E T 4 s else s)).1]) (rowW E T (if had.length = 64 then wrong E T 4 s else s)).2) else (had, s)

/-- What was wrong stays so. -/
def Keeps (s s' : Ws) : Prop := s.bad ≠ 0 → s'.bad = s.bad ∧ s'.pos = s.pos
theorem Keeps.refl (s : Ws) : Keeps s s := fun _ => ⟨rfl, rfl⟩
theorem Keeps.trans {a b c : Ws} (h1 : Keeps a b) (h2 : Keeps b c) : Keeps a c := fun h => by
  obtain ⟨e1, e2⟩ := h1 h
  obtain ⟨e3, e4⟩ := h2 (by rw [e1]; exact h)
  exact ⟨e3.trans e1, e4.trans e2⟩
theorem keeps_wrong (E : Nat) (T : List Tok) (e : Nat) (s : Ws) : Keeps s (wrong E T e s) := fun h => by unfold wrong; rw [if_neg h]; exact ⟨rfl, rfl⟩
theorem keeps_step (s : Ws) : Keeps s (stepW s) := fun _ => ⟨rfl, rfl⟩
theorem keeps_kind (E : Nat) (T : List Tok) (k : Nat) (s : Ws) : Keeps s (kindW E T k s).2 := by
  unfold kindW
  refine Keeps.trans ?_ (keeps_step _)
  split
  · exact Keeps.refl _
  · exact keeps_wrong E T 8 s
theorem keeps_fig (E : Nat) (T : List Tok) (s : Ws) : Keeps s (figW E T s).2 := keeps_kind E T 2 s
theorem keeps_dots (E : Nat) (T : List Tok) : ∀ (n : Nat) (s : Ws), Keeps s (dotsW E T n s).2
  | 0, s => Keeps.refl s
  | n + 1, s => ((keeps_kind E T 3 s).trans (keeps_fig E T _)).trans (keeps_dots E T n _)
theorem keeps_opt (E : Nat) (T : List Tok) (b : Bool) (k : Nat) (s : Ws) : Keeps s (optW E T b k s).2 := by
  unfold optW
  split
  · exact (keeps_step s).trans (keeps_fig E T _)
  · exact Keeps.refl s
theorem keeps_head (E : Nat) (T : List Tok) (had : List Cla) (s : Ws) : Keeps s (headW E T had s) := by
  unfold headW
  refine Keeps.trans ?_ (keeps_step _)
  split
  · refine Keeps.trans ?_ (keeps_wrong E T 9 _)
    split
    · exact keeps_wrong E T 8 s
    · exact Keeps.refl s
  · split
    · exact keeps_wrong E T 8 s
    · exact Keeps.refl s
theorem keeps_clause (E : Nat) (T : List Tok) (had : List Cla) (s : Ws) : Keeps s (clauseW E T had s).2 := by
  unfold clauseW
  refine (((keeps_head E T had s).trans (keeps_fig E T _)).trans ?_).trans ((keeps_opt E T _ 4 _).trans (keeps_opt E T _ 5 _))
  split
  · exact keeps_dots E T 3 _
  · exact Keeps.refl _
theorem keeps_clauses (E : Nat) (T : List Tok) : ∀ (f : Nat) (had : List Cla) (s : Ws), Keeps s (clausesW E T f had s).2
  | 0, _, s => Keeps.refl s
  | f + 1, had, s => by
    unfold clausesW
    split
    · exact (keeps_clause E T had s).trans (keeps_clauses E T f _ _)
    · exact Keeps.refl s
theorem keeps_front (E : Nat) (T : List Tok) (s : Ws) : Keeps s (frontW E T s).2 := by
  unfold frontW
  split
  · exact keeps_step s
  · exact (keeps_fig E T s).trans (keeps_clauses E T _ _ _)
theorem keeps_act (E : Nat) (T : List Tok) (s : Ws) : Keeps s (actW E T s).2 := by
  unfold actW
  split
  · exact keeps_step s
  · refine Keeps.trans (Keeps.trans ?_ (keeps_step _)) (keeps_fig E T _)
    split
    · exact Keeps.refl s
    · exact keeps_wrong E T 8 s
theorem keeps_end (E : Nat) (T : List Tok) (s : Ws) : Keeps s (endW E T s) := by
  unfold endW
  split
  · exact keeps_wrong E T 8 s
  · exact Keeps.refl s
theorem keeps_row (E : Nat) (T : List Tok) (s : Ws) : Keeps s (rowW E T s).2 :=
  (((keeps_front E T s).trans (keeps_kind E T 6 _)).trans (keeps_act E T _)).trans (keeps_end E T _)

/-- A walk does what is said of the tokens that are left. -/
def Does {α : Type} (T : List Tok) (s : Ws) (y : α × Ws) (r : Res (α × List Tok)) : Prop :=
  match r with
  | .ok (a, T') => y.1 = a ∧ y.2.bad = 0 ∧ y.2.pos = s.pos ∧ T.drop y.2.i = T'
  | .error (e, q) => y.2.bad = e ∧ y.2.pos = q ∧ e ≠ 0
theorem Does.bind {α β : Type} {T : List Tok} {s : Ws} {y : α × Ws} {r : Res (α × List Tok)} {z : β × Ws} {g : α × List Tok → Res (β × List Tok)} (h : Does T s y r) (hk : Keeps y.2 z.2)
    (h2 : ∀ a T', r = .ok (a, T') → y.1 = a → y.2.bad = 0 → T.drop y.2.i = T' → Does T y.2 z (g (a, T'))) : Does T s z (r.bind g) := by
  cases r with
  | error x =>
    obtain ⟨e, q⟩ := x
    obtain ⟨h1, h3, h4⟩ := h
    obtain ⟨k1, k2⟩ := hk (by rw [h1]; exact h4)
    exact ⟨k1.trans h1, k2.trans h3, h4⟩
  | ok x =>
    obtain ⟨a, T'⟩ := x
    obtain ⟨h1, h3, h4, h5⟩ := h
    have := h2 a T' rfl h1 h3 h5
    show Does T s z (g (a, T'))
    revert this
    generalize g (a, T') = r2
    intro this
    cases r2 with
    | error x => exact this
    | ok x => exact ⟨this.1, this.2.1, this.2.2.1.trans h4, this.2.2.2⟩
theorem Does.map {α β : Type} {T : List Tok} {s : Ws} {y : α × Ws} {r : Res (α × List Tok)} {z : β × Ws} {g : α × List Tok → β × List Tok} (h : Does T s y r) (hz : z.2 = y.2) (h2 : ∀ a T', r = .ok (a, T') → y.1 = a → g (a, T') = (z.1, T')) : Does T s z (r.map g) := by
  cases r with
  | error x =>
    obtain ⟨e, q⟩ := x
    obtain ⟨h1, h3, h4⟩ := h
    exact ⟨by rw [hz]; exact h1, by rw [hz]; exact h3, h4⟩
  | ok x =>
    obtain ⟨a, T'⟩ := x
    obtain ⟨h1, h3, h4, h5⟩ := h
    have e := h2 a T' rfl h1
    show Does T s z (.ok (g (a, T')))
    rw [e]
    exact ⟨rfl, by rw [hz]; exact h3, by rw [hz]; exact h4, by rw [hz]; exact h5⟩

theorem nx_nil {E : Nat} {T : List Tok} {s : Ws} (h : T.drop s.i = []) : nx E T s = ⟨0, E, [], 0⟩ := by
  unfold nx
  have : T.length ≤ s.i := List.drop_eq_nil_iff.1 h
  rw [List.getD, List.getElem?_eq_none this]; rfl
theorem nx_cons {E : Nat} {T : List Tok} {s : Ws} {t : Tok} {T' : List Tok} (h : T.drop s.i = t :: T') : nx E T s = t ∧ s.i < T.length ∧ T.drop (s.i + 1) = T' := by
  have hh : T[s.i]? = some t := by rw [← List.head?_drop, h]; rfl
  refine ⟨by unfold nx; rw [List.getD, hh]; rfl, (List.getElem?_eq_some_iff.1 hh).1, ?_⟩
  rw [← List.drop_drop, h]; rfl
theorem nx_pos (E : Nat) (T : List Tok) (s : Ws) : (nx E T s).pos = posOf E (T.drop s.i) := by
  cases h : T.drop s.i with
  | nil => rw [nx_nil h]; rfl
  | cons t T' => rw [(nx_cons h).1]; rfl
theorem wrong_is {E : Nat} {T : List Tok} {e : Nat} {s : Ws} (h : s.bad = 0) : wrong E T e s = ⟨s.i, e, (nx E T s).pos⟩ := by unfold wrong; rw [if_pos h]

theorem does_kind (E : Nat) (T : List Tok) (k : Nat) (hk : k ≠ 0) (s : Ws) (h : s.bad = 0) : Does T s (kindW E T k s) (takeK E k (T.drop s.i)) := by
  unfold kindW
  cases hd : T.drop s.i with
  | nil =>
    rw [nx_nil hd, if_neg (by simpa using (Ne.symm hk)), wrong_is h, nx_nil hd]
    exact ⟨rfl, rfl, by decide⟩
  | cons t T' =>
    obtain ⟨e1, e2, e3⟩ := nx_cons (E := E) hd
    rw [e1, show takeK E k (t :: T') = if t.kind = k then .ok (t, T') else .error (8, t.pos) from rfl]
    by_cases c : t.kind = k
    · rw [if_pos c, if_pos c]
      exact ⟨rfl, h, rfl, e3⟩
    · rw [if_neg c, if_neg c, wrong_is h, e1]
      exact ⟨rfl, rfl, by decide⟩
theorem does_fig (E : Nat) (T : List Tok) (s : Ws) (h : s.bad = 0) : Does T s (figW E T s) (takeF E (T.drop s.i)) :=
  (does_kind E T 2 (by decide) s h).map rfl fun a T' _ ha => by rw [← ha]; rfl
theorem does_dots (E : Nat) (T : List Tok) : ∀ (n : Nat) (s : Ws), s.bad = 0 → Does T s (dotsW E T n s) (takeD E n (T.drop s.i))
  | 0, s, h => ⟨rfl, h, rfl, rfl⟩
  | n + 1, s, h => by
    unfold dotsW takeD
    refine (does_kind E T 3 (by decide) s h).bind ((keeps_fig E T _).trans (keeps_dots E T n _)) fun a T' _ _ hb hT => ?_
    subst hT
    refine (does_fig E T _ hb).bind (keeps_dots E T n _) fun b T'' _ he hb2 hT2 => ?_
    subst hT2
    exact (does_dots E T n _ hb2).map rfl fun c T3 _ hc => by rw [← hc, ← he]
theorem does_opt (E : Nat) (T : List Tok) (k : Nat) (hk : k ≠ 0) (s : Ws) (h : s.bad = 0) : Does T s (optW E T true k s) (takeO E k (T.drop s.i)) := by
  unfold optW
  cases hd : T.drop s.i with
  | nil =>
    rw [if_neg (by rw [nx_nil hd]; exact fun c => hk c.2.symm)]
    exact ⟨rfl, h, rfl, hd⟩
  | cons t T' =>
    obtain ⟨e1, e2, e3⟩ := nx_cons (E := E) hd
    rw [show takeO E k (t :: T') = if t.kind = k then (takeF E T').map (fun y => (some y.1, y.2)) else .ok (none, t :: T') from rfl]
    by_cases c : t.kind = k
    · rw [if_pos ⟨rfl, by rw [e1]; exact c⟩, if_pos c, ← e3]
      exact (does_fig E T (stepW s) h).map rfl fun a T3 _ ha => by rw [← ha]
    · rw [if_neg (by rw [e1]; exact fun d => c d.2), if_neg c]
      exact ⟨rfl, h, rfl, hd⟩
theorem opt_no (E : Nat) (T : List Tok) (k : Nat) (s : Ws) : optW E T false k s = (none, s) := by unfold optW; rw [if_neg (by simp)]
theorem addr_port (w : List UInt8) (h : isAddrW w = true) : isPortW w = false := by
  unfold isAddrW at h
  simp only [Bool.or_eq_true, beq_iff_eq] at h
  rcases h with rfl | rfl <;> rfl
theorem does_clause (E : Nat) (T : List Tok) (had : List Cla) (s : Ws) (h : s.bad = 0) (t : Tok) (T' : List Tok) (hd : T.drop s.i = t :: T') : Does T s (clauseW E T had s) (takeC E had t T') := by
  obtain ⟨e1, e2, e3⟩ := nx_cons (E := E) hd
  unfold takeC
  by_cases c1 : (!(isAddrW t.text) && !(isPortW t.text) && !(t.text == wProto)) = true
  · rw [if_pos c1]
    have hh : (headW E T had s).bad = 8 ∧ (headW E T had s).pos = t.pos := by
      unfold headW
      rw [e1]
      simp only [c1, if_true]
      split
      · have := keeps_wrong E T 9 (wrong E T 8 s) (by rw [wrong_is h]; show (8 : Nat) ≠ 0; decide)
        rw [wrong_is h, e1] at this ⊢
        exact this
      · rw [wrong_is h, e1]; exact ⟨rfl, rfl⟩
    have hk : Keeps (headW E T had s) (clauseW E T had s).2 := by
      unfold clauseW
      refine ((keeps_fig E T _).trans ?_).trans ((keeps_opt E T _ 4 _).trans (keeps_opt E T _ 5 _))
      split
      · exact keeps_dots E T 3 _
      · exact Keeps.refl _
    obtain ⟨k1, k2⟩ := hk (by rw [hh.1]; decide)
    exact ⟨k1.trans hh.1, k2.trans hh.2, by decide⟩
  rw [if_neg c1]
  by_cases c2 : had.any (fun c => c.word == t.text) = true
  · rw [if_pos c2]
    have hh : (headW E T had s).bad = 9 ∧ (headW E T had s).pos = t.pos := by
      unfold headW
      rw [e1]
      simp only [c2, if_true]
      rw [if_neg c1, wrong_is h, e1]
      exact ⟨rfl, rfl⟩
    have hk : Keeps (headW E T had s) (clauseW E T had s).2 := by
      unfold clauseW
      refine ((keeps_fig E T _).trans ?_).trans ((keeps_opt E T _ 4 _).trans (keeps_opt E T _ 5 _))
      split
      · exact keeps_dots E T 3 _
      · exact Keeps.refl _
    obtain ⟨k1, k2⟩ := hk (by rw [hh.1]; decide)
    exact ⟨k1.trans hh.1, k2.trans hh.2, by decide⟩
  rw [if_neg c2]
  have hh : headW E T had s = stepW s := by
    unfold headW
    rw [e1]
    simp only [if_neg c1, if_neg c2]
  unfold clauseW
  simp only [hh, e1]
  have hs : Does T s (figW E T (stepW s)) (takeF E T') := by rw [← e3]; exact does_fig E T (stepW s) h
  refine hs.bind ?_ fun x T2 hr hx hb hT2 => ?_
  · refine Keeps.trans ?_ ((keeps_opt E T _ 4 _).trans (keeps_opt E T _ 5 _))
    split
    · exact keeps_dots E T 3 _
    · exact Keeps.refl _
  subst hT2
  by_cases c3 : isAddrW t.text = true
  · have c4 := addr_port t.text c3
    simp only [c3, if_true, c4]
    refine (does_dots E T 3 _ hb).bind ((keeps_opt E T _ 4 _).trans (keeps_opt E T _ 5 _)) fun y T3 _ hy hb3 hT3 => ?_
    subst hT3
    refine (does_opt E T 4 (by decide) _ hb3).map (by rw [opt_no]) fun z T4 _ hz => ?_
    rw [opt_no]
    simp [hx, hy, hz]
  · have c3' : isAddrW t.text = false := by simpa using c3
    simp only [c3', Bool.false_eq_true, if_false, opt_no]
    by_cases c4 : isPortW t.text = true
    · simp only [c4, if_true]
      refine (does_opt E T 5 (by decide) _ hb).map rfl fun z T4 _ hz => ?_
      simp [hx, hz]
    · have c4' : isPortW t.text = false := by simpa using c4
      simp only [c4', Bool.false_eq_true, if_false, opt_no]
      exact ⟨by simp [hx], hb, rfl, rfl⟩
theorem does_clauses (E : Nat) (T : List Tok) : ∀ (f : Nat) (had : List Cla) (s : Ws), s.bad = 0 → Does T s (clausesW E T f had s) (takeCs E f had (T.drop s.i))
  | 0, had, s, h => ⟨rfl, h, rfl, rfl⟩
  | f + 1, had, s, h => by
    unfold clausesW
    cases hd : T.drop s.i with
    | nil =>
      rw [if_neg (by rw [nx_nil hd]; exact fun c => absurd (show (0 : Nat) = 1 from c.2) (by decide))]
      exact ⟨rfl, h, rfl, hd⟩
    | cons t T' =>
      obtain ⟨e1, e2, e3⟩ := nx_cons (E := E) hd
      rw [show takeCs E (f + 1) had (t :: T') = if t.kind = 1 then (takeC E had t T').bind (fun x => takeCs E f (had ++ [x.1]) x.2) else .ok (had, t :: T') from rfl]
      by_cases c : t.kind = 1
      · rw [if_pos ⟨h, by rw [e1]; exact c⟩, if_pos c]
        refine (does_clause E T had s h t T' hd).bind (keeps_clauses E T f _ _) fun x T2 _ hx hb hT2 => ?_
        subst hT2
        rw [← hx]
        exact does_clauses E T f _ _ hb
      · rw [if_neg (by rw [e1]; exact fun d => c d.2), if_neg c]
        exact ⟨rfl, h, rfl, hd⟩
theorem word_cons {E : Nat} {T : List Tok} {s : Ws} {t : Tok} {T' : List Tok} (hd : T.drop s.i = t :: T') (w : List UInt8) : (wordW E T w s = true) ↔ (t.kind = 1 ∧ t.text = w) := by
  unfold wordW
  rw [(nx_cons (E := E) hd).1]
  simp
theorem word_nil {E : Nat} {T : List Tok} {s : Ws} (hd : T.drop s.i = []) (w : List UInt8) : wordW E T w s = false := by
  unfold wordW
  rw [nx_nil hd]
  rfl
theorem does_front (E : Nat) (T : List Tok) (s : Ws) (h : s.bad = 0) : Does T s (frontW E T s) (takeH E (T.drop s.i)) := by
  unfold frontW
  have hf : Does T s (((false, (figW E T s).1, (clausesW E T (T.length - (figW E T s).2.i) [] (figW E T s).2).1) : Bool × Fig × List Cla), (clausesW E T (T.length - (figW E T s).2.i) [] (figW E T s).2).2)
      ((takeF E (T.drop s.i)).bind fun x => (takeCs E x.2.length [] x.2).map fun y => ((false, x.1, y.1), y.2)) := by
    refine (does_fig E T s h).bind (keeps_clauses E T _ _ _) fun x T2 _ hx hb hT2 => ?_
    subst hT2
    rw [show (T.drop (figW E T s).2.i).length = T.length - (figW E T s).2.i from List.length_drop]
    exact (does_clauses E T _ [] _ hb).map rfl fun y T3 _ hy => by rw [← hy, ← hx]
  cases hd : T.drop s.i with
  | nil =>
    rw [word_nil hd, if_neg (by decide)]
    rw [hd] at hf
    exact hf
  | cons t T' =>
    obtain ⟨e1, e2, e3⟩ := nx_cons (E := E) hd
    rw [show takeH E (t :: T') = if t.kind = 1 ∧ t.text = wDefault then .ok ((true, ⟨0, 0⟩, []), T') else (takeF E (t :: T')).bind fun x => (takeCs E x.2.length [] x.2).map fun y => ((false, x.1, y.1), y.2) from rfl]
    by_cases c : t.kind = 1 ∧ t.text = wDefault
    · rw [if_pos c, if_pos ((word_cons hd wDefault).2 c)]
      exact ⟨rfl, h, rfl, e3⟩
    · rw [if_neg c, if_neg (fun d => c ((word_cons hd wDefault).1 d))]
      rw [hd] at hf
      exact hf
theorem does_act (E : Nat) (T : List Tok) (s : Ws) (h : s.bad = 0) : Does T s (actW E T s) (takeA E (T.drop s.i)) := by
  unfold actW
  cases hd : T.drop s.i with
  | nil =>
    rw [word_nil hd, word_nil hd, if_neg (by decide), if_neg (by decide)]
    obtain ⟨k1, k2⟩ := (keeps_step (wrong E T 8 s)).trans (keeps_fig E T _) (by rw [wrong_is h]; show (8 : Nat) ≠ 0; decide)
    rw [wrong_is h, nx_nil hd] at k1 k2
    refine ⟨?_, ?_, by decide⟩
    · rw [wrong_is h, nx_nil hd]; exact k1
    · rw [wrong_is h, nx_nil hd]; exact k2
  | cons t T' =>
    obtain ⟨e1, e2, e3⟩ := nx_cons (E := E) hd
    rw [show takeA E (t :: T') = if t.kind = 1 ∧ t.text = wDrop then .ok ((true, ⟨0, 0⟩), T') else if t.kind = 1 ∧ t.text = wPort then (takeF E T').map (fun x => ((false, x.1), x.2)) else .error (8, t.pos) from rfl]
    by_cases c : t.kind = 1 ∧ t.text = wDrop
    · rw [if_pos c, if_pos ((word_cons hd wDrop).2 c)]
      exact ⟨rfl, h, rfl, e3⟩
    · rw [if_neg c, if_neg (fun d => c ((word_cons hd wDrop).1 d))]
      by_cases c2 : t.kind = 1 ∧ t.text = wPort
      · rw [if_pos c2, if_pos ((word_cons hd wPort).2 c2), ← e3]
        exact (does_fig E T (stepW s) h).map rfl fun a T3 _ ha => by rw [← ha]
      · rw [if_neg c2, if_neg (fun d => c2 ((word_cons hd wPort).1 d))]
        obtain ⟨k1, k2⟩ := (keeps_step (wrong E T 8 s)).trans (keeps_fig E T _) (by rw [wrong_is h]; show (8 : Nat) ≠ 0; decide)
        rw [wrong_is h, e1] at k1 k2
        refine ⟨?_, ?_, by decide⟩
        · rw [wrong_is h, e1]; exact k1
        · rw [wrong_is h, e1]; exact k2
theorem does_end (E : Nat) (T : List Tok) (s : Ws) (h : s.bad = 0) : Does T s ((), endW E T s) ((takeE (T.drop s.i)).map fun u => ((), u)) := by
  unfold endW
  cases hd : T.drop s.i with
  | nil =>
    rw [if_neg (fun c => absurd (List.drop_eq_nil_iff.1 hd) (by omega))]
    exact ⟨rfl, h, rfl, hd⟩
  | cons t T' =>
    obtain ⟨e1, e2, e3⟩ := nx_cons (E := E) hd
    rw [show takeE (t :: T') = if t.kind = 7 then .ok (t :: T') else .error (8, t.pos) from rfl]
    by_cases c : t.kind = 7
    · rw [if_pos c, if_neg (by rw [e1]; exact fun d => d.2 c)]
      exact ⟨rfl, h, rfl, hd⟩
    · rw [if_neg c, if_pos ⟨e2, by rw [e1]; exact c⟩, wrong_is h, e1]
      exact ⟨rfl, rfl, by decide⟩
theorem does_row (E : Nat) (T : List Tok) (s : Ws) (h : s.bad = 0) : Does T s (rowW E T s) (takeR E (T.drop s.i)) := by
  unfold rowW takeR
  refine (does_front E T s h).bind (((keeps_kind E T 6 _).trans (keeps_act E T _)).trans (keeps_end E T _)) fun x T2 _ hx hb hT2 => ?_
  subst hT2
  refine (does_kind E T 6 (by decide) _ hb).bind ((keeps_act E T _).trans (keeps_end E T _)) fun y T3 _ hy hb3 hT3 => ?_
  subst hT3
  refine (does_act E T _ hb3).bind (keeps_end E T _) fun z T4 _ hz hb4 hT4 => ?_
  subst hT4
  have he := does_end E T _ hb4
  rw [← nx_pos, ← hx, ← hz]
  revert he
  cases takeE (T.drop (actW E T (kindW E T 6 (frontW E T s).2).2).2.i) with
  | error q => exact fun he => he
  | ok u => exact fun he => ⟨rfl, he.2⟩
/-- THE WALK THROUGH THE TOKENS comes to the lines, or to what is wrong first. -/
theorem does_rows (E : Nat) (T : List Tok) : ∀ (f : Nat) (had : List Raw) (s : Ws), s.bad = 0 → match takeL E f had (T.drop s.i) with
    | .ok l => (rowsW E T f had s).2.bad = 0 ∧ (rowsW E T f had s).1 = l
    | .error x => (rowsW E T f had s).2.bad = x.1 ∧ (rowsW E T f had s).2.pos = x.2 ∧ x.1 ≠ 0
  | 0, had, s, h => ⟨h, rfl⟩
  | f + 1, had, s, h => by
    have stay : ∀ (g : Nat) (had : List Raw) (s : Ws), s.bad ≠ 0 → rowsW E T g had s = (had, s) := fun g had s hb => by
      cases g with
      | zero => rfl
      | succ g => unfold rowsW; rw [if_neg (fun c => hb c.2)]
    cases hd : T.drop s.i with
    | nil =>
      have hR : rowsW E T (f + 1) had s = (had, s) := by
        unfold rowsW
        rw [if_neg (fun c => absurd (List.drop_eq_nil_iff.1 hd) (by omega))]
      rw [hR]
      exact ⟨h, rfl⟩
    | cons t T' =>
      obtain ⟨e1, e2, e3⟩ := nx_cons (E := E) hd
      have hL : takeL E (f + 1) had (t :: T') = if t.kind = 7 then takeL E f had T' else if had.length = 64 then .error (4, t.pos) else (takeR E (t :: T')).bind (fun x => takeL E f (had ++ [x.1]) x.2) := rfl
      have hR : rowsW E T (f + 1) had s = if t.kind = 7 then rowsW E T f had (stepW s) else rowsW E T f (had ++ [(rowW E T (if had.length = 64 then wrong E T 4 s else s)).1]) (rowW E T (if had.length = 64 then wrong E T 4 s else s)).2 := by
        rw [rowsW, if_pos ⟨e2, h⟩, e1]
      by_cases c : t.kind = 7
      · rw [if_pos c] at hL hR
        rw [hL, hR]
        have := does_rows E T f had (stepW s) h
        rw [show (stepW s).i = s.i + 1 from rfl, e3] at this
        exact this
      · rw [if_neg c] at hL hR
        by_cases c2 : had.length = 64
        · rw [if_pos c2] at hL
          simp only [if_pos c2] at hR
          rw [hL, hR]
          obtain ⟨k1, k2⟩ := keeps_row E T (wrong E T 4 s) (by rw [wrong_is h]; show (4 : Nat) ≠ 0; decide)
          have hw : (wrong E T 4 s).bad = 4 ∧ (wrong E T 4 s).pos = t.pos := by rw [wrong_is h, e1]; exact ⟨rfl, rfl⟩
          rw [stay _ _ _ (by rw [k1, hw.1]; decide)]
          exact ⟨k1.trans hw.1, k2.trans hw.2, by show (4 : Nat) ≠ 0; decide⟩
        · rw [if_neg c2] at hL
          simp only [if_neg c2] at hR
          rw [hL, hR]
          have hr := does_row E T s h
          rw [hd] at hr
          cases hx : takeR E (t :: T') with
          | error x =>
            rw [hx] at hr
            obtain ⟨h1, h2, h3⟩ := hr
            rw [stay _ _ _ (by rw [h1]; exact h3)]
            exact ⟨h1, h2, h3⟩
          | ok x =>
            rw [hx] at hr
            obtain ⟨a, T2⟩ := x
            obtain ⟨h1, h2, _, h4⟩ := hr
            have := does_rows E T f (had ++ [(rowW E T s).1]) (rowW E T s).2 h2
            rw [h4, h1] at this
            rw [h1]
            exact this
/-! How far a walk goes. -/
theorem wrong_i (E : Nat) (T : List Tok) (e : Nat) (s : Ws) : (wrong E T e s).i = s.i := by unfold wrong; split <;> rfl
theorem kind_i (E : Nat) (T : List Tok) (k : Nat) (s : Ws) : (kindW E T k s).2.i = s.i + 1 := by
  unfold kindW stepW
  split
  · rfl
  · simp [wrong_i]
theorem fig_i (E : Nat) (T : List Tok) (s : Ws) : (figW E T s).2.i = s.i + 1 := kind_i E T 2 s
theorem dots_i (E : Nat) (T : List Tok) : ∀ (n : Nat) (s : Ws), (dotsW E T n s).2.i = s.i + 2 * n
  | 0, s => rfl
  | n + 1, s => by
    have := dots_i E T n (figW E T (kindW E T 3 s).2).2
    rw [fig_i, kind_i] at this
    rw [dotsW]
    show (dotsW E T n (figW E T (kindW E T 3 s).2).2).2.i = _
    omega
theorem opt_i (E : Nat) (T : List Tok) (b : Bool) (k : Nat) (s : Ws) : s.i ≤ (optW E T b k s).2.i ∧ (optW E T b k s).2.i ≤ s.i + 2 := by
  unfold optW
  split
  · have := fig_i E T (stepW s)
    have h2 : (stepW s).i = s.i + 1 := rfl
    constructor <;> (show _ ≤ _; simp only; omega)
  · exact ⟨Nat.le_refl _, Nat.le_add_right _ _⟩
theorem head_i (E : Nat) (T : List Tok) (had : List Cla) (s : Ws) : (headW E T had s).i = s.i + 1 := by
  unfold headW stepW
  simp only
  split
  · rw [wrong_i]; split <;> simp [wrong_i]
  · split <;> simp [wrong_i]
theorem clause_i (E : Nat) (T : List Tok) (had : List Cla) (s : Ws) : s.i + 2 ≤ (clauseW E T had s).2.i ∧ (clauseW E T had s).2.i ≤ s.i + 12 := by
  unfold clauseW
  simp only
  have h1 := head_i E T had s
  have h2 := fig_i E T (headW E T had s)
  have h3 : (headW E T had s).i + 1 ≤ (if isAddrW (nx E T s).text = true then dotsW E T 3 (figW E T (headW E T had s)).2 else ([], (figW E T (headW E T had s)).2)).2.i ∧ (if isAddrW (nx E T s).text = true then dotsW E T 3 (figW E T (headW E T had s)).2 else ([], (figW E T (headW E T had s)).2)).2.i ≤ (headW E T had s).i + 7 := by
    split
    · have := dots_i E T 3 (figW E T (headW E T had s)).2
      omega
    · show _ ≤ (figW E T (headW E T had s)).2.i ∧ (figW E T (headW E T had s)).2.i ≤ _
      omega
  revert h3
  generalize (if isAddrW (nx E T s).text = true then dotsW E T 3 (figW E T (headW E T had s)).2 else ([], (figW E T (headW E T had s)).2)) = d
  intro h3
  have h4 := opt_i E T (isAddrW (nx E T s).text) 4 d.2
  have h5 := opt_i E T (isPortW (nx E T s).text) 5 (optW E T (isAddrW (nx E T s).text) 4 d.2).2
  omega
theorem kind1_lt {E : Nat} {T : List Tok} {s : Ws} (h : (nx E T s).kind = 1) : s.i < T.length := by
  by_cases hi : s.i < T.length
  · exact hi
  · rw [nx_nil (List.drop_eq_nil_iff.2 (by omega))] at h
    cases h
theorem clauses_i (E : Nat) (T : List Tok) : ∀ (f : Nat) (had : List Cla) (s : Ws), s.i ≤ T.length + 12 → s.i ≤ (clausesW E T f had s).2.i ∧ (clausesW E T f had s).2.i ≤ T.length + 12
  | 0, _, s, h => ⟨Nat.le_refl _, h⟩
  | f + 1, had, s, h => by
    unfold clausesW
    split
    · rename_i hc
      have h1 := kind1_lt hc.2
      have h2 := clause_i E T had s
      have h3 := clauses_i E T f (had ++ [(clauseW E T had s).1]) (clauseW E T had s).2 (by omega)
      omega
    · exact ⟨Nat.le_refl _, h⟩
theorem front_i (E : Nat) (T : List Tok) (s : Ws) (h : s.i < T.length) : s.i < (frontW E T s).2.i ∧ (frontW E T s).2.i ≤ T.length + 12 := by
  unfold frontW
  split
  · show s.i < s.i + 1 ∧ s.i + 1 ≤ _
    omega
  · have h1 := fig_i E T s
    have h2 := clauses_i E T (T.length - (figW E T s).2.i) [] (figW E T s).2 (by omega)
    simp only
    omega
theorem act_i (E : Nat) (T : List Tok) (s : Ws) : s.i < (actW E T s).2.i ∧ (actW E T s).2.i ≤ s.i + 2 := by
  unfold actW
  split
  · show s.i < s.i + 1 ∧ s.i + 1 ≤ _
    omega
  · simp only
    rw [fig_i]
    have : (stepW (if wordW E T wPort s = true then s else wrong E T 8 s)).i = s.i + 1 := by
      unfold stepW
      split
      · rfl
      · simp [wrong_i]
    omega
/-- A line takes a token at least, and goes no further than so many behind the last one. -/
theorem row_i (E : Nat) (T : List Tok) (s : Ws) (h : s.i < T.length) : s.i < (rowW E T s).2.i ∧ (rowW E T s).2.i ≤ T.length + 15 := by
  unfold rowW
  simp only
  have h1 := front_i E T s h
  have h2 := kind_i E T 6 (frontW E T s).2
  have h3 := act_i E T (kindW E T 6 (frontW E T s).2).2
  have h4 : (endW E T (actW E T (kindW E T 6 (frontW E T s).2).2).2).i = (actW E T (kindW E T 6 (frontW E T s).2).2).2.i := by
    unfold endW
    split
    · exact wrong_i E T 8 _
    · rfl
  omega
/-- The numbers, one behind the other. -/
def dotsA (E : Nat) (T : List Tok) : Nat → List Fig × Ws → List Fig × Ws
  | 0, x => x
  | n + 1, x => ((dotsA E T n x).1 ++ [(figW E T (kindW E T 3 (dotsA E T n x).2).2).1], (figW E T (kindW E T 3 (dotsA E T n x).2).2).2)
theorem dotsA_left (E : Nat) (T : List Tok) : ∀ (n : Nat) (l : List Fig) (s : Ws), dotsA E T (n + 1) (l, s) = dotsA E T n (l ++ [(figW E T (kindW E T 3 s).2).1], (figW E T (kindW E T 3 s).2).2)
  | 0, l, s => rfl
  | n + 1, l, s => by
    rw [dotsA, dotsA_left E T n l s]
    rfl
theorem dots_A (E : Nat) (T : List Tok) : ∀ (n : Nat) (l : List Fig) (s : Ws), dotsA E T n (l, s) = (l ++ (dotsW E T n s).1, (dotsW E T n s).2)
  | 0, l, s => by simp [dotsA, dotsW]
  | n + 1, l, s => by
    rw [dotsA_left, dots_A E T n, dotsW]
    simp
end Go.Proofs.YtbdbjbmjnemknaaDoor
namespace Go.Proofs.YtbdbjbmjnemknaaDoor
open Go Go.RowKit
set_option maxRecDepth 20000

theorem parseP_zero7 {S : List UInt8} (h : (parseP S).2.1 = 0) : parseT S = .ok (parseP S).1 := by
  unfold parseP at h ⊢
  cases hx : parseT S with
  | ok l => rfl
  | error x =>
    rw [hx] at h
    exfalso
    have h' : x.1 = 0 := h
    unfold parseT at hx
    by_cases h4 : 4096 < S.length
    · rw [if_pos h4] at hx; cases hx; exact absurd h' (by decide)
    · rw [if_neg h4] at hx
      cases hl : lexW 0 S with
      | error y =>
        rw [hl] at hx
        cases hx
        obtain ⟨e, p⟩ := x
        have := lexW_error S 0 e p hl
        have h2 : e = 0 := h'
        omega
      | ok T =>
        rw [hl] at hx
        have hx' : takeL S.length (T.length + 1) [] T = .error x := hx
        have := does_rows S.length T (T.length + 1) [] ⟨0, 0, 0⟩ rfl
        rw [show T.drop (Ws.mk 0 0 0).i = T from rfl, hx'] at this
        exact this.2.2 h'
theorem parseP_nil7 {S : List UInt8} (h : (parseP S).2.1 ≠ 0) : (parseP S).1 = [] := by
  unfold parseP at h ⊢
  cases hx : parseT S with
  | ok l => rw [hx] at h; exact absurd rfl h
  | error x => rfl


def ent00 : Ent := ⟨false, 0, 0, 0, 0, 0, 0, 0, 0, 0, 0, 0⟩
set_option maxHeartbeats 1000000 in
theorem says_any (l : List Ent) (vl : Value) (w : World) (hl : EntsAt w vl l) (h32 : ∀ x ∈ l, ent32 x) (L : List Int) (hL : Byt L) (hP : Places w) :
    Calls Tryd.prog 10 #[vl, .agg (hv L)] w fun e w' => e = .returned (.tuple #[.int .i64 (saysT (applyT L) l).1, .bool (saysT (applyT L) l).2]) ∧ Below w.heap.size w w' := by
  have hLl := hL.1
  have hp := hP.pos
  have WC : Hid (∀ W, Below w.heap.size w W → Calls Tryd.prog 19 #[vl, .agg (hv L)] W fun e w' => e = .returned (.int .i64 (whichI (applyT L) l)) ∧ Below W.heap.size W w') := fun W hb => which_any l vl W (GSl.below hl hb) h32 L hL (hP.later hp hb)
  obtain ⟨o, cap, rfl, hc1, hc2⟩ := GSl.slice hl
  obtain ⟨n, hn⟩ : ∃ n, n = l.length := ⟨_, rfl⟩
  rw [← hn] at hl hc1 WC ⊢
  have HL : Hid (EntsAt w (.slice o n cap) l) := hl
  unfold maxLen at hc2
  have KN : Hid ((w.alloc (.cells (hv L) 34)).heap[w.heap.size]? = some (.cells (hv L) 34 (0, 0)) ∧ Below w.heap.size w (w.alloc (.cells (hv L) 34))) := ⟨heap_new _ _ _ rfl, (Below.refl _ _).alloc (Nat.le_refl _) _⟩
  cases hw : whichT (applyT L) l with
  | none =>
    have e1 : whichI (applyT L) l = -1 := by unfold whichI; rw [hw]; rfl
    have e2 : saysT (applyT L) l = (0, false) := by unfold saysT; rw [hw]
    rw [e2]
    rw [e1] at WC
    clear hl h32 hP hp hw e1 e2 hn
    go_enter Tryd.func10, Tryd.ntmps10
    go_wp2_with (refine wl_load26 rfl _ rfl w.heap.size rfl L KN.out.1 hLl ?_)
    refine (WC.out _ KN.out.2).mono ?_
    rintro e w1 ⟨rfl, hb1⟩
    have B1 : Hid (Below w.heap.size w w1) := KN.out.2.trans (hb1.mono KN.out.2.size)
    clear hb1
    go_wp2_with fail
    go_ret2
    exact ⟨rfl, B1.out⟩
  | some i =>
    obtain ⟨x, hx⟩ := whichT_in hw
    have hi : i < n := by rw [hn]; exact (List.getElem?_eq_some_iff.1 hx).1
    have e1 : whichI (applyT L) l = (i : Int) := by unfold whichI; rw [hw]; rfl
    have e2 : saysT (applyT L) l = (x.action, true) := by unfold saysT; rw [hw]; simp only [List.getD_eq_getElem?_getD, hx]; rfl
    rw [e2]
    rw [e1] at WC
    obtain ⟨g, off, cur, ty, fr, x', rfl, hg, hc, hxi⟩ := hl.at i hi
    obtain rfl : x = x' := Option.some.inj (hx.symm.trans hxi)
    have HG : Hid (w.heap[g]? = some (.cells cur ty fr)) := hg
    have HC : Hid (cur[off + i * 12 + 11]? = some (.int .i64 x.action)) := ent_act hc
    have hi0 : ¬ (i : Int) < 0 := by omega
    have hi1 : (i : Int) < (n : Int) := by omega
    clear hl h32 hP hp hw e1 e2 hx hxi hg hc hn
    go_enter Tryd.func10, Tryd.ntmps10
    go_wp2_with (refine wl_load26 rfl _ rfl w.heap.size rfl L KN.out.1 hLl ?_)
    refine (WC.out _ KN.out.2).mono ?_
    rintro e w1 ⟨rfl, hb1⟩
    have B1 : Hid (Below w.heap.size w w1) := KN.out.2.trans (hb1.mono KN.out.2.size)
    have q : w1.cell? ⟨g, off + i * 12 + 11, none⟩ = some (.int .i64 x.action) := by rw [cell_of_row _ _ _ _ _ _ ((B1.out.block g (Array.getElem?_eq_some_iff.1 HG.out).1).trans HG.out)]; exact HC.out
    clear hb1
    go_wp2_with fail
    go_ret2
    exact ⟨rfl, B1.out⟩

/-- What a text comes to. -/
def readP (S : List UInt8) : List Ent × Int × Int := outC (readT S)
theorem readP_bad {S : List UInt8} (h : (parseP S).2.1 ≠ 0) : readP S = ([], ((parseP S).2.1 : Int), ((parseP S).2.2 : Int)) := by
  unfold readP readT
  unfold parseP at h ⊢
  cases hp : parseT S with
  | ok l => rw [hp] at h; exact absurd rfl h
  | error x => rfl
theorem readP_good {S : List UInt8} (h : (parseP S).2.1 = 0) : readP S = checkP (S.length : Int) (parseP S).1 := by
  have := parseP_zero7 h
  unfold readP readT checkP
  rw [this]
theorem raws_sl7 {B : Nat} {w : World} {L : List Raw} {v : Value} (h : RawsOwn B w L v) : RawsAt w v L := by
  obtain ⟨P, h1, h2, h3⟩ := h
  refine ⟨P, h1, gsl_of (E := RawE) h2 fun c _ => rfl, fun p hp => ?_⟩
  obtain ⟨Q, q1, q2, q3⟩ := h3 p hp
  exact ⟨Q, q1, gsl_of (E := ClaE) q2 fun c _ => rfl, fun r hr => gsl_of (E := FigE) (q3 r hr) fun c _ => rfl⟩

set_option maxHeartbeats 4000000 in
theorem read_any (s : ByteArray) (hs : s.size ≤ maxLen) (w : World) :
    Calls Tryd.prog 6 #[.string s] w fun e w' => ∃ v, e = .returned (.tuple #[v, .int .i64 (readP s.data.toList).2.1, .int .i64 (readP s.data.toList).2.2]) ∧ EntsOwn w.heap.size w' (readP s.data.toList).1 v ∧ Below w.heap.size w w' := by
  have C1 : Hid (∀ W, Calls Tryd.prog 11 #[.string s] W fun e w' => ∃ v, e = .returned (.tuple #[v, .int .i64 ((parseP s.data.toList).2.1 : Nat), .int .i64 ((parseP s.data.toList).2.2 : Nat)]) ∧ RawsOwn W.heap.size w' (parseP s.data.toList).1 v ∧ Below W.heap.size W w') := parse_any s hs
  have hlen : (s.data.toList.length : Int) = (s.size : Int) := by rw [← Lib.size_eq]
  have hz : (parseP s.data.toList).2.1 = 0 → readP s.data.toList = checkP (s.size : Int) (parseP s.data.toList).1 := fun h => by rw [readP_good h, hlen]
  have hb := @readP_bad s.data.toList
  obtain ⟨S, hS⟩ : ∃ S, S = s.data.toList := ⟨_, rfl⟩
  rw [← hS] at C1 hz hb ⊢
  have CK : Hid (∀ (l : List Raw) vl W, RawsAt W vl l → Calls Tryd.prog 12 #[vl, .int .i64 (s.size : Int)] W fun e w' => ∃ v, e = .returned (.tuple #[v, .int .i64 (checkP (s.size : Int) l).2.1, .int .i64 (checkP (s.size : Int) l).2.2]) ∧ EntsOwn W.heap.size w' (checkP (s.size : Int) l).1 v ∧ Below W.heap.size W w') := fun l vl W h => check_any l vl _ W h
  obtain ⟨⟨R, E, A⟩, hP⟩ : ∃ x, x = parseP S := ⟨_, rfl⟩
  rw [← hP] at C1 hz hb
  simp only at C1 hz hb
  obtain ⟨X, hX⟩ : ∃ X, X = readP S := ⟨_, rfl⟩
  rw [← hX] at hz hb ⊢
  unfold maxLen at hs
  clear hS hP hX hlen
  by_cases hE : E = 0
  · subst hE
    obtain rfl := hz rfl
    clear hz hb
    go_enter Tryd.func6, Tryd.ntmps6
    go_wp2_with fail
    refine (C1.out _).mono ?_
    rintro e w1 ⟨v, rfl, ho1, hb1⟩
    have HR : Hid (RawsAt w1 v R) := raws_sl7 ho1
    have HB : Hid (Below w.heap.size w w1) := hb1
    clear ho1 hb1
    go_wp2_with fail
    refine (CK.out _ _ _ HR.out).mono ?_
    rintro e w2 ⟨v2, rfl, ho2, hb2⟩
    have HO : Hid (EntsOwn w.heap.size w2 (checkP (s.size : Int) R).1 v2) := gown_base ho2 HB.out.size
    have HB2 : Hid (Below w.heap.size w w2) := HB.out.trans (hb2.mono HB.out.size)
    clear ho2 hb2
    go_wp2_with fail
    go_ret3
    exact ⟨_, rfl, HO.out, HB2.out⟩
  · obtain rfl := hb hE
    have hne : ((E : Int) != 0) = true := by simp; omega
    clear hz hb hE
    go_enter Tryd.func6, Tryd.ntmps6
    go_wp2_with fail
    refine (C1.out _).mono ?_
    rintro e w1 ⟨v, rfl, ho1, hb1⟩
    have HB : Hid (Below w.heap.size w w1) := hb1
    clear ho1 hb1
    go_wp2_with fail
    go_ret3
    exact ⟨_, rfl, World.ownsRow_nil _ _ _ _, HB.out⟩

def ex7A : List UInt8 := [57, 32, 100, 112, 111, 114, 116, 32, 56, 48, 32, 45, 62, 32, 112, 111, 114, 116, 32, 49, 10, 57, 32, 115, 114, 99, 32, 49, 48, 46, 48, 46, 48, 46, 48, 47, 56, 32, 45, 62, 32, 112, 111, 114, 116, 32, 50, 10, 100, 101, 102, 97, 117, 108, 116, 32, 45, 62, 32, 100, 114, 111, 112]
def ex7B : List UInt8 := [49, 32, 115, 114, 99, 32, 49, 46, 50, 46, 51, 46, 50, 53, 54, 32, 45, 62, 32, 100, 114, 111, 112]
def ex7E : List Ent := [⟨false, 9, 1, 0, 0, 0, 0, 0, 65535, 80, 80, -1⟩, ⟨false, 9, 2, 167772160, 8, 0, 0, 0, 65535, 0, 65535, -1⟩, ⟨true, 0, 0, 0, 0, 0, 0, 0, 0, 0, 0, 0⟩]
def ex7H : List Int := [10, 0, 0, 1, 0, 0, 0, 0, 0, 0, 0, 80, 0]
def ex7K : List Int := [10, 0, 0, 1, 0, 0, 0, 0, 0, 0, 0, 81, 0]
theorem ex7_read : readP ex7A = (ex7E, 0, 0) := by kernel_rfl
theorem ex7_bad : readP ex7B = ([], 10, 12) := by kernel_rfl
theorem ex7_one : saysT (applyT ex7H) ex7E = (1, true) := by kernel_rfl
theorem ex7_two : saysT (applyT ex7K) ex7E = (2, true) := by kernel_rfl
theorem ex7H_byt : Byt ex7H := ⟨rfl, fun k => by
  rcases Nat.lt_or_ge k 13 with h | h
  · rcases (show k = 0 ∨ k = 1 ∨ k = 2 ∨ k = 3 ∨ k = 4 ∨ k = 5 ∨ k = 6 ∨ k = 7 ∨ k = 8 ∨ k = 9 ∨ k = 10 ∨ k = 11 ∨ k = 12 by omega) with h | h | h | h | h | h | h | h | h | h | h | h | h <;> subst h <;> decide
  · rw [List.getD_eq_getElem?_getD, List.getElem?_eq_none h]; decide⟩
theorem ex7K_byt : Byt ex7K := ⟨rfl, fun k => by
  rcases Nat.lt_or_ge k 13 with h | h
  · rcases (show k = 0 ∨ k = 1 ∨ k = 2 ∨ k = 3 ∨ k = 4 ∨ k = 5 ∨ k = 6 ∨ k = 7 ∨ k = 8 ∨ k = 9 ∨ k = 10 ∨ k = 11 ∨ k = 12 by omega) with h | h | h | h | h | h | h | h | h | h | h | h | h <;> subst h <;> decide
  · rw [List.getD_eq_getElem?_getD, List.getElem?_eq_none h]; decide⟩
theorem ex7_32 : ∀ x ∈ ex7E, ent32 x := fun x hx => by
  simp only [ex7E, List.mem_cons, List.not_mem_nil, or_false] at hx
  rcases hx with rfl | rfl | rfl <;> exact ⟨⟨by decide, by decide⟩, ⟨by decide, by decide⟩⟩

set_option maxHeartbeats 8000000 in
set_option maxRecDepth 100000 in
theorem awake7_any (w : World) (hP : Places w) : Calls Tryd.prog 5 #[] w fun e w' => e = .returned (.bool true) ∧ Below w.heap.size w w' := by
  have hp := hP.pos
  have C1 : Hid (∀ W, Calls Tryd.prog 6 #[.string ⟨#[57, 32, 100, 112, 111, 114, 116, 32, 56, 48, 32, 45, 62, 32, 112, 111, 114, 116, 32, 49, 10, 57, 32, 115, 114, 99, 32, 49, 48, 46, 48, 46, 48, 46, 48, 47, 56, 32, 45, 62, 32, 112, 111, 114, 116, 32, 50, 10, 100, 101, 102, 97, 117, 108, 116, 32, 45, 62, 32, 100, 114, 111, 112]⟩] W fun e w' => ∃ v, e = .returned (.tuple #[v, .int .i64 0, .int .i64 0]) ∧ EntsOwn W.heap.size w' ex7E v ∧ Below W.heap.size W w') := fun W => by
    have := read_any ⟨#[57, 32, 100, 112, 111, 114, 116, 32, 56, 48, 32, 45, 62, 32, 112, 111, 114, 116, 32, 49, 10, 57, 32, 115, 114, 99, 32, 49, 48, 46, 48, 46, 48, 46, 48, 47, 56, 32, 45, 62, 32, 112, 111, 114, 116, 32, 50, 10, 100, 101, 102, 97, 117, 108, 116, 32, 45, 62, 32, 100, 114, 111, 112]⟩ (by decide) W
    rw [show (⟨#[57, 32, 100, 112, 111, 114, 116, 32, 56, 48, 32, 45, 62, 32, 112, 111, 114, 116, 32, 49, 10, 57, 32, 115, 114, 99, 32, 49, 48, 46, 48, 46, 48, 46, 48, 47, 56, 32, 45, 62, 32, 112, 111, 114, 116, 32, 50, 10, 100, 101, 102, 97, 117, 108, 116, 32, 45, 62, 32, 100, 114, 111, 112]⟩ : ByteArray).data.toList = ex7A from rfl, ex7_read] at this
    exact this
  have C2 : Hid (∀ W, Calls Tryd.prog 6 #[.string ⟨#[49, 32, 115, 114, 99, 32, 49, 46, 50, 46, 51, 46, 50, 53, 54, 32, 45, 62, 32, 100, 114, 111, 112]⟩] W fun e w' => ∃ v, e = .returned (.tuple #[v, .int .i64 10, .int .i64 12]) ∧ EntsOwn W.heap.size w' [] v ∧ Below W.heap.size W w') := fun W => by
    have := read_any ⟨#[49, 32, 115, 114, 99, 32, 49, 46, 50, 46, 51, 46, 50, 53, 54, 32, 45, 62, 32, 100, 114, 111, 112]⟩ (by decide) W
    rw [show (⟨#[49, 32, 115, 114, 99, 32, 49, 46, 50, 46, 51, 46, 50, 53, 54, 32, 45, 62, 32, 100, 114, 111, 112]⟩ : ByteArray).data.toList = ex7B from rfl, ex7_bad] at this
    exact this
  have S1 : Hid (∀ W v, EntsAt W v ex7E → Below w.heap.size w W → Calls Tryd.prog 10 #[v, .agg #[.int .u8 10, .int .u8 0, .int .u8 0, .int .u8 1, .int .u8 0, .int .u8 0, .int .u8 0, .int .u8 0, .int .u8 0, .int .u8 0, .int .u8 0, .int .u8 80, .int .u8 0]] W fun e w' => e = .returned (.tuple #[.int .i64 1, .bool true]) ∧ Below W.heap.size W w') := fun W v h hb => by
    have := says_any ex7E v W h ex7_32 ex7H ex7H_byt (hP.later hp hb)
    rw [ex7_one] at this
    exact this
  have S2 : Hid (∀ W v, EntsAt W v ex7E → Below w.heap.size w W → Calls Tryd.prog 10 #[v, .agg #[.int .u8 10, .int .u8 0, .int .u8 0, .int .u8 1, .int .u8 0, .int .u8 0, .int .u8 0, .int .u8 0, .int .u8 0, .int .u8 0, .int .u8 0, .int .u8 81, .int .u8 0]] W fun e w' => e = .returned (.tuple #[.int .i64 2, .bool true]) ∧ Below W.heap.size W w') := fun W v h hb => by
    have := says_any ex7E v W h ex7_32 ex7K ex7K_byt (hP.later hp hb)
    rw [ex7_two] at this
    exact this
  clear hP hp
  go_enter Tryd.func5, Tryd.ntmps5
  go_wp2_with fail
  refine (C1.out _).mono ?_
  rintro e w1 ⟨v, rfl, ho1, hb1⟩
  have HE1 : Hid (EntsAt w1 v ex7E) := ents_sl ho1
  have HB1 : Hid (Below w.heap.size w w1) := hb1
  clear ho1 hb1
  go_wp2_with fail
  refine (S1.out _ _ HE1.out HB1.out).mono ?_
  rintro e w2 ⟨rfl, hb2⟩
  have HE2 : Hid (EntsAt w2 v ex7E) := GSl.below HE1.out hb2
  have HB2 : Hid (Below w.heap.size w w2) := HB1.out.trans (hb2.mono HB1.out.size)
  clear hb2
  go_wp2_with fail
  refine (S2.out _ _ HE2.out HB2.out).mono ?_
  rintro e w3 ⟨rfl, hb3⟩
  have HB3 : Hid (Below w.heap.size w w3) := HB2.out.trans (hb3.mono HB2.out.size)
  clear hb3
  go_wp2_with fail
  refine (C2.out _).mono ?_
  rintro e w4 ⟨v4, rfl, -, hb4⟩
  have HB4 : Hid (Below w.heap.size w w4) := HB3.out.trans (hb4.mono HB3.out.size)
  clear hb4
  go_wp2_with fail
  go_ret
  exact ⟨rfl, HB4.out⟩
end Go.Proofs.YtbdbjbmjnemknaaDoor
namespace Go.Proofs.YtbdbjbmjnemknaaDoor
open Go Go.RowKit
set_option maxRecDepth 20000

def intsV (L : List Int) : Array Value := (L.map (Value.int .i64)).toArray
theorem ints_at {L : List Int} {k : Nat} {x : Int} (h : L[k]? = some x) : (intsV L)[k]? = some (.int .i64 x) := by
  unfold intsV
  simp [h]
theorem fig0_take {L : List Int} {k : Nat} {x : Int} (h : L[k]? = some x) : (L.take (k + 1)).map fig0 = (L.take k).map fig0 ++ [fig0 x] := by
  obtain ⟨hk, rfl⟩ := List.getElem?_eq_some_iff.1 h
  rw [List.take_succ_eq_append_getElem hk, List.map_append]
  rfl

set_option maxHeartbeats 4000000 in
theorem figures_any (L : List Int) (hL : L.length ≤ 100) (g : Nat) (w : World) (hg : w.heap[g]? = some (.cells (intsV L) 3 (0, 0))) :
    Calls Tryd.prog 32 #[.slice (some ⟨g, 0, none⟩) L.length L.length] w fun e w' => ∃ v, e = .returned v ∧ FigsOwn w.heap.size w' (L.map fig0) v ∧ Below w.heap.size w w' := by
  have HG : Hid (w.heap[g]? = some (.cells (intsV L) 3 (0, 0))) := hg
  obtain ⟨n, hn⟩ : ∃ n, n = L.length := ⟨_, rfl⟩
  have HN : Hid (n = L.length) := hn
  rw [← hn] at hL ⊢
  clear hg hn
  go_enter Tryd.func32, Tryd.ntmps32
  go_wp2_with fail
  go_loopw [3, 8] (fun v i wr => ∃ k : Nat, k ≤ n ∧ i = .int .i64 (k : Int) ∧ FigsOwn w.heap.size wr ((L.take k).map fig0) v ∧ Below w.heap.size w wr) (fun _ i _ => n - (intOf i).toNat)
  case atStart => exact ⟨0, Nat.zero_le _, rfl, World.ownsRow_nil _ _ _ _, Below.refl _ _⟩
  case round =>
    obtain ⟨k, hk, rfl, hown, hb⟩ := hrel
    have HO : Hid (FigsOwn w.heap.size wr ((L.take k).map fig0) u3) := hown
    have HB : Hid (Below w.heap.size w wr) := hb
    clear hown hb
    by_cases hlt : k < n
    · have hlt' : (k : Int) < (n : Int) := by omega
      obtain ⟨x, hx⟩ : ∃ x, L[k]? = some x := ⟨_, List.getElem?_eq_getElem (by have := HN.out; omega)⟩
      have hgr : wr.heap[g]? = some (.cells (intsV L) 3 (0, 0)) := (HB.out.block g (Array.getElem?_eq_some_iff.1 HG.out).1).trans HG.out
      have cx : wr.cell? ⟨g, k, none⟩ = some (.int .i64 x) := by rw [cell_of_row _ _ _ _ _ _ hgr]; exact ints_at hx
      have HT : Hid ((L.take (k + 1)).map fig0 = (L.take k).map fig0 ++ [fig0 x]) := fig0_take hx
      have HLN : Hid (((L.take k).map fig0).length ≤ 1000000) := by show _ ≤ _; rw [List.length_map, List.length_take]; omega
      have HO2 : Hid (FigsOwn w.heap.size (wr.alloc (.cells (figV (fig0 x)) 52)) ((L.take k).map fig0) u3) := HO.out.alloc _
      have HLT : Hid (k < n) := hlt
      clear hx hgr hlt
      go_wp2_with (first
        | (refine wl_buildE (E := FigE) FigOk rfl _ rfl (figV (fig0 x)) rfl rfl ?_)
        | (at_builtin; refine of_stopT ?_))
      unfold StopT
      refine wl_appendE (E := FigE) FigOk figV rfl _ _ rfl w.heap.size u3 ((L.take k).map fig0) (fig0 x) (fig_fits _) rfl HO2.out wr.heap.size 1 rfl (heap_new _ _ _ rfl) HLN.out (by have := HB.out.size; simp; omega) ?_
      intro v' w3 hown3 hgr3 _
      have B3 : Hid (Below w.heap.size w w3) := (HB.out.alloc HB.out.size _).trans ((Below.refl _ _).grown hgr3 (HB.out.alloc HB.out.size _).size fun k hk => (HO2.out.lt k hk).1)
      have HO3 : Hid (FigsOwn w.heap.size w3 ((L.take (k + 1)).map fig0) v') := by show FigsOwn _ _ _ _; rw [HT.out]; exact hown3
      clear hown3 hgr3
      simp only [Act.put, List.setIfInBounds_toArray, List.set_cons_succ, List.set_cons_zero]
      go_wp2_with fail
      go_roundw
      case rel =>
        have := HLT.out
        exact ⟨k + 1, by omega, by go_num, HO3.out, B3.out⟩
      case measure =>
        have := HLT.out
        simp [intOf]; omega
    · have hlt' : (n : Int) ≤ (k : Int) := by omega
      have htk : L.take k = L := List.take_of_length_le (by have := HN.out; omega)
      rw [htk] at HO
      clear hlt htk
      go_wp2_with fail
      go_ret
      exact ⟨_, rfl, HO.out, HB.out⟩

/-- A clause that was made new. -/
def ClaN (B : Nat) (w : World) (c : Cla) (e : Ending) : Prop := ∃ u, e = .returned (.agg (claV c u)) ∧ FigsOwn B w c.nums u ∧ ∃ o n m, u = .slice o n m
theorem figs_sl8 {B : Nat} {w : World} {F : List Fig} {v : Value} (h : FigsOwn B w F v) : ∃ o n m, v = .slice o n m := by
  obtain ⟨_, ⟨rfl, _⟩ | ⟨g, cap, cur, rfl, _⟩⟩ := h
  · exact ⟨_, _, _, rfl⟩
  · exact ⟨_, _, _, rfl⟩
theorem figs_setRow {B : Nat} {w : World} {F : List Fig} {v : Value} {g : Nat} {cs : Array Value} (h : FigsOwn B w F v) (hg : g < B) : FigsOwn B (w.setRow g cs) F v := by
  obtain ⟨h1, h2 | ⟨g', cap, cur, rfl, hB, hcur, h3⟩⟩ := h
  · exact ⟨h1, .inl h2⟩
  · exact ⟨h1, .inr ⟨g', cap, cur, rfl, hB, (setRow_other _ _ _ _ (by omega)).trans hcur, h3⟩⟩
set_option maxHeartbeats 4000000 in
theorem portsClause_any (t : List UInt8) (a b : Int) (w : World) :
    Calls Tryd.prog 31 #[.string ⟨t.toArray⟩, .int .i64 a, .int .i64 b] w fun e w' => ClaN w.heap.size w' (portC7 t a b) e ∧ Below w.heap.size w w' := by
  have FG : Hid (∀ (L : List Int) (g : Nat) W, L.length ≤ 100 → W.heap[g]? = some (.cells (intsV L) 3 (0, 0)) → Calls Tryd.prog 32 #[.slice (some ⟨g, 0, none⟩) L.length L.length] W fun e w' => ∃ v, e = .returned v ∧ FigsOwn W.heap.size w' (L.map fig0) v ∧ Below W.heap.size W w') := fun L g W h1 h2 => figures_any L h1 g W h2
  by_cases h : a = b
  · subst h
    rw [show portC7 t a a = ⟨t, 0, [fig0 a], false, false⟩ by unfold portC7; rw [if_pos rfl]]
    have K0 : Hid (((w.alloc (.cells ClaE.zero 76)).alloc (.cells (intsV [a]) 3)).heap[w.heap.size]? = some (.cells ClaE.zero 76 (0, 0))) := heap_past _ _ _ _ (heap_new _ _ _ rfl)
    have K1 : Hid (((w.alloc (.cells ClaE.zero 76)).alloc (.cells (intsV [a]) 3)).heap[w.heap.size + 1]? = some (.cells (intsV [a]) 3 (0, 0))) := heap_new _ _ _ (by simp)
    have B2 : Hid (Below w.heap.size w ((w.alloc (.cells ClaE.zero 76)).alloc (.cells (intsV [a]) 3))) := below2 _ _ _
    have HS : Hid (w.heap.size + 1 < ((w.alloc (.cells ClaE.zero 76)).alloc (.cells (intsV [a]) 3)).heap.size) := (Array.getElem?_eq_some_iff.1 K1.out).1
    go_enter Tryd.func31, Tryd.ntmps31
    go_wp2_with fail
    refine (FG.out [a] _ _ (by simp) K1.out).mono ?_
    rintro e w1 ⟨v, rfl, ho1, hb1⟩
    obtain ⟨o, n, m, rfl⟩ := figs_sl8 ho1
    have K2 : Hid (w1.heap[w.heap.size]? = some (.cells ClaE.zero 76 (0, 0))) := (hb1.block _ (by have := HS.out; omega)).trans K0.out
    have B3 : Hid (Below w.heap.size w w1) := B2.out.trans (hb1.mono B2.out.size)
    have HO : Hid (FigsOwn (w.heap.size + 1) w1 ([a].map fig0) (.slice o n m)) := gown_base ho1 (by have := HS.out; omega)
    clear ho1 hb1
    go_wp2_with (first
      | (refine wl_storeE (E := ClaE) ClaOk rfl _ _ rfl w.heap.size (claV ⟨t, 0, [fig0 a], false, false⟩ (.slice o n m)) ⟨rfl, by simp [claV, Value.oneCell']⟩ rfl rfl _ K2.out rfl _ rfl ?_))
    refine retE (E := ClaE) ClaOk rfl rfl w.heap.size rfl (claV ⟨t, 0, [fig0 a], false, false⟩ (.slice o n m)) rfl (setRow_heap _ _ _ _ _ _ K2.out) ?_
    exact ⟨⟨_, rfl, gown_base (figs_setRow HO.out (Nat.lt_succ_self _)) (Nat.le_succ _), _, _, _, rfl⟩, below_setRow B3.out (Nat.le_refl _) _⟩
  · rw [show portC7 t a b = ⟨t, 0, [fig0 a, fig0 b], false, true⟩ by unfold portC7; rw [if_neg h]]
    have h' : (a == b) = false := by simp [h]
    clear h
    have K0 : Hid (((w.alloc (.cells ClaE.zero 76)).alloc (.cells (intsV [a, b]) 3)).heap[w.heap.size]? = some (.cells ClaE.zero 76 (0, 0))) := heap_past _ _ _ _ (heap_new _ _ _ rfl)
    have K1 : Hid (((w.alloc (.cells ClaE.zero 76)).alloc (.cells (intsV [a, b]) 3)).heap[w.heap.size + 1]? = some (.cells (intsV [a, b]) 3 (0, 0))) := heap_new _ _ _ (by simp)
    have B2 : Hid (Below w.heap.size w ((w.alloc (.cells ClaE.zero 76)).alloc (.cells (intsV [a, b]) 3))) := below2 _ _ _
    have HS : Hid (w.heap.size + 1 < ((w.alloc (.cells ClaE.zero 76)).alloc (.cells (intsV [a, b]) 3)).heap.size) := (Array.getElem?_eq_some_iff.1 K1.out).1
    go_enter Tryd.func31, Tryd.ntmps31
    go_wp2_with fail
    refine (FG.out [a, b] _ _ (by simp) K1.out).mono ?_
    rintro e w1 ⟨v, rfl, ho1, hb1⟩
    obtain ⟨o, n, m, rfl⟩ := figs_sl8 ho1
    have K2 : Hid (w1.heap[w.heap.size]? = some (.cells ClaE.zero 76 (0, 0))) := (hb1.block _ (by have := HS.out; omega)).trans K0.out
    have B3 : Hid (Below w.heap.size w w1) := B2.out.trans (hb1.mono B2.out.size)
    have HO : Hid (FigsOwn (w.heap.size + 1) w1 ([a, b].map fig0) (.slice o n m)) := gown_base ho1 (by have := HS.out; omega)
    clear ho1 hb1
    go_wp2_with (first
      | (refine wl_storeE (E := ClaE) ClaOk rfl _ _ rfl w.heap.size (claV ⟨t, 0, [fig0 a, fig0 b], false, true⟩ (.slice o n m)) ⟨rfl, by simp [claV, Value.oneCell']⟩ rfl rfl _ K2.out rfl _ rfl ?_))
    refine retE (E := ClaE) ClaOk rfl rfl w.heap.size rfl (claV ⟨t, 0, [fig0 a, fig0 b], false, true⟩ (.slice o n m)) rfl (setRow_heap _ _ _ _ _ _ K2.out) ?_
    exact ⟨⟨_, rfl, gown_base (figs_setRow HO.out (Nat.lt_succ_self _)) (Nat.le_succ _), _, _, _, rfl⟩, below_setRow B3.out (Nat.le_refl _) _⟩

theorem mask8 (x : Int) (h0 : 0 ≤ x) (h1 : x < 4294967296) : bits .and .u32 x 255 = x % 256 := by
  have h := bits_mask .u32 32 (by decide) (fun n a0 a1 => by rw [IntKind.wrap_u32]; omega) 8 (by decide) x h0 (by omega)
  have e : ((2 : Int) ^ 8 - 1) = 255 := by decide
  have e2 : ((2 : Int) ^ 8) = 256 := by decide
  rw [e, e2] at h
  exact h
set_option maxHeartbeats 4000000 in
theorem prefixClause_any (t : List UInt8) (a b : Int) (h0 : 0 ≤ a) (h1 : a < 4294967296) (w : World) :
    Calls Tryd.prog 30 #[.string ⟨t.toArray⟩, .int .u32 a, .int .i64 b] w fun e w' => ClaN w.heap.size w' (addrC7 t a b) e ∧ Below w.heap.size w w' := by
  have FG : Hid (∀ (L : List Int) (g : Nat) W, L.length ≤ 100 → W.heap[g]? = some (.cells (intsV L) 3 (0, 0)) → Calls Tryd.prog 32 #[.slice (some ⟨g, 0, none⟩) L.length L.length] W fun e w' => ∃ v, e = .returned v ∧ FigsOwn W.heap.size w' (L.map fig0) v ∧ Below W.heap.size W w') := fun L g W h1 h2 => figures_any L h1 g W h2
  have m1 := mask8 (a / 65536) (by omega) (by omega)
  have m2 := mask8 (a / 256) (by omega) (by omega)
  have m3 := mask8 a h0 h1
  have e1 : wrap64 (bits .and .u32 (a / 65536) 255) = a / 65536 % 256 := by rw [m1]; unfold wrap64; omega
  have e2 : wrap64 (bits .and .u32 (a / 256) 255) = a / 256 % 256 := by rw [m2]; unfold wrap64; omega
  have e3 : wrap64 (bits .and .u32 a 255) = a % 256 := by rw [m3]; unfold wrap64; omega
  unfold addrC7
  obtain ⟨x1, hx1⟩ : ∃ x, x = a / 16777216 := ⟨_, rfl⟩
  obtain ⟨x2, hx2⟩ : ∃ x, x = a / 65536 % 256 := ⟨_, rfl⟩
  obtain ⟨x3, hx3⟩ : ∃ x, x = a / 256 % 256 := ⟨_, rfl⟩
  obtain ⟨x4, hx4⟩ : ∃ x, x = a % 256 := ⟨_, rfl⟩
  rw [← hx2] at e1
  rw [← hx3] at e2
  rw [← hx4] at e3
  rw [← hx1, ← hx2, ← hx3, ← hx4]
  have X1 : a / 16777216 = x1 := hx1.symm
  clear m1 m2 m3 hx1 hx2 hx3 hx4
  have K0 : Hid (((w.alloc (.cells ClaE.zero 76)).alloc (.cells (intsV [x1, x2, x3, x4, b]) 3)).heap[w.heap.size]? = some (.cells ClaE.zero 76 (0, 0))) := heap_past _ _ _ _ (heap_new _ _ _ rfl)
  have K1 : Hid (((w.alloc (.cells ClaE.zero 76)).alloc (.cells (intsV [x1, x2, x3, x4, b]) 3)).heap[w.heap.size + 1]? = some (.cells (intsV [x1, x2, x3, x4, b]) 3 (0, 0))) := heap_new _ _ _ (by simp)
  have B2 : Hid (Below w.heap.size w ((w.alloc (.cells ClaE.zero 76)).alloc (.cells (intsV [x1, x2, x3, x4, b]) 3))) := below2 _ _ _
  have HS : Hid (w.heap.size + 1 < ((w.alloc (.cells ClaE.zero 76)).alloc (.cells (intsV [x1, x2, x3, x4, b]) 3)).heap.size) := (Array.getElem?_eq_some_iff.1 K1.out).1
  go_enter Tryd.func30, Tryd.ntmps30
  go_wp2_with fail
  refine (FG.out [x1, x2, x3, x4, b] _ _ (by simp) K1.out).mono ?_
  rintro e w1 ⟨v, rfl, ho1, hb1⟩
  obtain ⟨o, n, m, rfl⟩ := figs_sl8 ho1
  have K2 : Hid (w1.heap[w.heap.size]? = some (.cells ClaE.zero 76 (0, 0))) := (hb1.block _ (by have := HS.out; omega)).trans K0.out
  have B3 : Hid (Below w.heap.size w w1) := B2.out.trans (hb1.mono B2.out.size)
  have HO : Hid (FigsOwn (w.heap.size + 1) w1 ([x1, x2, x3, x4, b].map fig0) (.slice o n m)) := gown_base ho1 (by have := HS.out; omega)
  clear ho1 hb1
  go_wp2_with (first
    | (refine wl_storeE (E := ClaE) ClaOk rfl _ _ rfl w.heap.size (claV ⟨t, 0, [fig0 x1, fig0 x2, fig0 x3, fig0 x4, fig0 b], true, false⟩ (.slice o n m)) ⟨rfl, by simp [claV, Value.oneCell']⟩ rfl rfl _ K2.out rfl _ rfl ?_))
  refine retE (E := ClaE) ClaOk rfl rfl w.heap.size rfl (claV ⟨t, 0, [fig0 x1, fig0 x2, fig0 x3, fig0 x4, fig0 b], true, false⟩ (.slice o n m)) rfl (setRow_heap _ _ _ _ _ _ K2.out) ?_
  exact ⟨⟨_, rfl, gown_base (figs_setRow HO.out (Nat.lt_succ_self _)) (Nat.le_succ _), _, _, _, rfl⟩, below_setRow B3.out (Nat.le_refl _) _⟩
end Go.Proofs.YtbdbjbmjnemknaaDoor
namespace Go.Proofs.YtbdbjbmjnemknaaDoor
open Go Go.RowKit
set_option maxRecDepth 20000

/-- As InvR, with a word on the world that turns when operation m has come up. -/
structure InvM (ops : Array Oper) (V : Nat → Value → World → Prop) (D : List Nat) (I : Bool → World → Prop) (m : Nat) (a0 : Act) (listed : Array Bool) (a : Act) (w : World) : Prop where
  wld : I (listed.getD m false) w
  size : a.tmps.size = a0.tmps.size
  defers : a.defers = a0.defers
  other : ∀ d, d ∉ D → a.eval (.tmp d) = a0.eval (.tmp d)
  has : ∀ j o d, ops[j]? = some o → o.dst = some d → listed.getD j false = true → V j (a.eval (.tmp d)) w
/-- What an operation finds when it comes up. -/
structure AtM (ops : Array Oper) (V : Nat → Value → World → Prop) (D : List Nat) (I : Bool → World → Prop) (b : Bool) (a0 : Act) (o : Oper) (a : Act) (w : World) : Prop where
  wld : I b w
  size : a.tmps.size = a0.tmps.size
  defers : a.defers = a0.defers
  other : ∀ d, d ∉ D → a.eval (.tmp d) = a0.eval (.tmp d)
  has : ∀ e ∈ o.after, Region.binds .any e = true → ∀ oj d, ops[e.on]? = some oj → oj.dst = some d → V e.on (a.eval (.tmp d)) w
/-- A drawn region whose last operation waits for all others, one of which (m) may change what lies in memory, while all others make memory at most. -/
theorem region_mid {P : Program} {id : Nat} {Q : Exit → Act → World → Prop} {a0 : Act} {w0 : World} {lo : List Oper} (n m : Nat) (V : Nat → Value → World → Prop) (I : Bool → World → Prop) (D : List Nat) (hm : P.follows .mixedOrders = true) (hmn : m < n)
    (hn : lo.length = n + 1) (hD : (lo.filterMap (·.dst)) = D) (hnd : D.Nodup) (hsz : ∀ d ∈ D, d < a0.tmps.size) (hdag : (lo.zipIdx.all fun x => x.1.after.all fun e => decide (e.on < x.2)) = true)
    (hlast : (lo[n]?).map (fun o => (List.range n).all fun j => o.after.any fun e => e.on == j && Region.binds .any e) = some true)
    (hV : ∀ j v w w', V j v w → Below w.heap.size w w' → V j v w') (hI : ∀ b w w', I b w → Below w.heap.size w w' → I b w') (hI0 : I false w0.drew)
    (hop : ∀ i o, lo[i]? = some o → i < n → i ≠ m → ∀ b a w, AtM lo.toArray V D I b a0 o a w → wpOp P lo.toArray Q i (fun a' w' => ∃ v, a' = a.put o.dst v ∧ Below w.heap.size w w' ∧ ∀ d, o.dst = some d → V i v w') a w)
    (hmid : ∀ o, lo[m]? = some o → ∀ a w, AtM lo.toArray V D I false a0 o a w → wpOp P lo.toArray Q m (fun a' w' => ∃ v, a' = a.put o.dst v ∧ I true w' ∧ (∀ j u, j ≠ m → V j u w → V j u w') ∧ ∀ d, o.dst = some d → V m v w') a w)
    (hend : ∀ a w, I true w → a.tmps.size = a0.tmps.size → a.defers = a0.defers → (∀ d, d ∉ D → a.eval (.tmp d) = a0.eval (.tmp d)) → (∀ j o d, j < n → lo[j]? = some o → o.dst = some d → V j (a.eval (.tmp d)) w) → wpOp P lo.toArray Q n (fun a' w' => Q .normal a' w') a w) : (Code.region id lo.toArray true).wp P Q a0 w0 := by
  refine wp_region_any hm ?_
  have hdag' : ∀ (i : Nat) (o : Oper), lo.toArray[i]? = some o → ∀ e ∈ o.after, e.on < i := fun i o ho e he => by
    rw [List.all_eq_true] at hdag
    have ho' : lo[i]? = some o := by simpa using ho
    obtain ⟨hi, rfl⟩ := List.getElem?_eq_some_iff.1 ho'
    have := hdag (lo[i], i) (List.mem_zipIdx_iff_getElem?.2 (List.getElem?_eq_getElem hi))
    simp only [Array.all_eq_true_iff_forall_mem] at this
    simpa using this e he
  have hnd' := hnd
  have hDa : (lo.toArray.toList.filterMap (·.dst)) = D := by simpa using hD
  have inD : ∀ (i : Nat) (o : Oper) (d : Nat), lo.toArray[i]? = some o → o.dst = some d → d ∈ D := fun i o d ho hd => by
    rw [← hD, List.mem_filterMap]
    exact ⟨o, List.mem_of_getElem? (by simpa using ho), hd⟩
  have key : ∀ (f : Nat) (listed : Array Bool) (a : Act) (w : World), listed.toList.count false = f → listed.size = n + 1 → listed.getD n true = false → InvM lo.toArray V D I m a0 listed a w → wpAny P .any lo.toArray Q f listed a w := by
    intro f
    induction f with
    | zero =>
      intro listed a w hc hs hln inv
      exfalso
      have : false ∈ listed.toList := by
        rw [Array.getD_eq_getD_getElem?, Array.getElem?_eq_getElem (by omega)] at hln
        have h3 : listed[n]'(by omega) = false := by simpa using hln
        rw [← h3]; exact Array.mem_toList_iff.2 (Array.getElem_mem (by omega))
      have := List.count_pos_iff.2 this
      omega
    | succ f ih =>
      intro listed a w hc hs hln inv
      refine ⟨fun hr => absurd hr (ready_some (by simpa [hn] using hs) hdag' n hln), fun i hi => ?_⟩
      obtain ⟨hiu, o, ho, hdeps⟩ := mem_ready.1 hi
      have hil : i < listed.size := by
        rw [Array.getD_eq_getD_getElem?] at hiu
        rcases Nat.lt_or_ge i listed.size with h1 | h1
        · exact h1
        · rw [Array.getElem?_eq_none h1] at hiu; simp at hiu
      have hcnt := falses_set listed i hiu
      by_cases hin : i = n
      · subst hin
        have hol : lo[i]? = some o := by simpa using ho
        have hall : ∀ j, j < i → listed.getD j false = true := fun j hj => by
          rw [hol] at hlast
          simp only [Option.map_some, Option.some.injEq, List.all_eq_true, List.mem_range] at hlast
          have := hlast j hj
          rw [Array.any_eq_true'] at this
          obtain ⟨e, he, hb⟩ := this
          simp only [Bool.and_eq_true, beq_iff_eq] at hb
          rw [← hb.1]
          exact hdeps e he hb.2
        refine wpOp_mono (fun a' w' hQ => ?_) (hend a w (by have := inv.wld; rwa [hall m hmn] at this) inv.size inv.defers inv.other (fun j oj d hj hoj hd => inv.has j oj d (by simpa using hoj) hd (hall j hj)))
        have h0 : (listed.setIfInBounds i true).toList.count false = 0 := by
          rw [List.count_eq_zero]
          intro hmem
          obtain ⟨j, hj, hje⟩ := List.mem_iff_getElem.1 hmem
          rw [Array.getElem_toList] at hje
          have hj' : j < listed.size := by simpa using hj
          by_cases hji : i = j
          · subst hji
            rw [Array.getElem_setIfInBounds_self] at hje
            simp at hje
          · rw [Array.getElem_setIfInBounds_ne hj' hji] at hje
            have := hall j (by omega)
            rw [Array.getD_eq_getD_getElem?, Array.getElem?_eq_getElem hj'] at this
            simp [hje] at this
        obtain rfl : f = 0 := by omega
        exact ⟨ready_none h0, hQ⟩
      · have hlt : i < n := by omega
        have hol : lo[i]? = some o := by simpa using ho
        by_cases him : i = m
        · subst him
          have hno : listed.getD i false = false := getD_tf hiu
          refine wpOp_mono (fun a' w' hK => ?_) (hmid o hol a w ⟨by have := inv.wld; rwa [hno] at this, inv.size, inv.defers, inv.other, fun e he hb oj d hoj hd => inv.has e.on oj d hoj hd (hdeps e he hb)⟩)
          obtain ⟨v, rfl, hIw, hst, hv⟩ := hK
          have hset : (listed.setIfInBounds i true).getD i false = true := by
            rw [Array.getD_eq_getD_getElem?, Array.getElem?_setIfInBounds_self_of_lt hil]; rfl
          refine ih _ _ _ (by omega) (by simpa using hs) (by rw [getD_set_ne' hin]; exact hln) ⟨by rw [hset]; exact hIw, by rw [size_put]; exact inv.size, ?_, fun d hd => ?_, fun j oj d hoj hd hlj => ?_⟩
          · have : (a.put o.dst v).defers = a.defers := by cases o.dst <;> rfl
            rw [this]; exact inv.defers
          · cases hdo : o.dst with
            | none => exact inv.other d hd
            | some k =>
              rw [eval_put _ _ _ _ (by rw [inv.size]; exact hsz k (inD i o k ho hdo)), if_neg (fun h : d = k => hd (by rw [h]; exact inD i o k ho hdo))]
              exact inv.other d hd
          · by_cases hji : j = i
            · subst hji
              obtain rfl : oj = o := Option.some.inj (hoj.symm.trans ho)
              rw [hd, eval_put _ _ _ _ (by rw [inv.size]; exact hsz d (inD j oj d ho hd)), if_pos rfl]
              exact hv d hd
            · rw [getD_set_ne' (Ne.symm hji)] at hlj
              have h1 := hst _ _ hji (inv.has j oj d hoj hd hlj)
              cases hdo : o.dst with
              | none => exact h1
              | some k =>
                have hkd : ¬ d = k := fun h => hji (dst_apart hDa hnd' hoj ho hd (by rw [h]; exact hdo))
                rw [eval_put _ _ _ _ (by rw [inv.size]; exact hsz k (inD i o k ho hdo)), if_neg hkd]
                exact h1
        · refine wpOp_mono (fun a' w' hK => ?_) (hop i o hol hlt him (listed.getD m false) a w ⟨inv.wld, inv.size, inv.defers, inv.other, fun e he hb oj d hoj hd => inv.has e.on oj d hoj hd (hdeps e he hb)⟩)
          obtain ⟨v, rfl, hbw, hv⟩ := hK
          refine ih _ _ _ (by omega) (by simpa using hs) (by rw [getD_set_ne' hin]; exact hln) ⟨by rw [getD_set_ne' him]; exact hI _ _ _ inv.wld hbw, by rw [size_put]; exact inv.size, ?_, fun d hd => ?_, fun j oj d hoj hd hlj => ?_⟩
          · have : (a.put o.dst v).defers = a.defers := by cases o.dst <;> rfl
            rw [this]; exact inv.defers
          · cases hdo : o.dst with
            | none => exact inv.other d hd
            | some k =>
              rw [eval_put _ _ _ _ (by rw [inv.size]; exact hsz k (inD i o k ho hdo)), if_neg (fun h : d = k => hd (by rw [h]; exact inD i o k ho hdo))]
              exact inv.other d hd
          · by_cases hji : j = i
            · subst hji
              obtain rfl : oj = o := Option.some.inj (hoj.symm.trans ho)
              rw [hd, eval_put _ _ _ _ (by rw [inv.size]; exact hsz d (inD j oj d ho hd)), if_pos rfl]
              exact hv d hd
            · rw [getD_set_ne' (Ne.symm hji)] at hlj
              have h1 := (fun h => hV _ _ _ _ h hbw) (inv.has j oj d hoj hd hlj)
              cases hdo : o.dst with
              | none => exact h1
              | some k =>
                have hkd : ¬ d = k := fun h => hji (dst_apart hDa hnd' hoj ho hd (by rw [h]; exact hdo))
                rw [eval_put _ _ _ _ (by rw [inv.size]; exact hsz k (inD i o k ho hdo)), if_neg hkd]
                exact h1
  have hrep : (Array.replicate lo.toArray.size false).toList.count false = lo.toArray.size := by simp
  refine key _ _ _ _ hrep (by simp [hn]) ?_ ⟨?_, rfl, rfl, fun _ _ => rfl, fun j o d _ _ hl => ?_⟩
  · rw [Array.getD_eq_getD_getElem?, Array.getElem?_eq_getElem (by simp [hn])]
    simp
  · rw [Array.getD_eq_getD_getElem?, Array.getElem?_eq_getElem (by simp [hn]; omega)]
    simpa using hI0
  · exfalso
    rw [Array.getD_eq_getD_getElem?] at hl
    rcases Nat.lt_or_ge j (Array.replicate lo.toArray.size false).size with h1 | h1
    · rw [Array.getElem?_eq_getElem h1] at hl; simp at hl
    · rw [Array.getElem?_eq_none h1] at hl; simp at hl
end Go.Proofs.YtbdbjbmjnemknaaDoor
namespace Go.Proofs.YtbdbjbmjnemknaaDoor
open Go Go.RowKit
set_option maxRecDepth 20000

theorem info3_8 : ∃ i, Tryd.prog.info? 3 = some i ∧ i.zero = some (.int .i64 0) ∧ i.size = 1 := by
  cases h : Tryd.prog.info? 3 with
  | none => exact absurd (show (Tryd.prog.info? 3).isSome = true by kernel_rfl) (by rw [h]; simp)
  | some i =>
    have h1 : (Tryd.prog.info? 3).map (fun i => (i.zero, i.size)) = some (some (.int .i64 0), 1) := by kernel_rfl
    rw [h] at h1
    simp only [Option.map_some, Option.some.injEq, Prod.mk.injEq] at h1
    exact ⟨i, rfl, h1.1, h1.2⟩
def claP2 (q : Cla × Value) : Array Value := claV q.1 q.2
/-- A row of clauses, and each one's figures, one's own. -/
def RowW (B : Nat) (w : World) (v : Value) (P : List (Cla × Value)) : Prop := w.ownsRow B 76 5 v P.length (gcells claP2 P) ∧ ∀ q ∈ P, FigsOwn B w q.1.nums q.2
/-- What stays through such a region. -/
structure KeptW (B p1 p3 : Nat) (x : Ent) (cs : Array Value) (P : List (Cla × Value)) (w0 w : World) : Prop where
  below : Below B w0 w
  ent : w.heap[p1]? = some (.cells (entV x) 45 (0, 0))
  raw : w.heap[p3]? = some (.cells cs 55 (0, 0))
  figs : ∀ q ∈ P, FigsOwn B w q.1.nums q.2
theorem KeptW.stays {B p1 p3 : Nat} {x : Ent} {cs : Array Value} {P : List (Cla × Value)} {w0 w w' : World} (hB : B ≤ w0.heap.size) (h : KeptW B p1 p3 x cs P w0 w) (hb : Below w.heap.size w w') : KeptW B p1 p3 x cs P w0 w' :=
  ⟨h.below.trans (hb.mono (Nat.le_trans hB h.below.size)), (hb.block _ (Array.getElem?_eq_some_iff.1 h.ent).1).trans h.ent, (hb.block _ (Array.getElem?_eq_some_iff.1 h.raw).1).trans h.raw, fun q hq => gown_below (h.figs q hq) hb⟩
theorem load_u32 (W : World) (ad : Addr) (n : Int) (h : W.cell? ad = some (.int .u32 n)) : (Instr.loadAt 43 (.pointer (some ad))).run Tryd.prog W = .ok (.int .u32 n) W := by
  simp [go_sem, h]
theorem row_apart {w : World} {B : Nat} {v : Value} {P : List (Cla × Value)} (h : w.ownsRow B 76 5 v P.length (gcells claP2 P)) {p : Nat} {cs : Array Value} {t : TypeId} (hp : w.heap[p]? = some (.cells cs t (0, 0))) (ht : t ≠ 76) : v.ownBlock ≠ some p := fun hq => by
  obtain ⟨_, ⟨rfl, _⟩ | ⟨g', cap, cur, rfl, _, h2, _⟩⟩ := h
  · simp [Value.ownBlock] at hq
  · simp only [Value.ownBlock, Option.some.injEq] at hq
    subst hq
    rw [hp] at h2
    simp at h2
    exact ht h2.2

def wr6_ops : List Oper := [
  { dst := some 28, op := .fieldAddr 55 (.tmp 3) 3, type := 0, pos := "print.go:27", after := #[], guard := none },
  { dst := some 29, op := .load 53 (.tmp 28), type := 53, pos := "print.go:27", after := #[{ on := 0, ground := .data }], guard := none },
  { dst := some 30, op := .fieldAddr 45 (.tmp 1) 2, type := 0, pos := "print.go:27", after := #[], guard := none },
  { dst := some 31, op := .load 43 (.tmp 30), type := 43, pos := "print.go:27", after := #[{ on := 2, ground := .data }], guard := none },
  { dst := some 32, op := .fieldAddr 45 (.tmp 1) 3, type := 0, pos := "print.go:27", after := #[], guard := none },
  { dst := some 33, op := .load 3 (.tmp 32), type := 3, pos := "print.go:27", after := #[{ on := 4, ground := .data }], guard := none },
  { dst := some 34, op := .call { callee := .value (.func 30), args := #[.const (.string { data := #[115, 114, 99] }), .tmp 31, .tmp 33], argTypes := #[9, 43, 3] }, type := 76, pos := "print.go:27", after := #[{ on := 3, ground := .data }, { on := 5, ground := .data }], guard := none },
  { dst := some 35, op := .buildSlice 53 1 #[(0, .tmp 34)], type := 53, pos := "print.go:27", after := #[{ on := 6, ground := .data }], guard := none },
  { dst := some 36, op := .call { callee := .builtin .append, args := #[.tmp 29, .tmp 35], argTypes := #[53, 53] }, type := 53, pos := "print.go:27", after := #[{ on := 1, ground := .data }, { on := 7, ground := .data }, { on := 6, ground := .chain }], guard := none },
  { dst := some 37, op := .fieldAddr 55 (.tmp 3) 3, type := 0, pos := "print.go:27", after := #[{ on := 0, ground := .phase }, { on := 1, ground := .phase }, { on := 2, ground := .phase }, { on := 3, ground := .phase }, { on := 4, ground := .phase }, { on := 5, ground := .phase }, { on := 6, ground := .phase }, { on := 7, ground := .phase }, { on := 8, ground := .phase }], guard := none },
  { dst := none, op := .store 53 (.tmp 37) (.tmp 36), type := 0, pos := "print.go:27", after := #[{ on := 9, ground := .data }, { on := 8, ground := .data }, { on := 8, ground := .chain }, { on := 0, ground := .phase }, { on := 1, ground := .phase }, { on := 2, ground := .phase }, { on := 3, ground := .phase }, { on := 4, ground := .phase }, { on := 5, ground := .phase }, { on := 6, ground := .phase }, { on := 7, ground := .phase }, { on := 8, ground := .phase }], guard := none }]
def wr6_D : List Nat := [28, 29, 30, 31, 32, 33, 34, 35, 36, 37]
def wr6_V (p1 p3 B H : Nat) (x : Ent) (vv : Value) (P : List (Cla × Value)) (i : Nat) (v : Value) (w : World) : Prop :=
  match i with
  | 0 => v = .pointer (some ⟨p3, 4, none⟩)
  | 1 => v = vv
  | 2 => v = .pointer (some ⟨p1, 2, none⟩)
  | 3 => v = .int .u32 x.src
  | 4 => v = .pointer (some ⟨p1, 3, none⟩)
  | 5 => v = .int .i64 x.srcBits
  | 6 => ∃ u, v = .agg (claV (addrC7 wSrc x.src x.srcBits) u) ∧ FigsOwn B w (addrC7 wSrc x.src x.srcBits).nums u ∧ ∃ o n m, u = .slice o n m
  | 7 => ∃ u g, v = .slice (some ⟨g, 0, none⟩) 1 1 ∧ H ≤ g ∧ w.heap[g]? = some (.cells (claV (addrC7 wSrc x.src x.srcBits) u) 76 (0, 0)) ∧ FigsOwn B w (addrC7 wSrc x.src x.srcBits).nums u ∧ ∃ o n m, u = .slice o n m
  | 8 => ∃ u, w.ownsRow B 76 5 v (P ++ [((addrC7 wSrc x.src x.srcBits), u)]).length (gcells claP2 (P ++ [((addrC7 wSrc x.src x.srcBits), u)])) ∧ FigsOwn B w (addrC7 wSrc x.src x.srcBits).nums u
  | 9 => v = .pointer (some ⟨p3, 4, none⟩)
  | _ => True
theorem wr6_mono (p1 p3 B H : Nat) (x : Ent) (vv : Value) (P : List (Cla × Value)) : ∀ j v w w', wr6_V p1 p3 B H x vv P j v w → Below w.heap.size w w' → wr6_V p1 p3 B H x vv P j v w' := by
  intro j v w w' h hb
  revert h
  unfold wr6_V
  split <;> intro h <;> first
    | exact h
    | (obtain ⟨u, h1, h2, h3⟩ := h
       exact ⟨u, h1, gown_below h2 hb, h3⟩)
    | (obtain ⟨u, g, h1, h2, h3, h4, h5⟩ := h
       exact ⟨u, g, h1, h2, (hb.block g (Array.getElem?_eq_some_iff.1 h3).1).trans h3, gown_below h4 hb, h5⟩)
    | (obtain ⟨u, h1, h2⟩ := h
       exact ⟨u, gown_below h1 hb, gown_below h2 hb⟩)

set_option maxHeartbeats 4000000 in
theorem wr6_region {id : Nat} {Q : Exit → Act → World → Prop} {a0 : Act} {w0 : World} (hs : 106 ≤ a0.tmps.size) (p1 p3 B : Nat) (x : Ent) (hx : ent32 x) (vv : Value) (cs : Array Value) (P : List (Cla × Value)) (h1 : a0.eval (.tmp 1) = .pointer (some ⟨p1, 0, none⟩)) (h3 : a0.eval (.tmp 3) = .pointer (some ⟨p3, 0, none⟩))
    (hp1 : w0.heap[p1]? = some (.cells (entV x) 45 (0, 0))) (hp3 : w0.heap[p3]? = some (.cells cs 55 (0, 0))) (hcs : cs[4]? = some vv) (hB : B ≤ w0.heap.size) (hrow : RowW B w0 vv P) (hlen : P.length ≤ 100000)
    (hK : ∀ y w' v' u, KeptW B p1 p3 x cs P w0 w' → w'.ownsRow B 76 5 v' (P ++ [((addrC7 wSrc x.src x.srcBits), u)]).length (gcells claP2 (P ++ [((addrC7 wSrc x.src x.srcBits), u)])) → FigsOwn B w' (addrC7 wSrc x.src x.srcBits).nums u → Q .normal (putsD wr6_D y a0) (w'.setCell ⟨p3, 4, none⟩ v')) : (Code.region id wr6_ops.toArray true).wp Tryd.prog Q a0 w0 := by
  have hDs : ∀ d ∈ wr6_D, d < a0.tmps.size := fun d hd => by
    have : d < 106 := by
      revert hd; unfold wr6_D; intro hd
      simp only [List.mem_cons, List.not_mem_nil, or_false] at hd
      omega
    omega
  have fr : ∀ W, (Instr.fieldAt 55 (.pointer (some ⟨p3, 0, none⟩)) 3).run Tryd.prog W = .ok (.pointer (some ⟨p3, 4, none⟩)) W := fun W => by simp [go_sem]
  have fe1 : ∀ W, (Instr.fieldAt 45 (.pointer (some ⟨p1, 0, none⟩)) 2).run Tryd.prog W = .ok (.pointer (some ⟨p1, 2, none⟩)) W := fun W => by simp [go_sem]
  have fe2 : ∀ W, (Instr.fieldAt 45 (.pointer (some ⟨p1, 0, none⟩)) 3).run Tryd.prog W = .ok (.pointer (some ⟨p1, 3, none⟩)) W := fun W => by simp [go_sem]
  have cf : ∀ vs W, (callFunc 30 vs).run Tryd.prog W = .ok (.enter 30 vs) W := fun vs W => by have hf := Tryd.func30; simp [go_sem]
  have K0 : KeptW B p1 p3 x cs P w0 w0 := ⟨Below.refl _ _, hp1, hp3, hrow.2⟩
  have frm : ∀ (b : Bool) (w : World), (if b then KeptW B p1 p3 x cs P w0 w else Below w0.heap.size w0 w) → KeptW B p1 p3 x cs P w0 w := fun b w h => by
    cases b with
    | true => exact h
    | false => exact K0.stays hB h
  refine region_mid 10 8 (wr6_V p1 p3 B w0.heap.size x vv P) (fun b w => if b then KeptW B p1 p3 x cs P w0 w else Below w0.heap.size w0 w) wr6_D (by kernel_rfl) (by decide) rfl (by kernel_rfl) (by decide) hDs (by kernel_rfl) (by kernel_rfl) (wr6_mono p1 p3 B w0.heap.size x vv P) ?_ ?_ ?_ ?_ ?_
  · intro b w w' h hb
    cases b with
    | true => exact KeptW.stays hB h hb
    | false => exact Below.trans h (hb.mono (Below.size h))
  · exact (Below.refl _ _).drew
  · intro i o ho hi him b a w h
    have kw := frm b w h.wld
    have e1 : a.eval (.tmp 1) = .pointer (some ⟨p1, 0, none⟩) := (h.other 1 (by decide)).trans h1
    have e3 : a.eval (.tmp 3) = .pointer (some ⟨p3, 0, none⟩) := (h.other 3 (by decide)).trans h3
    have c3 : w.cell? ⟨p3, 4, none⟩ = some vv := by rw [cell_of_row _ _ _ _ _ _ kw.raw]; exact hcs
    have cv1 : w.cell? ⟨p1, 2, none⟩ = some (.int .u32 x.src) := by rw [cell_of_row _ _ _ _ _ _ kw.ent]; rfl
    have cv2 : w.cell? ⟨p1, 3, none⟩ = some (.int .i64 x.srcBits) := by rw [cell_of_row _ _ _ _ _ _ kw.ent]; rfl
    have kwsize : w0.heap.size ≤ w.heap.size := kw.below.size
    rcases (show i = 0 ∨ i = 1 ∨ i = 2 ∨ i = 3 ∨ i = 4 ∨ i = 5 ∨ i = 6 ∨ i = 7 ∨ i = 9 by omega) with rfl | rfl | rfl | rfl | rfl | rfl | rfl | rfl | rfl
    · obtain rfl := Option.some.inj ho
      exact iv_val rfl rfl _ (run_fieldOp rfl _ _ _ ((congrArg (fun y => (Instr.fieldAt 55 y 3).run Tryd.prog w) e3).trans (fr w))) rfl
    · obtain rfl := Option.some.inj ho
      have f0 : a.eval (.tmp 28) = .pointer (some ⟨p3, 4, none⟩) := h.has ⟨0, .data⟩ (by simp) rfl _ 28 rfl rfl
      exact iv_val rfl rfl _ (run_loadOp rfl _ _ _ _ f0 (load_cell (e := 76) Tryd.underlying53 _ _ _ c3)) rfl
    · obtain rfl := Option.some.inj ho
      exact iv_val rfl rfl _ (run_fieldOp rfl _ _ _ ((congrArg (fun y => (Instr.fieldAt 45 y 2).run Tryd.prog w) e1).trans (fe1 w))) rfl
    · obtain rfl := Option.some.inj ho
      have f0 : a.eval (.tmp 30) = .pointer (some ⟨p1, 2, none⟩) := h.has ⟨2, .data⟩ (by simp) rfl _ 30 rfl rfl
      exact iv_val rfl rfl _ (run_loadOp rfl _ _ _ _ f0 (load_u32 _ _ _ cv1)) rfl
    · obtain rfl := Option.some.inj ho
      exact iv_val rfl rfl _ (run_fieldOp rfl _ _ _ ((congrArg (fun y => (Instr.fieldAt 45 y 3).run Tryd.prog w) e1).trans (fe2 w))) rfl
    · obtain rfl := Option.some.inj ho
      have f0 : a.eval (.tmp 32) = .pointer (some ⟨p1, 3, none⟩) := h.has ⟨4, .data⟩ (by simp) rfl _ 32 rfl rfl
      exact iv_val rfl rfl _ (run_loadOp rfl _ _ _ _ f0 (load_int _ _ _ cv2)) rfl
    · obtain rfl := Option.some.inj ho
      have g1 : a.eval (.tmp 31) = .int .u32 x.src := h.has ⟨3, .data⟩ (by simp) rfl _ 31 rfl rfl
      have g2 : a.eval (.tmp 33) = .int .i64 x.srcBits := h.has ⟨5, .data⟩ (by simp) rfl _ 33 rfl rfl
      refine iv_call rfl rfl 30 #[.string ⟨(wSrc).toArray⟩, .int .u32 x.src, .int .i64 x.srcBits] (run_callOps rfl cf _ _ _ (by simp only [List.map_toArray, List.map_cons, List.map_nil, g1, g2]; rfl)) ((prefixClause_any wSrc x.src x.srcBits hx.1.1 hx.1.2 w).mono fun e w' h => ?_)
      obtain ⟨⟨u, r1, r2, r3⟩, r4⟩ := h
      exact ⟨_, r1, r4, u, rfl, gown_base r2 (Nat.le_trans hB kwsize), r3⟩
    · obtain rfl := Option.some.inj ho
      obtain ⟨u, g1, g2, g3⟩ : ∃ u, a.eval (.tmp 34) = .agg (claV (addrC7 wSrc x.src x.srcBits) u) ∧ FigsOwn B w (addrC7 wSrc x.src x.srcBits).nums u ∧ ∃ o n m, u = .slice o n m := h.has ⟨6, .data⟩ (by simp) rfl _ 34 rfl rfl
      refine iv_list rfl ?_
      refine wl_buildE (E := ClaE) ClaOk rfl _ rfl (claV (addrC7 wSrc x.src x.srcBits) u) rfl g1 ?_
      exact ⟨_, rfl, (Below.refl _ _).alloc (Nat.le_refl _) _, fun _ _ => ⟨u, _, rfl, kwsize, heap_new _ _ _ rfl, gown_below g2 ((Below.refl _ _).alloc (Nat.le_refl _) _), g3⟩⟩
    · obtain rfl := Option.some.inj ho
      exact iv_val rfl rfl _ (run_fieldOp rfl _ _ _ ((congrArg (fun y => (Instr.fieldAt 55 y 3).run Tryd.prog w) e3).trans (fr w))) rfl
  · intro o ho a w h
    obtain rfl := Option.some.inj ho
    have hb : Below w0.heap.size w0 w := h.wld
    have kw := frm false w hb
    have g1 : a.eval (.tmp 29) = vv := h.has ⟨1, .data⟩ (by simp) rfl _ 29 rfl rfl
    obtain ⟨u, g, g2, g3, g4, g5, g6⟩ : ∃ u g, a.eval (.tmp 35) = .slice (some ⟨g, 0, none⟩) 1 1 ∧ w0.heap.size ≤ g ∧ w.heap[g]? = some (.cells (claV (addrC7 wSrc x.src x.srcBits) u) 76 (0, 0)) ∧ FigsOwn B w (addrC7 wSrc x.src x.srcBits).nums u ∧ ∃ o n m, u = .slice o n m := h.has ⟨7, .data⟩ (by simp) rfl _ 35 rfl rfl
    have hown : w.ownsRow B 76 5 vv P.length (gcells claP2 P) := gown_below hrow.1 hb
    refine wpOp_of_list rfl ?_
    refine wl_appendE (E := ClaE) ClaOk claP2 rfl _ _ rfl B vv P ((addrC7 wSrc x.src x.srcBits), u) (cla_fits _ _ g6) g1 hown g 1 g2 g4 (by omega) (Nat.le_trans hB hb.size) ?_
    intro v' w3 hown3 hgr3 _
    have ap : ∀ (F : List Fig) (z : Value), FigsOwn B w F z → FigsOwn B w3 F z := fun F z hz => own_grown hgr3 hz (fun k hk => own_apart hown hz (by decide) k hk)
    have k3 : KeptW B p1 p3 x cs P w0 w3 := ⟨kw.below.trans ((Below.refl _ _).grown hgr3 (Nat.le_trans hB hb.size) fun k hk => (hown.lt k hk).1), (hgr3.block p1 (Array.getElem?_eq_some_iff.1 kw.ent).1 (fun hq => row_apart hown kw.ent (by decide) hq.symm)).trans kw.ent, (hgr3.block p3 (Array.getElem?_eq_some_iff.1 kw.raw).1 (fun hq => row_apart hown kw.raw (by decide) hq.symm)).trans kw.raw, fun q hq => ap _ _ (kw.figs q hq)⟩
    refine ⟨v', rfl, k3, ?_, fun _ _ => ⟨u, hown3, ap _ _ g5⟩⟩
    intro j z hj
    unfold wr6_V
    split <;> intro hz <;> first
      | exact hz
      | exact absurd rfl hj
      | (obtain ⟨u, q1, q2, q3⟩ := hz
         exact ⟨u, q1, ap _ _ q2, q3⟩)
      | (obtain ⟨u, k, q1, q2, q3, q4, q5⟩ := hz
         exact ⟨u, k, q1, q2, (hgr3.block k (Array.getElem?_eq_some_iff.1 q3).1 (fun hq => by have := (hrow.1.lt k hq.symm).2; omega)).trans q3, ap _ _ q4, q5⟩)
  · intro a w hI hsz hdf hot hh
    have kw : KeptW B p1 p3 x cs P w0 w := hI
    have hv8 : wr6_V p1 p3 B w0.heap.size x vv P 8 (a.eval (.tmp 36)) w := hh 8 _ 36 (by decide) rfl rfl
    obtain ⟨u, q1, q2⟩ := hv8
    have q3 : a.eval (.tmp 37) = .pointer (some ⟨p3, 4, none⟩) := hh 9 _ 37 (by decide) rfl rfl
    obtain ⟨v', hv'⟩ : ∃ v', a.eval (.tmp 36) = v' := ⟨_, rfl⟩
    rw [hv'] at q1
    obtain ⟨o3, cap3, hv3⟩ := gown_slice q1
    have c3 : w.cell? ⟨p3, 4, none⟩ = some vv := by rw [cell_of_row _ _ _ _ _ _ kw.raw]; exact hcs
    have hst : (Instr.storeAt 53 (.pointer (some ⟨p3, 4, none⟩)) v').run Tryd.prog w = .ok () (w.setCell ⟨p3, 4, none⟩ v') := store_cell (ty := 53) (fun W => Tryd.sizeOf53 W) w ⟨p3, 4, none⟩ v' vv ⟨o3, _, cap3, hv3⟩ c3 (tc_frozen kw.raw rfl)
    refine wpOp_skip0 (w' := w.setCell ⟨p3, 4, none⟩ v') rfl rfl (run_storeOp rfl _ _ _ _ _ q3 hv' hst) rfl ?_
    show Q .normal a (w.setCell ⟨p3, 4, none⟩ v')
    rw [puts_form hsz hdf hot hDs]
    exact hK _ w v' u kw q1 q2

def wr8_ops : List Oper := [
  { dst := some 46, op := .fieldAddr 55 (.tmp 3) 3, type := 0, pos := "print.go:30", after := #[], guard := none },
  { dst := some 47, op := .load 53 (.tmp 46), type := 53, pos := "print.go:30", after := #[{ on := 0, ground := .data }], guard := none },
  { dst := some 48, op := .fieldAddr 45 (.tmp 1) 4, type := 0, pos := "print.go:30", after := #[], guard := none },
  { dst := some 49, op := .load 43 (.tmp 48), type := 43, pos := "print.go:30", after := #[{ on := 2, ground := .data }], guard := none },
  { dst := some 50, op := .fieldAddr 45 (.tmp 1) 5, type := 0, pos := "print.go:30", after := #[], guard := none },
  { dst := some 51, op := .load 3 (.tmp 50), type := 3, pos := "print.go:30", after := #[{ on := 4, ground := .data }], guard := none },
  { dst := some 52, op := .call { callee := .value (.func 30), args := #[.const (.string { data := #[100, 115, 116] }), .tmp 49, .tmp 51], argTypes := #[9, 43, 3] }, type := 76, pos := "print.go:30", after := #[{ on := 3, ground := .data }, { on := 5, ground := .data }], guard := none },
  { dst := some 53, op := .buildSlice 53 1 #[(0, .tmp 52)], type := 53, pos := "print.go:30", after := #[{ on := 6, ground := .data }], guard := none },
  { dst := some 54, op := .call { callee := .builtin .append, args := #[.tmp 47, .tmp 53], argTypes := #[53, 53] }, type := 53, pos := "print.go:30", after := #[{ on := 1, ground := .data }, { on := 7, ground := .data }, { on := 6, ground := .chain }], guard := none },
  { dst := some 55, op := .fieldAddr 55 (.tmp 3) 3, type := 0, pos := "print.go:30", after := #[{ on := 0, ground := .phase }, { on := 1, ground := .phase }, { on := 2, ground := .phase }, { on := 3, ground := .phase }, { on := 4, ground := .phase }, { on := 5, ground := .phase }, { on := 6, ground := .phase }, { on := 7, ground := .phase }, { on := 8, ground := .phase }], guard := none },
  { dst := none, op := .store 53 (.tmp 55) (.tmp 54), type := 0, pos := "print.go:30", after := #[{ on := 9, ground := .data }, { on := 8, ground := .data }, { on := 8, ground := .chain }, { on := 0, ground := .phase }, { on := 1, ground := .phase }, { on := 2, ground := .phase }, { on := 3, ground := .phase }, { on := 4, ground := .phase }, { on := 5, ground := .phase }, { on := 6, ground := .phase }, { on := 7, ground := .phase }, { on := 8, ground := .phase }], guard := none }]
def wr8_D : List Nat := [46, 47, 48, 49, 50, 51, 52, 53, 54, 55]
def wr8_V (p1 p3 B H : Nat) (x : Ent) (vv : Value) (P : List (Cla × Value)) (i : Nat) (v : Value) (w : World) : Prop :=
  match i with
  | 0 => v = .pointer (some ⟨p3, 4, none⟩)
  | 1 => v = vv
  | 2 => v = .pointer (some ⟨p1, 4, none⟩)
  | 3 => v = .int .u32 x.dst
  | 4 => v = .pointer (some ⟨p1, 5, none⟩)
  | 5 => v = .int .i64 x.dstBits
  | 6 => ∃ u, v = .agg (claV (addrC7 wDst x.dst x.dstBits) u) ∧ FigsOwn B w (addrC7 wDst x.dst x.dstBits).nums u ∧ ∃ o n m, u = .slice o n m
  | 7 => ∃ u g, v = .slice (some ⟨g, 0, none⟩) 1 1 ∧ H ≤ g ∧ w.heap[g]? = some (.cells (claV (addrC7 wDst x.dst x.dstBits) u) 76 (0, 0)) ∧ FigsOwn B w (addrC7 wDst x.dst x.dstBits).nums u ∧ ∃ o n m, u = .slice o n m
  | 8 => ∃ u, w.ownsRow B 76 5 v (P ++ [((addrC7 wDst x.dst x.dstBits), u)]).length (gcells claP2 (P ++ [((addrC7 wDst x.dst x.dstBits), u)])) ∧ FigsOwn B w (addrC7 wDst x.dst x.dstBits).nums u
  | 9 => v = .pointer (some ⟨p3, 4, none⟩)
  | _ => True
theorem wr8_mono (p1 p3 B H : Nat) (x : Ent) (vv : Value) (P : List (Cla × Value)) : ∀ j v w w', wr8_V p1 p3 B H x vv P j v w → Below w.heap.size w w' → wr8_V p1 p3 B H x vv P j v w' := by
  intro j v w w' h hb
  revert h
  unfold wr8_V
  split <;> intro h <;> first
    | exact h
    | (obtain ⟨u, h1, h2, h3⟩ := h
       exact ⟨u, h1, gown_below h2 hb, h3⟩)
    | (obtain ⟨u, g, h1, h2, h3, h4, h5⟩ := h
       exact ⟨u, g, h1, h2, (hb.block g (Array.getElem?_eq_some_iff.1 h3).1).trans h3, gown_below h4 hb, h5⟩)
    | (obtain ⟨u, h1, h2⟩ := h
       exact ⟨u, gown_below h1 hb, gown_below h2 hb⟩)

set_option maxHeartbeats 4000000 in
theorem wr8_region {id : Nat} {Q : Exit → Act → World → Prop} {a0 : Act} {w0 : World} (hs : 106 ≤ a0.tmps.size) (p1 p3 B : Nat) (x : Ent) (hx : ent32 x) (vv : Value) (cs : Array Value) (P : List (Cla × Value)) (h1 : a0.eval (.tmp 1) = .pointer (some ⟨p1, 0, none⟩)) (h3 : a0.eval (.tmp 3) = .pointer (some ⟨p3, 0, none⟩))
    (hp1 : w0.heap[p1]? = some (.cells (entV x) 45 (0, 0))) (hp3 : w0.heap[p3]? = some (.cells cs 55 (0, 0))) (hcs : cs[4]? = some vv) (hB : B ≤ w0.heap.size) (hrow : RowW B w0 vv P) (hlen : P.length ≤ 100000)
    (hK : ∀ y w' v' u, KeptW B p1 p3 x cs P w0 w' → w'.ownsRow B 76 5 v' (P ++ [((addrC7 wDst x.dst x.dstBits), u)]).length (gcells claP2 (P ++ [((addrC7 wDst x.dst x.dstBits), u)])) → FigsOwn B w' (addrC7 wDst x.dst x.dstBits).nums u → Q .normal (putsD wr8_D y a0) (w'.setCell ⟨p3, 4, none⟩ v')) : (Code.region id wr8_ops.toArray true).wp Tryd.prog Q a0 w0 := by
  have hDs : ∀ d ∈ wr8_D, d < a0.tmps.size := fun d hd => by
    have : d < 106 := by
      revert hd; unfold wr8_D; intro hd
      simp only [List.mem_cons, List.not_mem_nil, or_false] at hd
      omega
    omega
  have fr : ∀ W, (Instr.fieldAt 55 (.pointer (some ⟨p3, 0, none⟩)) 3).run Tryd.prog W = .ok (.pointer (some ⟨p3, 4, none⟩)) W := fun W => by simp [go_sem]
  have fe1 : ∀ W, (Instr.fieldAt 45 (.pointer (some ⟨p1, 0, none⟩)) 4).run Tryd.prog W = .ok (.pointer (some ⟨p1, 4, none⟩)) W := fun W => by simp [go_sem]
  have fe2 : ∀ W, (Instr.fieldAt 45 (.pointer (some ⟨p1, 0, none⟩)) 5).run Tryd.prog W = .ok (.pointer (some ⟨p1, 5, none⟩)) W := fun W => by simp [go_sem]
  have cf : ∀ vs W, (callFunc 30 vs).run Tryd.prog W = .ok (.enter 30 vs) W := fun vs W => by have hf := Tryd.func30; simp [go_sem]
  have K0 : KeptW B p1 p3 x cs P w0 w0 := ⟨Below.refl _ _, hp1, hp3, hrow.2⟩
  have frm : ∀ (b : Bool) (w : World), (if b then KeptW B p1 p3 x cs P w0 w else Below w0.heap.size w0 w) → KeptW B p1 p3 x cs P w0 w := fun b w h => by
    cases b with
    | true => exact h
    | false => exact K0.stays hB h
  refine region_mid 10 8 (wr8_V p1 p3 B w0.heap.size x vv P) (fun b w => if b then KeptW B p1 p3 x cs P w0 w else Below w0.heap.size w0 w) wr8_D (by kernel_rfl) (by decide) rfl (by kernel_rfl) (by decide) hDs (by kernel_rfl) (by kernel_rfl) (wr8_mono p1 p3 B w0.heap.size x vv P) ?_ ?_ ?_ ?_ ?_
  · intro b w w' h hb
    cases b with
    | true => exact KeptW.stays hB h hb
    | false => exact Below.trans h (hb.mono (Below.size h))
  · exact (Below.refl _ _).drew
  · intro i o ho hi him b a w h
    have kw := frm b w h.wld
    have e1 : a.eval (.tmp 1) = .pointer (some ⟨p1, 0, none⟩) := (h.other 1 (by decide)).trans h1
    have e3 : a.eval (.tmp 3) = .pointer (some ⟨p3, 0, none⟩) := (h.other 3 (by decide)).trans h3
    have c3 : w.cell? ⟨p3, 4, none⟩ = some vv := by rw [cell_of_row _ _ _ _ _ _ kw.raw]; exact hcs
    have cv1 : w.cell? ⟨p1, 4, none⟩ = some (.int .u32 x.dst) := by rw [cell_of_row _ _ _ _ _ _ kw.ent]; rfl
    have cv2 : w.cell? ⟨p1, 5, none⟩ = some (.int .i64 x.dstBits) := by rw [cell_of_row _ _ _ _ _ _ kw.ent]; rfl
    have kwsize : w0.heap.size ≤ w.heap.size := kw.below.size
    rcases (show i = 0 ∨ i = 1 ∨ i = 2 ∨ i = 3 ∨ i = 4 ∨ i = 5 ∨ i = 6 ∨ i = 7 ∨ i = 9 by omega) with rfl | rfl | rfl | rfl | rfl | rfl | rfl | rfl | rfl
    · obtain rfl := Option.some.inj ho
      exact iv_val rfl rfl _ (run_fieldOp rfl _ _ _ ((congrArg (fun y => (Instr.fieldAt 55 y 3).run Tryd.prog w) e3).trans (fr w))) rfl
    · obtain rfl := Option.some.inj ho
      have f0 : a.eval (.tmp 46) = .pointer (some ⟨p3, 4, none⟩) := h.has ⟨0, .data⟩ (by simp) rfl _ 46 rfl rfl
      exact iv_val rfl rfl _ (run_loadOp rfl _ _ _ _ f0 (load_cell (e := 76) Tryd.underlying53 _ _ _ c3)) rfl
    · obtain rfl := Option.some.inj ho
      exact iv_val rfl rfl _ (run_fieldOp rfl _ _ _ ((congrArg (fun y => (Instr.fieldAt 45 y 4).run Tryd.prog w) e1).trans (fe1 w))) rfl
    · obtain rfl := Option.some.inj ho
      have f0 : a.eval (.tmp 48) = .pointer (some ⟨p1, 4, none⟩) := h.has ⟨2, .data⟩ (by simp) rfl _ 48 rfl rfl
      exact iv_val rfl rfl _ (run_loadOp rfl _ _ _ _ f0 (load_u32 _ _ _ cv1)) rfl
    · obtain rfl := Option.some.inj ho
      exact iv_val rfl rfl _ (run_fieldOp rfl _ _ _ ((congrArg (fun y => (Instr.fieldAt 45 y 5).run Tryd.prog w) e1).trans (fe2 w))) rfl
    · obtain rfl := Option.some.inj ho
      have f0 : a.eval (.tmp 50) = .pointer (some ⟨p1, 5, none⟩) := h.has ⟨4, .data⟩ (by simp) rfl _ 50 rfl rfl
      exact iv_val rfl rfl _ (run_loadOp rfl _ _ _ _ f0 (load_int _ _ _ cv2)) rfl
    · obtain rfl := Option.some.inj ho
      have g1 : a.eval (.tmp 49) = .int .u32 x.dst := h.has ⟨3, .data⟩ (by simp) rfl _ 49 rfl rfl
      have g2 : a.eval (.tmp 51) = .int .i64 x.dstBits := h.has ⟨5, .data⟩ (by simp) rfl _ 51 rfl rfl
      refine iv_call rfl rfl 30 #[.string ⟨(wDst).toArray⟩, .int .u32 x.dst, .int .i64 x.dstBits] (run_callOps rfl cf _ _ _ (by simp only [List.map_toArray, List.map_cons, List.map_nil, g1, g2]; rfl)) ((prefixClause_any wDst x.dst x.dstBits hx.2.1 hx.2.2 w).mono fun e w' h => ?_)
      obtain ⟨⟨u, r1, r2, r3⟩, r4⟩ := h
      exact ⟨_, r1, r4, u, rfl, gown_base r2 (Nat.le_trans hB kwsize), r3⟩
    · obtain rfl := Option.some.inj ho
      obtain ⟨u, g1, g2, g3⟩ : ∃ u, a.eval (.tmp 52) = .agg (claV (addrC7 wDst x.dst x.dstBits) u) ∧ FigsOwn B w (addrC7 wDst x.dst x.dstBits).nums u ∧ ∃ o n m, u = .slice o n m := h.has ⟨6, .data⟩ (by simp) rfl _ 52 rfl rfl
      refine iv_list rfl ?_
      refine wl_buildE (E := ClaE) ClaOk rfl _ rfl (claV (addrC7 wDst x.dst x.dstBits) u) rfl g1 ?_
      exact ⟨_, rfl, (Below.refl _ _).alloc (Nat.le_refl _) _, fun _ _ => ⟨u, _, rfl, kwsize, heap_new _ _ _ rfl, gown_below g2 ((Below.refl _ _).alloc (Nat.le_refl _) _), g3⟩⟩
    · obtain rfl := Option.some.inj ho
      exact iv_val rfl rfl _ (run_fieldOp rfl _ _ _ ((congrArg (fun y => (Instr.fieldAt 55 y 3).run Tryd.prog w) e3).trans (fr w))) rfl
  · intro o ho a w h
    obtain rfl := Option.some.inj ho
    have hb : Below w0.heap.size w0 w := h.wld
    have kw := frm false w hb
    have g1 : a.eval (.tmp 47) = vv := h.has ⟨1, .data⟩ (by simp) rfl _ 47 rfl rfl
    obtain ⟨u, g, g2, g3, g4, g5, g6⟩ : ∃ u g, a.eval (.tmp 53) = .slice (some ⟨g, 0, none⟩) 1 1 ∧ w0.heap.size ≤ g ∧ w.heap[g]? = some (.cells (claV (addrC7 wDst x.dst x.dstBits) u) 76 (0, 0)) ∧ FigsOwn B w (addrC7 wDst x.dst x.dstBits).nums u ∧ ∃ o n m, u = .slice o n m := h.has ⟨7, .data⟩ (by simp) rfl _ 53 rfl rfl
    have hown : w.ownsRow B 76 5 vv P.length (gcells claP2 P) := gown_below hrow.1 hb
    refine wpOp_of_list rfl ?_
    refine wl_appendE (E := ClaE) ClaOk claP2 rfl _ _ rfl B vv P ((addrC7 wDst x.dst x.dstBits), u) (cla_fits _ _ g6) g1 hown g 1 g2 g4 (by omega) (Nat.le_trans hB hb.size) ?_
    intro v' w3 hown3 hgr3 _
    have ap : ∀ (F : List Fig) (z : Value), FigsOwn B w F z → FigsOwn B w3 F z := fun F z hz => own_grown hgr3 hz (fun k hk => own_apart hown hz (by decide) k hk)
    have k3 : KeptW B p1 p3 x cs P w0 w3 := ⟨kw.below.trans ((Below.refl _ _).grown hgr3 (Nat.le_trans hB hb.size) fun k hk => (hown.lt k hk).1), (hgr3.block p1 (Array.getElem?_eq_some_iff.1 kw.ent).1 (fun hq => row_apart hown kw.ent (by decide) hq.symm)).trans kw.ent, (hgr3.block p3 (Array.getElem?_eq_some_iff.1 kw.raw).1 (fun hq => row_apart hown kw.raw (by decide) hq.symm)).trans kw.raw, fun q hq => ap _ _ (kw.figs q hq)⟩
    refine ⟨v', rfl, k3, ?_, fun _ _ => ⟨u, hown3, ap _ _ g5⟩⟩
    intro j z hj
    unfold wr8_V
    split <;> intro hz <;> first
      | exact hz
      | exact absurd rfl hj
      | (obtain ⟨u, q1, q2, q3⟩ := hz
         exact ⟨u, q1, ap _ _ q2, q3⟩)
      | (obtain ⟨u, k, q1, q2, q3, q4, q5⟩ := hz
         exact ⟨u, k, q1, q2, (hgr3.block k (Array.getElem?_eq_some_iff.1 q3).1 (fun hq => by have := (hrow.1.lt k hq.symm).2; omega)).trans q3, ap _ _ q4, q5⟩)
  · intro a w hI hsz hdf hot hh
    have kw : KeptW B p1 p3 x cs P w0 w := hI
    have hv8 : wr8_V p1 p3 B w0.heap.size x vv P 8 (a.eval (.tmp 54)) w := hh 8 _ 54 (by decide) rfl rfl
    obtain ⟨u, q1, q2⟩ := hv8
    have q3 : a.eval (.tmp 55) = .pointer (some ⟨p3, 4, none⟩) := hh 9 _ 55 (by decide) rfl rfl
    obtain ⟨v', hv'⟩ : ∃ v', a.eval (.tmp 54) = v' := ⟨_, rfl⟩
    rw [hv'] at q1
    obtain ⟨o3, cap3, hv3⟩ := gown_slice q1
    have c3 : w.cell? ⟨p3, 4, none⟩ = some vv := by rw [cell_of_row _ _ _ _ _ _ kw.raw]; exact hcs
    have hst : (Instr.storeAt 53 (.pointer (some ⟨p3, 4, none⟩)) v').run Tryd.prog w = .ok () (w.setCell ⟨p3, 4, none⟩ v') := store_cell (ty := 53) (fun W => Tryd.sizeOf53 W) w ⟨p3, 4, none⟩ v' vv ⟨o3, _, cap3, hv3⟩ c3 (tc_frozen kw.raw rfl)
    refine wpOp_skip0 (w' := w.setCell ⟨p3, 4, none⟩ v') rfl rfl (run_storeOp rfl _ _ _ _ _ q3 hv' hst) rfl ?_
    show Q .normal a (w.setCell ⟨p3, 4, none⟩ v')
    rw [puts_form hsz hdf hot hDs]
    exact hK _ w v' u kw q1 q2

def wr10_ops : List Oper := [
  { dst := some 64, op := .fieldAddr 55 (.tmp 3) 3, type := 0, pos := "print.go:33", after := #[], guard := none },
  { dst := some 65, op := .load 53 (.tmp 64), type := 53, pos := "print.go:33", after := #[{ on := 0, ground := .data }], guard := none },
  { dst := some 66, op := .fieldAddr 45 (.tmp 1) 6, type := 0, pos := "print.go:33", after := #[], guard := none },
  { dst := some 67, op := .load 3 (.tmp 66), type := 3, pos := "print.go:33", after := #[{ on := 2, ground := .data }], guard := none },
  { dst := some 68, op := .fieldAddr 45 (.tmp 1) 7, type := 0, pos := "print.go:33", after := #[], guard := none },
  { dst := some 69, op := .load 3 (.tmp 68), type := 3, pos := "print.go:33", after := #[{ on := 4, ground := .data }], guard := none },
  { dst := some 70, op := .call { callee := .value (.func 31), args := #[.const (.string { data := #[115, 112, 111, 114, 116] }), .tmp 67, .tmp 69], argTypes := #[9, 3, 3] }, type := 76, pos := "print.go:33", after := #[{ on := 3, ground := .data }, { on := 5, ground := .data }], guard := none },
  { dst := some 71, op := .buildSlice 53 1 #[(0, .tmp 70)], type := 53, pos := "print.go:33", after := #[{ on := 6, ground := .data }], guard := none },
  { dst := some 72, op := .call { callee := .builtin .append, args := #[.tmp 65, .tmp 71], argTypes := #[53, 53] }, type := 53, pos := "print.go:33", after := #[{ on := 1, ground := .data }, { on := 7, ground := .data }, { on := 6, ground := .chain }], guard := none },
  { dst := some 73, op := .fieldAddr 55 (.tmp 3) 3, type := 0, pos := "print.go:33", after := #[{ on := 0, ground := .phase }, { on := 1, ground := .phase }, { on := 2, ground := .phase }, { on := 3, ground := .phase }, { on := 4, ground := .phase }, { on := 5, ground := .phase }, { on := 6, ground := .phase }, { on := 7, ground := .phase }, { on := 8, ground := .phase }], guard := none },
  { dst := none, op := .store 53 (.tmp 73) (.tmp 72), type := 0, pos := "print.go:33", after := #[{ on := 9, ground := .data }, { on := 8, ground := .data }, { on := 8, ground := .chain }, { on := 0, ground := .phase }, { on := 1, ground := .phase }, { on := 2, ground := .phase }, { on := 3, ground := .phase }, { on := 4, ground := .phase }, { on := 5, ground := .phase }, { on := 6, ground := .phase }, { on := 7, ground := .phase }, { on := 8, ground := .phase }], guard := none }]
def wr10_D : List Nat := [64, 65, 66, 67, 68, 69, 70, 71, 72, 73]
def wr10_V (p1 p3 B H : Nat) (x : Ent) (vv : Value) (P : List (Cla × Value)) (i : Nat) (v : Value) (w : World) : Prop :=
  match i with
  | 0 => v = .pointer (some ⟨p3, 4, none⟩)
  | 1 => v = vv
  | 2 => v = .pointer (some ⟨p1, 6, none⟩)
  | 3 => v = .int .i64 x.slow
  | 4 => v = .pointer (some ⟨p1, 7, none⟩)
  | 5 => v = .int .i64 x.shigh
  | 6 => ∃ u, v = .agg (claV (portC7 wSport x.slow x.shigh) u) ∧ FigsOwn B w (portC7 wSport x.slow x.shigh).nums u ∧ ∃ o n m, u = .slice o n m
  | 7 => ∃ u g, v = .slice (some ⟨g, 0, none⟩) 1 1 ∧ H ≤ g ∧ w.heap[g]? = some (.cells (claV (portC7 wSport x.slow x.shigh) u) 76 (0, 0)) ∧ FigsOwn B w (portC7 wSport x.slow x.shigh).nums u ∧ ∃ o n m, u = .slice o n m
  | 8 => ∃ u, w.ownsRow B 76 5 v (P ++ [((portC7 wSport x.slow x.shigh), u)]).length (gcells claP2 (P ++ [((portC7 wSport x.slow x.shigh), u)])) ∧ FigsOwn B w (portC7 wSport x.slow x.shigh).nums u
  | 9 => v = .pointer (some ⟨p3, 4, none⟩)
  | _ => True
theorem wr10_mono (p1 p3 B H : Nat) (x : Ent) (vv : Value) (P : List (Cla × Value)) : ∀ j v w w', wr10_V p1 p3 B H x vv P j v w → Below w.heap.size w w' → wr10_V p1 p3 B H x vv P j v w' := by
  intro j v w w' h hb
  revert h
  unfold wr10_V
  split <;> intro h <;> first
    | exact h
    | (obtain ⟨u, h1, h2, h3⟩ := h
       exact ⟨u, h1, gown_below h2 hb, h3⟩)
    | (obtain ⟨u, g, h1, h2, h3, h4, h5⟩ := h
       exact ⟨u, g, h1, h2, (hb.block g (Array.getElem?_eq_some_iff.1 h3).1).trans h3, gown_below h4 hb, h5⟩)
    | (obtain ⟨u, h1, h2⟩ := h
       exact ⟨u, gown_below h1 hb, gown_below h2 hb⟩)

set_option maxHeartbeats 4000000 in
theorem wr10_region {id : Nat} {Q : Exit → Act → World → Prop} {a0 : Act} {w0 : World} (hs : 106 ≤ a0.tmps.size) (p1 p3 B : Nat) (x : Ent) (_hx : ent32 x) (vv : Value) (cs : Array Value) (P : List (Cla × Value)) (h1 : a0.eval (.tmp 1) = .pointer (some ⟨p1, 0, none⟩)) (h3 : a0.eval (.tmp 3) = .pointer (some ⟨p3, 0, none⟩))
    (hp1 : w0.heap[p1]? = some (.cells (entV x) 45 (0, 0))) (hp3 : w0.heap[p3]? = some (.cells cs 55 (0, 0))) (hcs : cs[4]? = some vv) (hB : B ≤ w0.heap.size) (hrow : RowW B w0 vv P) (hlen : P.length ≤ 100000)
    (hK : ∀ y w' v' u, KeptW B p1 p3 x cs P w0 w' → w'.ownsRow B 76 5 v' (P ++ [((portC7 wSport x.slow x.shigh), u)]).length (gcells claP2 (P ++ [((portC7 wSport x.slow x.shigh), u)])) → FigsOwn B w' (portC7 wSport x.slow x.shigh).nums u → Q .normal (putsD wr10_D y a0) (w'.setCell ⟨p3, 4, none⟩ v')) : (Code.region id wr10_ops.toArray true).wp Tryd.prog Q a0 w0 := by
  have hDs : ∀ d ∈ wr10_D, d < a0.tmps.size := fun d hd => by
    have : d < 106 := by
      revert hd; unfold wr10_D; intro hd
      simp only [List.mem_cons, List.not_mem_nil, or_false] at hd
      omega
    omega
  have fr : ∀ W, (Instr.fieldAt 55 (.pointer (some ⟨p3, 0, none⟩)) 3).run Tryd.prog W = .ok (.pointer (some ⟨p3, 4, none⟩)) W := fun W => by simp [go_sem]
  have fe1 : ∀ W, (Instr.fieldAt 45 (.pointer (some ⟨p1, 0, none⟩)) 6).run Tryd.prog W = .ok (.pointer (some ⟨p1, 6, none⟩)) W := fun W => by simp [go_sem]
  have fe2 : ∀ W, (Instr.fieldAt 45 (.pointer (some ⟨p1, 0, none⟩)) 7).run Tryd.prog W = .ok (.pointer (some ⟨p1, 7, none⟩)) W := fun W => by simp [go_sem]
  have cf : ∀ vs W, (callFunc 31 vs).run Tryd.prog W = .ok (.enter 31 vs) W := fun vs W => by have hf := Tryd.func31; simp [go_sem]
  have K0 : KeptW B p1 p3 x cs P w0 w0 := ⟨Below.refl _ _, hp1, hp3, hrow.2⟩
  have frm : ∀ (b : Bool) (w : World), (if b then KeptW B p1 p3 x cs P w0 w else Below w0.heap.size w0 w) → KeptW B p1 p3 x cs P w0 w := fun b w h => by
    cases b with
    | true => exact h
    | false => exact K0.stays hB h
  refine region_mid 10 8 (wr10_V p1 p3 B w0.heap.size x vv P) (fun b w => if b then KeptW B p1 p3 x cs P w0 w else Below w0.heap.size w0 w) wr10_D (by kernel_rfl) (by decide) rfl (by kernel_rfl) (by decide) hDs (by kernel_rfl) (by kernel_rfl) (wr10_mono p1 p3 B w0.heap.size x vv P) ?_ ?_ ?_ ?_ ?_
  · intro b w w' h hb
    cases b with
    | true => exact KeptW.stays hB h hb
    | false => exact Below.trans h (hb.mono (Below.size h))
  · exact (Below.refl _ _).drew
  · intro i o ho hi him b a w h
    have kw := frm b w h.wld
    have e1 : a.eval (.tmp 1) = .pointer (some ⟨p1, 0, none⟩) := (h.other 1 (by decide)).trans h1
    have e3 : a.eval (.tmp 3) = .pointer (some ⟨p3, 0, none⟩) := (h.other 3 (by decide)).trans h3
    have c3 : w.cell? ⟨p3, 4, none⟩ = some vv := by rw [cell_of_row _ _ _ _ _ _ kw.raw]; exact hcs
    have cv1 : w.cell? ⟨p1, 6, none⟩ = some (.int .i64 x.slow) := by rw [cell_of_row _ _ _ _ _ _ kw.ent]; rfl
    have cv2 : w.cell? ⟨p1, 7, none⟩ = some (.int .i64 x.shigh) := by rw [cell_of_row _ _ _ _ _ _ kw.ent]; rfl
    have kwsize : w0.heap.size ≤ w.heap.size := kw.below.size
    rcases (show i = 0 ∨ i = 1 ∨ i = 2 ∨ i = 3 ∨ i = 4 ∨ i = 5 ∨ i = 6 ∨ i = 7 ∨ i = 9 by omega) with rfl | rfl | rfl | rfl | rfl | rfl | rfl | rfl | rfl
    · obtain rfl := Option.some.inj ho
      exact iv_val rfl rfl _ (run_fieldOp rfl _ _ _ ((congrArg (fun y => (Instr.fieldAt 55 y 3).run Tryd.prog w) e3).trans (fr w))) rfl
    · obtain rfl := Option.some.inj ho
      have f0 : a.eval (.tmp 64) = .pointer (some ⟨p3, 4, none⟩) := h.has ⟨0, .data⟩ (by simp) rfl _ 64 rfl rfl
      exact iv_val rfl rfl _ (run_loadOp rfl _ _ _ _ f0 (load_cell (e := 76) Tryd.underlying53 _ _ _ c3)) rfl
    · obtain rfl := Option.some.inj ho
      exact iv_val rfl rfl _ (run_fieldOp rfl _ _ _ ((congrArg (fun y => (Instr.fieldAt 45 y 6).run Tryd.prog w) e1).trans (fe1 w))) rfl
    · obtain rfl := Option.some.inj ho
      have f0 : a.eval (.tmp 66) = .pointer (some ⟨p1, 6, none⟩) := h.has ⟨2, .data⟩ (by simp) rfl _ 66 rfl rfl
      exact iv_val rfl rfl _ (run_loadOp rfl _ _ _ _ f0 (load_int _ _ _ cv1)) rfl
    · obtain rfl := Option.some.inj ho
      exact iv_val rfl rfl _ (run_fieldOp rfl _ _ _ ((congrArg (fun y => (Instr.fieldAt 45 y 7).run Tryd.prog w) e1).trans (fe2 w))) rfl
    · obtain rfl := Option.some.inj ho
      have f0 : a.eval (.tmp 68) = .pointer (some ⟨p1, 7, none⟩) := h.has ⟨4, .data⟩ (by simp) rfl _ 68 rfl rfl
      exact iv_val rfl rfl _ (run_loadOp rfl _ _ _ _ f0 (load_int _ _ _ cv2)) rfl
    · obtain rfl := Option.some.inj ho
      have g1 : a.eval (.tmp 67) = .int .i64 x.slow := h.has ⟨3, .data⟩ (by simp) rfl _ 67 rfl rfl
      have g2 : a.eval (.tmp 69) = .int .i64 x.shigh := h.has ⟨5, .data⟩ (by simp) rfl _ 69 rfl rfl
      refine iv_call rfl rfl 31 #[.string ⟨(wSport).toArray⟩, .int .i64 x.slow, .int .i64 x.shigh] (run_callOps rfl cf _ _ _ (by simp only [List.map_toArray, List.map_cons, List.map_nil, g1, g2]; rfl)) ((portsClause_any wSport x.slow x.shigh w).mono fun e w' h => ?_)
      obtain ⟨⟨u, r1, r2, r3⟩, r4⟩ := h
      exact ⟨_, r1, r4, u, rfl, gown_base r2 (Nat.le_trans hB kwsize), r3⟩
    · obtain rfl := Option.some.inj ho
      obtain ⟨u, g1, g2, g3⟩ : ∃ u, a.eval (.tmp 70) = .agg (claV (portC7 wSport x.slow x.shigh) u) ∧ FigsOwn B w (portC7 wSport x.slow x.shigh).nums u ∧ ∃ o n m, u = .slice o n m := h.has ⟨6, .data⟩ (by simp) rfl _ 70 rfl rfl
      refine iv_list rfl ?_
      refine wl_buildE (E := ClaE) ClaOk rfl _ rfl (claV (portC7 wSport x.slow x.shigh) u) rfl g1 ?_
      exact ⟨_, rfl, (Below.refl _ _).alloc (Nat.le_refl _) _, fun _ _ => ⟨u, _, rfl, kwsize, heap_new _ _ _ rfl, gown_below g2 ((Below.refl _ _).alloc (Nat.le_refl _) _), g3⟩⟩
    · obtain rfl := Option.some.inj ho
      exact iv_val rfl rfl _ (run_fieldOp rfl _ _ _ ((congrArg (fun y => (Instr.fieldAt 55 y 3).run Tryd.prog w) e3).trans (fr w))) rfl
  · intro o ho a w h
    obtain rfl := Option.some.inj ho
    have hb : Below w0.heap.size w0 w := h.wld
    have kw := frm false w hb
    have g1 : a.eval (.tmp 65) = vv := h.has ⟨1, .data⟩ (by simp) rfl _ 65 rfl rfl
    obtain ⟨u, g, g2, g3, g4, g5, g6⟩ : ∃ u g, a.eval (.tmp 71) = .slice (some ⟨g, 0, none⟩) 1 1 ∧ w0.heap.size ≤ g ∧ w.heap[g]? = some (.cells (claV (portC7 wSport x.slow x.shigh) u) 76 (0, 0)) ∧ FigsOwn B w (portC7 wSport x.slow x.shigh).nums u ∧ ∃ o n m, u = .slice o n m := h.has ⟨7, .data⟩ (by simp) rfl _ 71 rfl rfl
    have hown : w.ownsRow B 76 5 vv P.length (gcells claP2 P) := gown_below hrow.1 hb
    refine wpOp_of_list rfl ?_
    refine wl_appendE (E := ClaE) ClaOk claP2 rfl _ _ rfl B vv P ((portC7 wSport x.slow x.shigh), u) (cla_fits _ _ g6) g1 hown g 1 g2 g4 (by omega) (Nat.le_trans hB hb.size) ?_
    intro v' w3 hown3 hgr3 _
    have ap : ∀ (F : List Fig) (z : Value), FigsOwn B w F z → FigsOwn B w3 F z := fun F z hz => own_grown hgr3 hz (fun k hk => own_apart hown hz (by decide) k hk)
    have k3 : KeptW B p1 p3 x cs P w0 w3 := ⟨kw.below.trans ((Below.refl _ _).grown hgr3 (Nat.le_trans hB hb.size) fun k hk => (hown.lt k hk).1), (hgr3.block p1 (Array.getElem?_eq_some_iff.1 kw.ent).1 (fun hq => row_apart hown kw.ent (by decide) hq.symm)).trans kw.ent, (hgr3.block p3 (Array.getElem?_eq_some_iff.1 kw.raw).1 (fun hq => row_apart hown kw.raw (by decide) hq.symm)).trans kw.raw, fun q hq => ap _ _ (kw.figs q hq)⟩
    refine ⟨v', rfl, k3, ?_, fun _ _ => ⟨u, hown3, ap _ _ g5⟩⟩
    intro j z hj
    unfold wr10_V
    split <;> intro hz <;> first
      | exact hz
      | exact absurd rfl hj
      | (obtain ⟨u, q1, q2, q3⟩ := hz
         exact ⟨u, q1, ap _ _ q2, q3⟩)
      | (obtain ⟨u, k, q1, q2, q3, q4, q5⟩ := hz
         exact ⟨u, k, q1, q2, (hgr3.block k (Array.getElem?_eq_some_iff.1 q3).1 (fun hq => by have := (hrow.1.lt k hq.symm).2; omega)).trans q3, ap _ _ q4, q5⟩)
  · intro a w hI hsz hdf hot hh
    have kw : KeptW B p1 p3 x cs P w0 w := hI
    have hv8 : wr10_V p1 p3 B w0.heap.size x vv P 8 (a.eval (.tmp 72)) w := hh 8 _ 72 (by decide) rfl rfl
    obtain ⟨u, q1, q2⟩ := hv8
    have q3 : a.eval (.tmp 73) = .pointer (some ⟨p3, 4, none⟩) := hh 9 _ 73 (by decide) rfl rfl
    obtain ⟨v', hv'⟩ : ∃ v', a.eval (.tmp 72) = v' := ⟨_, rfl⟩
    rw [hv'] at q1
    obtain ⟨o3, cap3, hv3⟩ := gown_slice q1
    have c3 : w.cell? ⟨p3, 4, none⟩ = some vv := by rw [cell_of_row _ _ _ _ _ _ kw.raw]; exact hcs
    have hst : (Instr.storeAt 53 (.pointer (some ⟨p3, 4, none⟩)) v').run Tryd.prog w = .ok () (w.setCell ⟨p3, 4, none⟩ v') := store_cell (ty := 53) (fun W => Tryd.sizeOf53 W) w ⟨p3, 4, none⟩ v' vv ⟨o3, _, cap3, hv3⟩ c3 (tc_frozen kw.raw rfl)
    refine wpOp_skip0 (w' := w.setCell ⟨p3, 4, none⟩ v') rfl rfl (run_storeOp rfl _ _ _ _ _ q3 hv' hst) rfl ?_
    show Q .normal a (w.setCell ⟨p3, 4, none⟩ v')
    rw [puts_form hsz hdf hot hDs]
    exact hK _ w v' u kw q1 q2

def wr12_ops : List Oper := [
  { dst := some 82, op := .fieldAddr 55 (.tmp 3) 3, type := 0, pos := "print.go:36", after := #[], guard := none },
  { dst := some 83, op := .load 53 (.tmp 82), type := 53, pos := "print.go:36", after := #[{ on := 0, ground := .data }], guard := none },
  { dst := some 84, op := .fieldAddr 45 (.tmp 1) 8, type := 0, pos := "print.go:36", after := #[], guard := none },
  { dst := some 85, op := .load 3 (.tmp 84), type := 3, pos := "print.go:36", after := #[{ on := 2, ground := .data }], guard := none },
  { dst := some 86, op := .fieldAddr 45 (.tmp 1) 9, type := 0, pos := "print.go:36", after := #[], guard := none },
  { dst := some 87, op := .load 3 (.tmp 86), type := 3, pos := "print.go:36", after := #[{ on := 4, ground := .data }], guard := none },
  { dst := some 88, op := .call { callee := .value (.func 31), args := #[.const (.string { data := #[100, 112, 111, 114, 116] }), .tmp 85, .tmp 87], argTypes := #[9, 3, 3] }, type := 76, pos := "print.go:36", after := #[{ on := 3, ground := .data }, { on := 5, ground := .data }], guard := none },
  { dst := some 89, op := .buildSlice 53 1 #[(0, .tmp 88)], type := 53, pos := "print.go:36", after := #[{ on := 6, ground := .data }], guard := none },
  { dst := some 90, op := .call { callee := .builtin .append, args := #[.tmp 83, .tmp 89], argTypes := #[53, 53] }, type := 53, pos := "print.go:36", after := #[{ on := 1, ground := .data }, { on := 7, ground := .data }, { on := 6, ground := .chain }], guard := none },
  { dst := some 91, op := .fieldAddr 55 (.tmp 3) 3, type := 0, pos := "print.go:36", after := #[{ on := 0, ground := .phase }, { on := 1, ground := .phase }, { on := 2, ground := .phase }, { on := 3, ground := .phase }, { on := 4, ground := .phase }, { on := 5, ground := .phase }, { on := 6, ground := .phase }, { on := 7, ground := .phase }, { on := 8, ground := .phase }], guard := none },
  { dst := none, op := .store 53 (.tmp 91) (.tmp 90), type := 0, pos := "print.go:36", after := #[{ on := 9, ground := .data }, { on := 8, ground := .data }, { on := 8, ground := .chain }, { on := 0, ground := .phase }, { on := 1, ground := .phase }, { on := 2, ground := .phase }, { on := 3, ground := .phase }, { on := 4, ground := .phase }, { on := 5, ground := .phase }, { on := 6, ground := .phase }, { on := 7, ground := .phase }, { on := 8, ground := .phase }], guard := none }]
def wr12_D : List Nat := [82, 83, 84, 85, 86, 87, 88, 89, 90, 91]
def wr12_V (p1 p3 B H : Nat) (x : Ent) (vv : Value) (P : List (Cla × Value)) (i : Nat) (v : Value) (w : World) : Prop :=
  match i with
  | 0 => v = .pointer (some ⟨p3, 4, none⟩)
  | 1 => v = vv
  | 2 => v = .pointer (some ⟨p1, 8, none⟩)
  | 3 => v = .int .i64 x.dlow
  | 4 => v = .pointer (some ⟨p1, 9, none⟩)
  | 5 => v = .int .i64 x.dhigh
  | 6 => ∃ u, v = .agg (claV (portC7 wDport x.dlow x.dhigh) u) ∧ FigsOwn B w (portC7 wDport x.dlow x.dhigh).nums u ∧ ∃ o n m, u = .slice o n m
  | 7 => ∃ u g, v = .slice (some ⟨g, 0, none⟩) 1 1 ∧ H ≤ g ∧ w.heap[g]? = some (.cells (claV (portC7 wDport x.dlow x.dhigh) u) 76 (0, 0)) ∧ FigsOwn B w (portC7 wDport x.dlow x.dhigh).nums u ∧ ∃ o n m, u = .slice o n m
  | 8 => ∃ u, w.ownsRow B 76 5 v (P ++ [((portC7 wDport x.dlow x.dhigh), u)]).length (gcells claP2 (P ++ [((portC7 wDport x.dlow x.dhigh), u)])) ∧ FigsOwn B w (portC7 wDport x.dlow x.dhigh).nums u
  | 9 => v = .pointer (some ⟨p3, 4, none⟩)
  | _ => True
theorem wr12_mono (p1 p3 B H : Nat) (x : Ent) (vv : Value) (P : List (Cla × Value)) : ∀ j v w w', wr12_V p1 p3 B H x vv P j v w → Below w.heap.size w w' → wr12_V p1 p3 B H x vv P j v w' := by
  intro j v w w' h hb
  revert h
  unfold wr12_V
  split <;> intro h <;> first
    | exact h
    | (obtain ⟨u, h1, h2, h3⟩ := h
       exact ⟨u, h1, gown_below h2 hb, h3⟩)
    | (obtain ⟨u, g, h1, h2, h3, h4, h5⟩ := h
       exact ⟨u, g, h1, h2, (hb.block g (Array.getElem?_eq_some_iff.1 h3).1).trans h3, gown_below h4 hb, h5⟩)
    | (obtain ⟨u, h1, h2⟩ := h
       exact ⟨u, gown_below h1 hb, gown_below h2 hb⟩)

set_option maxHeartbeats 4000000 in
theorem wr12_region {id : Nat} {Q : Exit → Act → World → Prop} {a0 : Act} {w0 : World} (hs : 106 ≤ a0.tmps.size) (p1 p3 B : Nat) (x : Ent) (_hx : ent32 x) (vv : Value) (cs : Array Value) (P : List (Cla × Value)) (h1 : a0.eval (.tmp 1) = .pointer (some ⟨p1, 0, none⟩)) (h3 : a0.eval (.tmp 3) = .pointer (some ⟨p3, 0, none⟩))
    (hp1 : w0.heap[p1]? = some (.cells (entV x) 45 (0, 0))) (hp3 : w0.heap[p3]? = some (.cells cs 55 (0, 0))) (hcs : cs[4]? = some vv) (hB : B ≤ w0.heap.size) (hrow : RowW B w0 vv P) (hlen : P.length ≤ 100000)
    (hK : ∀ y w' v' u, KeptW B p1 p3 x cs P w0 w' → w'.ownsRow B 76 5 v' (P ++ [((portC7 wDport x.dlow x.dhigh), u)]).length (gcells claP2 (P ++ [((portC7 wDport x.dlow x.dhigh), u)])) → FigsOwn B w' (portC7 wDport x.dlow x.dhigh).nums u → Q .normal (putsD wr12_D y a0) (w'.setCell ⟨p3, 4, none⟩ v')) : (Code.region id wr12_ops.toArray true).wp Tryd.prog Q a0 w0 := by
  have hDs : ∀ d ∈ wr12_D, d < a0.tmps.size := fun d hd => by
    have : d < 106 := by
      revert hd; unfold wr12_D; intro hd
      simp only [List.mem_cons, List.not_mem_nil, or_false] at hd
      omega
    omega
  have fr : ∀ W, (Instr.fieldAt 55 (.pointer (some ⟨p3, 0, none⟩)) 3).run Tryd.prog W = .ok (.pointer (some ⟨p3, 4, none⟩)) W := fun W => by simp [go_sem]
  have fe1 : ∀ W, (Instr.fieldAt 45 (.pointer (some ⟨p1, 0, none⟩)) 8).run Tryd.prog W = .ok (.pointer (some ⟨p1, 8, none⟩)) W := fun W => by simp [go_sem]
  have fe2 : ∀ W, (Instr.fieldAt 45 (.pointer (some ⟨p1, 0, none⟩)) 9).run Tryd.prog W = .ok (.pointer (some ⟨p1, 9, none⟩)) W := fun W => by simp [go_sem]
  have cf : ∀ vs W, (callFunc 31 vs).run Tryd.prog W = .ok (.enter 31 vs) W := fun vs W => by have hf := Tryd.func31; simp [go_sem]
  have K0 : KeptW B p1 p3 x cs P w0 w0 := ⟨Below.refl _ _, hp1, hp3, hrow.2⟩
  have frm : ∀ (b : Bool) (w : World), (if b then KeptW B p1 p3 x cs P w0 w else Below w0.heap.size w0 w) → KeptW B p1 p3 x cs P w0 w := fun b w h => by
    cases b with
    | true => exact h
    | false => exact K0.stays hB h
  refine region_mid 10 8 (wr12_V p1 p3 B w0.heap.size x vv P) (fun b w => if b then KeptW B p1 p3 x cs P w0 w else Below w0.heap.size w0 w) wr12_D (by kernel_rfl) (by decide) rfl (by kernel_rfl) (by decide) hDs (by kernel_rfl) (by kernel_rfl) (wr12_mono p1 p3 B w0.heap.size x vv P) ?_ ?_ ?_ ?_ ?_
  · intro b w w' h hb
    cases b with
    | true => exact KeptW.stays hB h hb
    | false => exact Below.trans h (hb.mono (Below.size h))
  · exact (Below.refl _ _).drew
  · intro i o ho hi him b a w h
    have kw := frm b w h.wld
    have e1 : a.eval (.tmp 1) = .pointer (some ⟨p1, 0, none⟩) := (h.other 1 (by decide)).trans h1
    have e3 : a.eval (.tmp 3) = .pointer (some ⟨p3, 0, none⟩) := (h.other 3 (by decide)).trans h3
    have c3 : w.cell? ⟨p3, 4, none⟩ = some vv := by rw [cell_of_row _ _ _ _ _ _ kw.raw]; exact hcs
    have cv1 : w.cell? ⟨p1, 8, none⟩ = some (.int .i64 x.dlow) := by rw [cell_of_row _ _ _ _ _ _ kw.ent]; rfl
    have cv2 : w.cell? ⟨p1, 9, none⟩ = some (.int .i64 x.dhigh) := by rw [cell_of_row _ _ _ _ _ _ kw.ent]; rfl
    have kwsize : w0.heap.size ≤ w.heap.size := kw.below.size
    rcases (show i = 0 ∨ i = 1 ∨ i = 2 ∨ i = 3 ∨ i = 4 ∨ i = 5 ∨ i = 6 ∨ i = 7 ∨ i = 9 by omega) with rfl | rfl | rfl | rfl | rfl | rfl | rfl | rfl | rfl
    · obtain rfl := Option.some.inj ho
      exact iv_val rfl rfl _ (run_fieldOp rfl _ _ _ ((congrArg (fun y => (Instr.fieldAt 55 y 3).run Tryd.prog w) e3).trans (fr w))) rfl
    · obtain rfl := Option.some.inj ho
      have f0 : a.eval (.tmp 82) = .pointer (some ⟨p3, 4, none⟩) := h.has ⟨0, .data⟩ (by simp) rfl _ 82 rfl rfl
      exact iv_val rfl rfl _ (run_loadOp rfl _ _ _ _ f0 (load_cell (e := 76) Tryd.underlying53 _ _ _ c3)) rfl
    · obtain rfl := Option.some.inj ho
      exact iv_val rfl rfl _ (run_fieldOp rfl _ _ _ ((congrArg (fun y => (Instr.fieldAt 45 y 8).run Tryd.prog w) e1).trans (fe1 w))) rfl
    · obtain rfl := Option.some.inj ho
      have f0 : a.eval (.tmp 84) = .pointer (some ⟨p1, 8, none⟩) := h.has ⟨2, .data⟩ (by simp) rfl _ 84 rfl rfl
      exact iv_val rfl rfl _ (run_loadOp rfl _ _ _ _ f0 (load_int _ _ _ cv1)) rfl
    · obtain rfl := Option.some.inj ho
      exact iv_val rfl rfl _ (run_fieldOp rfl _ _ _ ((congrArg (fun y => (Instr.fieldAt 45 y 9).run Tryd.prog w) e1).trans (fe2 w))) rfl
    · obtain rfl := Option.some.inj ho
      have f0 : a.eval (.tmp 86) = .pointer (some ⟨p1, 9, none⟩) := h.has ⟨4, .data⟩ (by simp) rfl _ 86 rfl rfl
      exact iv_val rfl rfl _ (run_loadOp rfl _ _ _ _ f0 (load_int _ _ _ cv2)) rfl
    · obtain rfl := Option.some.inj ho
      have g1 : a.eval (.tmp 85) = .int .i64 x.dlow := h.has ⟨3, .data⟩ (by simp) rfl _ 85 rfl rfl
      have g2 : a.eval (.tmp 87) = .int .i64 x.dhigh := h.has ⟨5, .data⟩ (by simp) rfl _ 87 rfl rfl
      refine iv_call rfl rfl 31 #[.string ⟨(wDport).toArray⟩, .int .i64 x.dlow, .int .i64 x.dhigh] (run_callOps rfl cf _ _ _ (by simp only [List.map_toArray, List.map_cons, List.map_nil, g1, g2]; rfl)) ((portsClause_any wDport x.dlow x.dhigh w).mono fun e w' h => ?_)
      obtain ⟨⟨u, r1, r2, r3⟩, r4⟩ := h
      exact ⟨_, r1, r4, u, rfl, gown_base r2 (Nat.le_trans hB kwsize), r3⟩
    · obtain rfl := Option.some.inj ho
      obtain ⟨u, g1, g2, g3⟩ : ∃ u, a.eval (.tmp 88) = .agg (claV (portC7 wDport x.dlow x.dhigh) u) ∧ FigsOwn B w (portC7 wDport x.dlow x.dhigh).nums u ∧ ∃ o n m, u = .slice o n m := h.has ⟨6, .data⟩ (by simp) rfl _ 88 rfl rfl
      refine iv_list rfl ?_
      refine wl_buildE (E := ClaE) ClaOk rfl _ rfl (claV (portC7 wDport x.dlow x.dhigh) u) rfl g1 ?_
      exact ⟨_, rfl, (Below.refl _ _).alloc (Nat.le_refl _) _, fun _ _ => ⟨u, _, rfl, kwsize, heap_new _ _ _ rfl, gown_below g2 ((Below.refl _ _).alloc (Nat.le_refl _) _), g3⟩⟩
    · obtain rfl := Option.some.inj ho
      exact iv_val rfl rfl _ (run_fieldOp rfl _ _ _ ((congrArg (fun y => (Instr.fieldAt 55 y 3).run Tryd.prog w) e3).trans (fr w))) rfl
  · intro o ho a w h
    obtain rfl := Option.some.inj ho
    have hb : Below w0.heap.size w0 w := h.wld
    have kw := frm false w hb
    have g1 : a.eval (.tmp 83) = vv := h.has ⟨1, .data⟩ (by simp) rfl _ 83 rfl rfl
    obtain ⟨u, g, g2, g3, g4, g5, g6⟩ : ∃ u g, a.eval (.tmp 89) = .slice (some ⟨g, 0, none⟩) 1 1 ∧ w0.heap.size ≤ g ∧ w.heap[g]? = some (.cells (claV (portC7 wDport x.dlow x.dhigh) u) 76 (0, 0)) ∧ FigsOwn B w (portC7 wDport x.dlow x.dhigh).nums u ∧ ∃ o n m, u = .slice o n m := h.has ⟨7, .data⟩ (by simp) rfl _ 89 rfl rfl
    have hown : w.ownsRow B 76 5 vv P.length (gcells claP2 P) := gown_below hrow.1 hb
    refine wpOp_of_list rfl ?_
    refine wl_appendE (E := ClaE) ClaOk claP2 rfl _ _ rfl B vv P ((portC7 wDport x.dlow x.dhigh), u) (cla_fits _ _ g6) g1 hown g 1 g2 g4 (by omega) (Nat.le_trans hB hb.size) ?_
    intro v' w3 hown3 hgr3 _
    have ap : ∀ (F : List Fig) (z : Value), FigsOwn B w F z → FigsOwn B w3 F z := fun F z hz => own_grown hgr3 hz (fun k hk => own_apart hown hz (by decide) k hk)
    have k3 : KeptW B p1 p3 x cs P w0 w3 := ⟨kw.below.trans ((Below.refl _ _).grown hgr3 (Nat.le_trans hB hb.size) fun k hk => (hown.lt k hk).1), (hgr3.block p1 (Array.getElem?_eq_some_iff.1 kw.ent).1 (fun hq => row_apart hown kw.ent (by decide) hq.symm)).trans kw.ent, (hgr3.block p3 (Array.getElem?_eq_some_iff.1 kw.raw).1 (fun hq => row_apart hown kw.raw (by decide) hq.symm)).trans kw.raw, fun q hq => ap _ _ (kw.figs q hq)⟩
    refine ⟨v', rfl, k3, ?_, fun _ _ => ⟨u, hown3, ap _ _ g5⟩⟩
    intro j z hj
    unfold wr12_V
    split <;> intro hz <;> first
      | exact hz
      | exact absurd rfl hj
      | (obtain ⟨u, q1, q2, q3⟩ := hz
         exact ⟨u, q1, ap _ _ q2, q3⟩)
      | (obtain ⟨u, k, q1, q2, q3, q4, q5⟩ := hz
         exact ⟨u, k, q1, q2, (hgr3.block k (Array.getElem?_eq_some_iff.1 q3).1 (fun hq => by have := (hrow.1.lt k hq.symm).2; omega)).trans q3, ap _ _ q4, q5⟩)
  · intro a w hI hsz hdf hot hh
    have kw : KeptW B p1 p3 x cs P w0 w := hI
    have hv8 : wr12_V p1 p3 B w0.heap.size x vv P 8 (a.eval (.tmp 90)) w := hh 8 _ 90 (by decide) rfl rfl
    obtain ⟨u, q1, q2⟩ := hv8
    have q3 : a.eval (.tmp 91) = .pointer (some ⟨p3, 4, none⟩) := hh 9 _ 91 (by decide) rfl rfl
    obtain ⟨v', hv'⟩ : ∃ v', a.eval (.tmp 90) = v' := ⟨_, rfl⟩
    rw [hv'] at q1
    obtain ⟨o3, cap3, hv3⟩ := gown_slice q1
    have c3 : w.cell? ⟨p3, 4, none⟩ = some vv := by rw [cell_of_row _ _ _ _ _ _ kw.raw]; exact hcs
    have hst : (Instr.storeAt 53 (.pointer (some ⟨p3, 4, none⟩)) v').run Tryd.prog w = .ok () (w.setCell ⟨p3, 4, none⟩ v') := store_cell (ty := 53) (fun W => Tryd.sizeOf53 W) w ⟨p3, 4, none⟩ v' vv ⟨o3, _, cap3, hv3⟩ c3 (tc_frozen kw.raw rfl)
    refine wpOp_skip0 (w' := w.setCell ⟨p3, 4, none⟩ v') rfl rfl (run_storeOp rfl _ _ _ _ _ q3 hv' hst) rfl ?_
    show Q .normal a (w.setCell ⟨p3, 4, none⟩ v')
    rw [puts_form hsz hdf hot hDs]
    exact hK _ w v' u kw q1 q2

def protC7 (p : Int) : Cla := ⟨wProto, 0, [fig0 p], false, false⟩
def wr14_ops : List Oper := [
  { dst := some 95, op := .fieldAddr 55 (.tmp 3) 3, type := 0, pos := "print.go:39", after := #[], guard := none },
  { dst := some 96, op := .load 53 (.tmp 95), type := 53, pos := "print.go:39", after := #[{ on := 0, ground := .data }], guard := none },
  { dst := some 97, op := .fieldAddr 45 (.tmp 1) 10, type := 0, pos := "print.go:39", after := #[], guard := none },
  { dst := some 98, op := .load 3 (.tmp 97), type := 3, pos := "print.go:39", after := #[{ on := 2, ground := .data }], guard := none },
  { dst := some 99, op := .buildSlice 82 1 #[(0, .tmp 98)], type := 82, pos := "print.go:39", after := #[{ on := 3, ground := .data }], guard := none },
  { dst := some 100, op := .call { callee := .value (.func 32), args := #[.tmp 99], argTypes := #[82] }, type := 74, pos := "print.go:39", after := #[{ on := 4, ground := .data }], guard := none },
  { dst := some 101, op := .build 76 #[(0, .const (.string { data := #[112, 114, 111, 116, 111] })), (2, .tmp 100)], type := 76, pos := "print.go:39", after := #[{ on := 5, ground := .data }], guard := none },
  { dst := some 102, op := .buildSlice 53 1 #[(0, .tmp 101)], type := 53, pos := "print.go:39", after := #[{ on := 6, ground := .data }], guard := none },
  { dst := some 103, op := .call { callee := .builtin .append, args := #[.tmp 96, .tmp 102], argTypes := #[53, 53] }, type := 53, pos := "print.go:39", after := #[{ on := 1, ground := .data }, { on := 7, ground := .data }, { on := 5, ground := .chain }], guard := none },
  { dst := some 104, op := .fieldAddr 55 (.tmp 3) 3, type := 0, pos := "print.go:39", after := #[{ on := 0, ground := .phase }, { on := 1, ground := .phase }, { on := 2, ground := .phase }, { on := 3, ground := .phase }, { on := 4, ground := .phase }, { on := 5, ground := .phase }, { on := 6, ground := .phase }, { on := 7, ground := .phase }, { on := 8, ground := .phase }], guard := none },
  { dst := none, op := .store 53 (.tmp 104) (.tmp 103), type := 0, pos := "print.go:39", after := #[{ on := 9, ground := .data }, { on := 8, ground := .data }, { on := 8, ground := .chain }, { on := 0, ground := .phase }, { on := 1, ground := .phase }, { on := 2, ground := .phase }, { on := 3, ground := .phase }, { on := 4, ground := .phase }, { on := 5, ground := .phase }, { on := 6, ground := .phase }, { on := 7, ground := .phase }, { on := 8, ground := .phase }], guard := none }]
def wr14_D : List Nat := [95, 96, 97, 98, 99, 100, 101, 102, 103, 104]
def wr14_V (p1 p3 B H : Nat) (x : Ent) (vv : Value) (P : List (Cla × Value)) (i : Nat) (v : Value) (w : World) : Prop :=
  match i with
  | 0 => v = .pointer (some ⟨p3, 4, none⟩)
  | 1 => v = vv
  | 2 => v = .pointer (some ⟨p1, 10, none⟩)
  | 3 => v = .int .i64 x.proto
  | 4 => ∃ g, v = .slice (some ⟨g, 0, none⟩) 1 1 ∧ w.heap[g]? = some (.cells (intsV [x.proto]) 3 (0, 0))
  | 5 => FigsOwn B w [fig0 x.proto] v ∧ ∃ o n m, v = .slice o n m
  | 6 => ∃ u, v = .agg (claV (protC7 x.proto) u) ∧ FigsOwn B w (protC7 x.proto).nums u ∧ ∃ o n m, u = .slice o n m
  | 7 => ∃ u g, v = .slice (some ⟨g, 0, none⟩) 1 1 ∧ H ≤ g ∧ w.heap[g]? = some (.cells (claV (protC7 x.proto) u) 76 (0, 0)) ∧ FigsOwn B w (protC7 x.proto).nums u ∧ ∃ o n m, u = .slice o n m
  | 8 => ∃ u, w.ownsRow B 76 5 v (P ++ [((protC7 x.proto), u)]).length (gcells claP2 (P ++ [((protC7 x.proto), u)])) ∧ FigsOwn B w (protC7 x.proto).nums u
  | 9 => v = .pointer (some ⟨p3, 4, none⟩)
  | _ => True
theorem wr14_mono (p1 p3 B H : Nat) (x : Ent) (vv : Value) (P : List (Cla × Value)) : ∀ j v w w', wr14_V p1 p3 B H x vv P j v w → Below w.heap.size w w' → wr14_V p1 p3 B H x vv P j v w' := by
  intro j v w w' h hb
  revert h
  unfold wr14_V
  split <;> intro h <;> first
    | exact h
    | (obtain ⟨g, h1, h2⟩ := h
       exact ⟨g, h1, (hb.block g (Array.getElem?_eq_some_iff.1 h2).1).trans h2⟩)
    | exact ⟨gown_below h.1 hb, h.2⟩
    | (obtain ⟨u, h1, h2, h3⟩ := h
       exact ⟨u, h1, gown_below h2 hb, h3⟩)
    | (obtain ⟨u, g, h1, h2, h3, h4, h5⟩ := h
       exact ⟨u, g, h1, h2, (hb.block g (Array.getElem?_eq_some_iff.1 h3).1).trans h3, gown_below h4 hb, h5⟩)
    | (obtain ⟨u, h1, h2⟩ := h
       exact ⟨u, gown_below h1 hb, gown_below h2 hb⟩)

set_option maxHeartbeats 4000000 in
theorem wr14_region {id : Nat} {Q : Exit → Act → World → Prop} {a0 : Act} {w0 : World} (hs : 106 ≤ a0.tmps.size) (p1 p3 B : Nat) (x : Ent) (_hx : ent32 x) (vv : Value) (cs : Array Value) (P : List (Cla × Value)) (h1 : a0.eval (.tmp 1) = .pointer (some ⟨p1, 0, none⟩)) (h3 : a0.eval (.tmp 3) = .pointer (some ⟨p3, 0, none⟩))
    (hp1 : w0.heap[p1]? = some (.cells (entV x) 45 (0, 0))) (hp3 : w0.heap[p3]? = some (.cells cs 55 (0, 0))) (hcs : cs[4]? = some vv) (hB : B ≤ w0.heap.size) (hrow : RowW B w0 vv P) (hlen : P.length ≤ 100000)
    (hK : ∀ y w' v' u, KeptW B p1 p3 x cs P w0 w' → w'.ownsRow B 76 5 v' (P ++ [((protC7 x.proto), u)]).length (gcells claP2 (P ++ [((protC7 x.proto), u)])) → FigsOwn B w' (protC7 x.proto).nums u → Q .normal (putsD wr14_D y a0) (w'.setCell ⟨p3, 4, none⟩ v')) : (Code.region id wr14_ops.toArray true).wp Tryd.prog Q a0 w0 := by
  have hDs : ∀ d ∈ wr14_D, d < a0.tmps.size := fun d hd => by
    have : d < 106 := by
      revert hd; unfold wr14_D; intro hd
      simp only [List.mem_cons, List.not_mem_nil, or_false] at hd
      omega
    omega
  have fr : ∀ W, (Instr.fieldAt 55 (.pointer (some ⟨p3, 0, none⟩)) 3).run Tryd.prog W = .ok (.pointer (some ⟨p3, 4, none⟩)) W := fun W => by simp [go_sem]
  have fe1 : ∀ W, (Instr.fieldAt 45 (.pointer (some ⟨p1, 0, none⟩)) 10).run Tryd.prog W = .ok (.pointer (some ⟨p1, 10, none⟩)) W := fun W => by simp [go_sem]
  have fe2 : ∀ W, (Instr.fieldAt 45 (.pointer (some ⟨p1, 0, none⟩)) 10).run Tryd.prog W = .ok (.pointer (some ⟨p1, 10, none⟩)) W := fun W => by simp [go_sem]
  have cf : ∀ vs W, (callFunc 32 vs).run Tryd.prog W = .ok (.enter 32 vs) W := fun vs W => by have hf := Tryd.func32; simp [go_sem]
  have K0 : KeptW B p1 p3 x cs P w0 w0 := ⟨Below.refl _ _, hp1, hp3, hrow.2⟩
  have frm : ∀ (b : Bool) (w : World), (if b then KeptW B p1 p3 x cs P w0 w else Below w0.heap.size w0 w) → KeptW B p1 p3 x cs P w0 w := fun b w h => by
    cases b with
    | true => exact h
    | false => exact K0.stays hB h
  refine region_mid 10 8 (wr14_V p1 p3 B w0.heap.size x vv P) (fun b w => if b then KeptW B p1 p3 x cs P w0 w else Below w0.heap.size w0 w) wr14_D (by kernel_rfl) (by decide) rfl (by kernel_rfl) (by decide) hDs (by kernel_rfl) (by kernel_rfl) (wr14_mono p1 p3 B w0.heap.size x vv P) ?_ ?_ ?_ ?_ ?_
  · intro b w w' h hb
    cases b with
    | true => exact KeptW.stays hB h hb
    | false => exact Below.trans h (hb.mono (Below.size h))
  · exact (Below.refl _ _).drew
  · intro i o ho hi him b a w h
    have kw := frm b w h.wld
    have e1 : a.eval (.tmp 1) = .pointer (some ⟨p1, 0, none⟩) := (h.other 1 (by decide)).trans h1
    have e3 : a.eval (.tmp 3) = .pointer (some ⟨p3, 0, none⟩) := (h.other 3 (by decide)).trans h3
    have c3 : w.cell? ⟨p3, 4, none⟩ = some vv := by rw [cell_of_row _ _ _ _ _ _ kw.raw]; exact hcs
    have cv1 : w.cell? ⟨p1, 10, none⟩ = some (.int .i64 x.proto) := by rw [cell_of_row _ _ _ _ _ _ kw.ent]; rfl
    have cv2 : w.cell? ⟨p1, 10, none⟩ = some (.int .i64 x.proto) := by rw [cell_of_row _ _ _ _ _ _ kw.ent]; rfl
    have kwsize : w0.heap.size ≤ w.heap.size := kw.below.size
    rcases (show i = 0 ∨ i = 1 ∨ i = 2 ∨ i = 3 ∨ i = 4 ∨ i = 5 ∨ i = 6 ∨ i = 7 ∨ i = 9 by omega) with rfl | rfl | rfl | rfl | rfl | rfl | rfl | rfl | rfl
    · obtain rfl := Option.some.inj ho
      exact iv_val rfl rfl _ (run_fieldOp rfl _ _ _ ((congrArg (fun y => (Instr.fieldAt 55 y 3).run Tryd.prog w) e3).trans (fr w))) rfl
    · obtain rfl := Option.some.inj ho
      have f0 : a.eval (.tmp 95) = .pointer (some ⟨p3, 4, none⟩) := h.has ⟨0, .data⟩ (by simp) rfl _ 95 rfl rfl
      exact iv_val rfl rfl _ (run_loadOp rfl _ _ _ _ f0 (load_cell (e := 76) Tryd.underlying53 _ _ _ c3)) rfl
    · obtain rfl := Option.some.inj ho
      exact iv_val rfl rfl _ (run_fieldOp rfl _ _ _ ((congrArg (fun y => (Instr.fieldAt 45 y 10).run Tryd.prog w) e1).trans (fe1 w))) rfl
    · obtain rfl := Option.some.inj ho
      have f0 : a.eval (.tmp 97) = .pointer (some ⟨p1, 10, none⟩) := h.has ⟨2, .data⟩ (by simp) rfl _ 97 rfl rfl
      exact iv_val rfl rfl _ (run_loadOp rfl _ _ _ _ f0 (load_int _ _ _ cv1)) rfl
    · obtain rfl := Option.some.inj ho
      have g1 : a.eval (.tmp 98) = .int .i64 x.proto := h.has ⟨3, .data⟩ (by simp) rfl _ 98 rfl rfl
      refine iv_list rfl ?_
      obtain ⟨ie, hie, hz, hsi⟩ := info3_8
      refine wpList_buildSlice rfl _ 3 1 _ rfl (intsV [x.proto]) ie (.int .i64 0) Tryd.underlying82 hie hz (by rw [hsi]; decide) (by rw [hsi]; decide) (by simp only [List.map_toArray, List.map_cons, List.map_nil, g1, hsi]; kernel_rfl) ?_
      exact ⟨_, rfl, (Below.refl _ _).alloc (Nat.le_refl _) _, fun _ _ => ⟨_, rfl, heap_new _ _ _ rfl⟩⟩
    · obtain rfl := Option.some.inj ho
      obtain ⟨g, g1, g2⟩ : ∃ g, a.eval (.tmp 99) = .slice (some ⟨g, 0, none⟩) 1 1 ∧ w.heap[g]? = some (.cells (intsV [x.proto]) 3 (0, 0)) := h.has ⟨4, .data⟩ (by simp) rfl _ 99 rfl rfl
      refine iv_call rfl rfl 32 #[.slice (some ⟨g, 0, none⟩) 1 1] (run_callOps rfl cf _ _ _ (by simp only [List.map_toArray, List.map_cons, List.map_nil, g1])) ((figures_any [x.proto] (by simp) g w g2).mono fun e w' h => ?_)
      obtain ⟨z, r1, r2, r3⟩ := h
      exact ⟨z, r1, r3, gown_base r2 (Nat.le_trans hB kwsize), figs_sl8 r2⟩
    · obtain rfl := Option.some.inj ho
      have g0 : FigsOwn B w [fig0 x.proto] (a.eval (.tmp 100)) ∧ ∃ o n m, a.eval (.tmp 100) = .slice o n m := h.has ⟨5, .data⟩ (by simp) rfl _ 100 rfl rfl
      obtain ⟨g1, o1, n1, m1, g2⟩ := g0
      rw [g2] at g1
      exact iv_val rfl rfl (.agg (claV (protC7 x.proto) (.slice o1 n1 m1))) (run_buildOp rfl _ _ #[(0, .string ⟨#[112, 114, 111, 116, 111]⟩), (2, .slice o1 n1 m1)] (by simp only [List.map_toArray, List.map_cons, List.map_nil, g2]; rfl) _ (by kernel_rfl)) ⟨_, rfl, g1, _, _, _, rfl⟩
    · obtain rfl := Option.some.inj ho
      obtain ⟨u, g1, g2, g3⟩ : ∃ u, a.eval (.tmp 101) = .agg (claV (protC7 x.proto) u) ∧ FigsOwn B w (protC7 x.proto).nums u ∧ ∃ o n m, u = .slice o n m := h.has ⟨6, .data⟩ (by simp) rfl _ 101 rfl rfl
      refine iv_list rfl ?_
      refine wl_buildE (E := ClaE) ClaOk rfl _ rfl (claV (protC7 x.proto) u) rfl g1 ?_
      exact ⟨_, rfl, (Below.refl _ _).alloc (Nat.le_refl _) _, fun _ _ => ⟨u, _, rfl, kwsize, heap_new _ _ _ rfl, gown_below g2 ((Below.refl _ _).alloc (Nat.le_refl _) _), g3⟩⟩
    · obtain rfl := Option.some.inj ho
      exact iv_val rfl rfl _ (run_fieldOp rfl _ _ _ ((congrArg (fun y => (Instr.fieldAt 55 y 3).run Tryd.prog w) e3).trans (fr w))) rfl
  · intro o ho a w h
    obtain rfl := Option.some.inj ho
    have hb : Below w0.heap.size w0 w := h.wld
    have kw := frm false w hb
    have g1 : a.eval (.tmp 96) = vv := h.has ⟨1, .data⟩ (by simp) rfl _ 96 rfl rfl
    obtain ⟨u, g, g2, g3, g4, g5, g6⟩ : ∃ u g, a.eval (.tmp 102) = .slice (some ⟨g, 0, none⟩) 1 1 ∧ w0.heap.size ≤ g ∧ w.heap[g]? = some (.cells (claV (protC7 x.proto) u) 76 (0, 0)) ∧ FigsOwn B w (protC7 x.proto).nums u ∧ ∃ o n m, u = .slice o n m := h.has ⟨7, .data⟩ (by simp) rfl _ 102 rfl rfl
    have hown : w.ownsRow B 76 5 vv P.length (gcells claP2 P) := gown_below hrow.1 hb
    refine wpOp_of_list rfl ?_
    refine wl_appendE (E := ClaE) ClaOk claP2 rfl _ _ rfl B vv P ((protC7 x.proto), u) (cla_fits _ _ g6) g1 hown g 1 g2 g4 (by omega) (Nat.le_trans hB hb.size) ?_
    intro v' w3 hown3 hgr3 _
    have ap : ∀ (F : List Fig) (z : Value), FigsOwn B w F z → FigsOwn B w3 F z := fun F z hz => own_grown hgr3 hz (fun k hk => own_apart hown hz (by decide) k hk)
    have k3 : KeptW B p1 p3 x cs P w0 w3 := ⟨kw.below.trans ((Below.refl _ _).grown hgr3 (Nat.le_trans hB hb.size) fun k hk => (hown.lt k hk).1), (hgr3.block p1 (Array.getElem?_eq_some_iff.1 kw.ent).1 (fun hq => row_apart hown kw.ent (by decide) hq.symm)).trans kw.ent, (hgr3.block p3 (Array.getElem?_eq_some_iff.1 kw.raw).1 (fun hq => row_apart hown kw.raw (by decide) hq.symm)).trans kw.raw, fun q hq => ap _ _ (kw.figs q hq)⟩
    refine ⟨v', rfl, k3, ?_, fun _ _ => ⟨u, hown3, ap _ _ g5⟩⟩
    intro j z hj
    unfold wr14_V
    split <;> intro hz <;> first
      | exact hz
      | exact absurd rfl hj
      | (obtain ⟨k, q1, q2⟩ := hz
         exact ⟨k, q1, (hgr3.block k (Array.getElem?_eq_some_iff.1 q2).1 (fun hq => row_apart hown q2 (by decide) hq.symm)).trans q2⟩)
      | exact ⟨ap _ _ hz.1, hz.2⟩
      | (obtain ⟨u, q1, q2, q3⟩ := hz
         exact ⟨u, q1, ap _ _ q2, q3⟩)
      | (obtain ⟨u, k, q1, q2, q3, q4, q5⟩ := hz
         exact ⟨u, k, q1, q2, (hgr3.block k (Array.getElem?_eq_some_iff.1 q3).1 (fun hq => by have := (hrow.1.lt k hq.symm).2; omega)).trans q3, ap _ _ q4, q5⟩)
  · intro a w hI hsz hdf hot hh
    have kw : KeptW B p1 p3 x cs P w0 w := hI
    have hv8 : wr14_V p1 p3 B w0.heap.size x vv P 8 (a.eval (.tmp 103)) w := hh 8 _ 103 (by decide) rfl rfl
    obtain ⟨u, q1, q2⟩ := hv8
    have q3 : a.eval (.tmp 104) = .pointer (some ⟨p3, 4, none⟩) := hh 9 _ 104 (by decide) rfl rfl
    obtain ⟨v', hv'⟩ : ∃ v', a.eval (.tmp 103) = v' := ⟨_, rfl⟩
    rw [hv'] at q1
    obtain ⟨o3, cap3, hv3⟩ := gown_slice q1
    have c3 : w.cell? ⟨p3, 4, none⟩ = some vv := by rw [cell_of_row _ _ _ _ _ _ kw.raw]; exact hcs
    have hst : (Instr.storeAt 53 (.pointer (some ⟨p3, 4, none⟩)) v').run Tryd.prog w = .ok () (w.setCell ⟨p3, 4, none⟩ v') := store_cell (ty := 53) (fun W => Tryd.sizeOf53 W) w ⟨p3, 4, none⟩ v' vv ⟨o3, _, cap3, hv3⟩ c3 (tc_frozen kw.raw rfl)
    refine wpOp_skip0 (w' := w.setCell ⟨p3, 4, none⟩ v') rfl rfl (run_storeOp rfl _ _ _ _ _ q3 hv' hst) rfl ?_
    show Q .normal a (w.setCell ⟨p3, 4, none⟩ v')
    rw [puts_form hsz hdf hot hDs]
    exact hK _ w v' u kw q1 q2

end Go.Proofs.YtbdbjbmjnemknaaDoor
namespace Go.Proofs.YtbdbjbmjnemknaaDoor
open Go Go.RowKit
set_option maxRecDepth 20000

theorem retEB {E : El} (H : E.Ok) {fn : Func} {R : Ending → World → Prop} {a : Act} {w : World} {u p : Tmp} (hr : fn.results = #[.cell p E.elem, .tmp u]) (hd : a.defers = []) (g : Nat) (hp : a.tmps.getD p undef = .pointer (some ⟨g, 0, none⟩)) (cs : Array Value) (hcs : cs.size = E.size)
    (hg : w.heap[g]? = some (.cells cs E.elem (0, 0))) (v : Value) (hu : a.tmps.getD u undef = v) (h : R (.returned (.tuple #[.agg cs, v])) w) : bodyPost Tryd.prog fn R .ret a w := by
  refine bodyPost_ret (v := .tuple #[.agg cs, v]) ?_ hd h
  rw [Array.getD_eq_getD_getElem?] at hp hu
  have hl := H.load w g 0 cs E.elem (0, 0) cs hcs hg (own_cells _ _)
  simp [results, hr, hp, hu, asAddr, hl]
theorem find_next {x : List UInt8} {l : List Cla} {k : Nat} {c : Cla} (h : l[k]? = some c) : findC x (l.drop k) = if c.word == x then some c else findC x (l.drop (k + 1)) := by
  obtain ⟨hk, rfl⟩ := List.getElem?_eq_some_iff.1 h
  rw [List.drop_eq_getElem_cons hk]
  unfold findC
  rw [List.find?_cons]
  cases hx : (l[k].word == x) <;> simp
/-- What Find comes to. -/
def Found (w' : World) (x : List UInt8) (l : List Cla) (cs : Array Value) (b : Bool) : Prop := match findC x l with
  | none => b = false ∧ cs = ClaE.zero
  | some c => b = true ∧ ∃ u, cs = claV c u ∧ FigsAt w' c u

def FindR (w w' : World) (t : List UInt8) (l : List Cla) (e : Ending) : Prop := ∃ cs b, e = .returned (.tuple #[.agg cs, .bool b]) ∧ Found w' t l cs b ∧ Below w.heap.size w w'
end Go.Proofs.YtbdbjbmjnemknaaDoor
namespace Go.Proofs.YtbdbjbmjnemknaaDoor
open Go Go.RowKit
set_option maxRecDepth 20000

theorem found_none {w' : World} {t : List UInt8} {l : List Cla} {cs : Array Value} {b : Bool} (h : Found w' t l cs b) (hf : findC t l = none) : b = false ∧ cs = ClaE.zero := by unfold Found at h; rw [hf] at h; exact h
theorem found_some {w' : World} {t : List UInt8} {l : List Cla} {cs : Array Value} {b : Bool} {c : Cla} (h : Found w' t l cs b) (hf : findC t l = some c) : b = true ∧ ∃ u, cs = claV c u ∧ FigsAt w' c u := by unfold Found at h; rw [hf] at h; exact h
theorem cla_fits7 (c : Cla) (o : Option Addr) (n m : Nat) : Fits ClaE (claV c (.slice o n m)) := ⟨rfl, by simp [claV, Value.oneCell']⟩
theorem zero_fits7 : Fits ClaE ClaE.zero := ⟨rfl, by simp [ClaE, Value.oneCell']⟩

end Go.Proofs.YtbdbjbmjnemknaaDoor
namespace Go.Proofs.YtbdbjbmjnemknaaDoor
open Go Go.RowKit
set_option maxRecDepth 20000

theorem good_addr {l : List Cla} (hl : ∀ c ∈ l, goodC c) {t : List UInt8} (h1 : isAddrW t = true) (h2 : isPortW t = false) (h3 : (t == wProto) = false) : ∀ c, findC t l = some c → (c.nums.length = if c.slash then 5 else 4) ∧ ∀ k, k < 4 → 0 ≤ nth c k ∧ nth c k ≤ 255 := fun c hc => by
  obtain ⟨m1, m2⟩ := find_in hc
  exact addr_facts (hl c m1) (by rw [m2]; exact h1) (by rw [m2]; exact h2) (by rw [m2]; exact h3)
theorem good_port {l : List Cla} (hl : ∀ c ∈ l, goodC c) {t : List UInt8} (h : isPortW t = true) : ∀ c, findC t l = some c → c.nums.length = if c.dash then 2 else 1 := fun c hc => by
  obtain ⟨m1, m2⟩ := find_in hc
  rw [(hl c m1).2.1, mustN_port (by rw [m2]; exact h)]
/-- A line's meaning but for its protocol. -/
def mean5 (r : Raw) : Ent := ⟨false, r.prio.n, actOf r, (preOf r.clauses wSrc).1, (preOf r.clauses wSrc).2, (preOf r.clauses wDst).1, (preOf r.clauses wDst).2, (porOf r.clauses wSport).1, (porOf r.clauses wSport).2, (porOf r.clauses wDport).1, (porOf r.clauses wDport).2, -1⟩
theorem mean5_none {r : Raw} (hd : r.dflt = false) (h : findC wProto r.clauses = none) : mean5 r = meaning r := by
  unfold mean5 meaning proOf; rw [hd, h]; rfl
theorem mean5_some {r : Raw} {c : Cla} (hd : r.dflt = false) (h : findC wProto r.clauses = some c) : entV (meaning r) = (entV (mean5 r)).setIfInBounds 10 (.int .i64 (nth c 0)) := by
  unfold mean5 meaning proOf; rw [hd, h]; rfl

end Go.Proofs.YtbdbjbmjnemknaaDoor
namespace Go.Proofs.YtbdbjbmjnemknaaDoor
open Go Go.RowKit
set_option maxRecDepth 20000

theorem flt_prio {x : Raw} (h : (decide (x.prio.n < 0) || decide (65535 < x.prio.n)) = true) : fltR (faultR x) = (10, x.prio.pos) := by unfold faultR; rw [if_pos h]; rfl
theorem flt_cs {x : Raw} (h : (decide (x.prio.n < 0) || decide (65535 < x.prio.n)) = false) : fltR (faultR x) = fltR (faultCs [] x.clauses) := by unfold faultR; rw [h]; rfl
theorem cs_drop {l : List Cla} {k : Nat} {c : Cla} (h : l[k]? = some c) : faultCs (l.take k) (l.drop k) = (faultC (l.take k) c).bind fun _ => faultCs (l.take (k + 1)) (l.drop (k + 1)) := by
  obtain ⟨hk, rfl⟩ := List.getElem?_eq_some_iff.1 h
  rw [List.drop_eq_getElem_cons hk, faultCs, List.take_succ_eq_append_getElem hk]
theorem cs_many {l : List Cla} {k : Nat} {c : Cla} (h : l[k]? = some c) (hm : (mustN c == 0 || c.nums.length != mustN c) = true) : fltR (faultCs (l.take k) (l.drop k)) = (8, c.pos) := by
  rw [cs_drop h]; unfold faultC; rw [if_pos hm]; rfl
theorem cs_twice {l : List Cla} {k : Nat} {c : Cla} (h : l[k]? = some c) (hm : (mustN c == 0 || c.nums.length != mustN c) = false) (ht : (l.take k).any (fun d => d.word == c.word) = true) : fltR (faultCs (l.take k) (l.drop k)) = (9, c.pos) := by
  rw [cs_drop h]; unfold faultC; rw [hm, ht]; rfl
theorem cs_nums {l : List Cla} {k : Nat} {c : Cla} (h : l[k]? = some c) (hm : (mustN c == 0 || c.nums.length != mustN c) = false) (ht : (l.take k).any (fun d => d.word == c.word) = false) : fltR (faultCs (l.take k) (l.drop k)) = fltR ((faultN c (nth c 0) 0 c.nums).bind fun _ => faultCs (l.take (k + 1)) (l.drop (k + 1))) := by
  rw [cs_drop h]; unfold faultC; rw [hm, ht]; rfl
theorem fn_drop {c : Cla} {a : Int} {k : Nat} {f : Fig} (h : c.nums[k]? = some f) : faultN c a k (c.nums.drop k) = if decide (f.n < 0) || decide (mostN c.word k < f.n) || (c.dash && isPortW c.word && k == 1 && decide (f.n < a)) then .error (10, f.pos) else faultN c a (k + 1) (c.nums.drop (k + 1)) := by
  obtain ⟨hk, rfl⟩ := List.getElem?_eq_some_iff.1 h
  rw [List.drop_eq_getElem_cons hk, faultN]
theorem fn_bad {c : Cla} {a : Int} {k : Nat} {f : Fig} (h : c.nums[k]? = some f) (hb : (decide (f.n < 0) || decide (mostN c.word k < f.n) || (c.dash && isPortW c.word && k == 1 && decide (f.n < a))) = true) (g : Unit → ResI Unit) : fltR ((faultN c a k (c.nums.drop k)).bind g) = (10, f.pos) := by rw [fn_drop h, hb]; rfl
theorem fn_good {c : Cla} {a : Int} {k : Nat} {f : Fig} (h : c.nums[k]? = some f) (hb : (decide (f.n < 0) || decide (mostN c.word k < f.n) || (c.dash && isPortW c.word && k == 1 && decide (f.n < a))) = false) (g : Unit → ResI Unit) : fltR ((faultN c a k (c.nums.drop k)).bind g) = fltR ((faultN c a (k + 1) (c.nums.drop (k + 1))).bind g) := by rw [fn_drop h, hb]; rfl
/-- The rest of a line's faults, from a clause's number on. -/
def restJ7 (l : List Cla) (k : Nat) (c : Cla) (j : Nat) : Int × Int := fltR ((faultN c (nth c 0) j (c.nums.drop j)).bind fun _ => faultCs (l.take (k + 1)) (l.drop (k + 1)))

end Go.Proofs.YtbdbjbmjnemknaaDoor
namespace Go.Proofs.YtbdbjbmjnemknaaDoor
open Go Go.RowKit
set_option maxRecDepth 20000

theorem wl_build0E {E : El} (H : E.Ok) {ops : Array Oper} {rest : List Oper} {o : Oper} {a : Act} {w : World} {Q : Exit → Act → World → Prop} (hg : o.guard = none) (ho : o.op = .buildSlice E.slice 0 #[])
    (h : wpList Tryd.prog ops Q rest (a.put o.dst (.slice (some ⟨w.heap.size, 0, none⟩) 0 0)) (w.alloc (.cells #[] E.elem))) : wpList Tryd.prog ops Q (o :: rest) a w := by
  obtain ⟨ie, hie, hz, hs, _⟩ := H.info
  refine wpList_plain hg fun _ hK => ?_
  unfold Oper.wp execOp
  have hrun : (Instr.buildSlice E.slice 0 #[]).run Tryd.prog w = .ok (.slice (some ⟨w.heap.size, 0, none⟩) 0 0) (w.alloc (.cells #[] E.elem)) := by
    have h0 : Array.range 0 = #[] := Array.eq_empty_of_size_eq_zero (by simp)
    simp [Instr.buildSlice, run_underlying H.hs, sizeOf, typeInfo, hie, Instr.fill, newRow, h0]
  simp only [ho, Sem.run_bind, List.map_toArray, List.map_nil, hrun, Result.andThen_ok]
  exact hK _ _ h
theorem wl_at {P : Program} {ops : Array Oper} {Q : Exit → Act → World → Prop} {o : Oper} {rest : List Oper} {a : Act} {w : World} (h : wpList P ops Q (o :: rest) a w) : wpList P ops Q (o :: rest) a w := h
theorem wl_atL {P : Program} {ops : Array Oper} {Q : Exit → Act → World → Prop} {o : Oper} {rest : List Oper} {a : Act} {w : World} (x : Operand) (_ : o.guard = none) (_ : o.op = .load 55 x) (h : wpList P ops Q (o :: rest) a w) : wpList P ops Q (o :: rest) a w := h
theorem ents_none (B : Nat) (w : World) (h : B ≤ w.heap.size) : EntsOwn B (w.alloc (.cells #[] 45)) [] (.slice (some ⟨w.heap.size, 0, none⟩) 0 0) := World.ownsRow_lit w #[] 0 h (by decide) rfl
theorem chk_err {size : Int} {k : Nat} {had : Bool} {r : Raw} {L : List Raw} {m : List Ent} {P : List Ent × Int × Int} (HP : P = outC (checkGo size 0 false L)) (HC : checkGo size 0 false L = (checkGo size k had (L.drop k)).map fun y => m ++ y) (HD : L.drop k = r :: L.drop (k + 1)) {a b : Int} (h : rowF k had r = (a, b)) (ha : a ≠ 0) : P = ([], a, b) := by
  obtain ⟨e, h1, h2⟩ := check_bad size k had r (L.drop (k + 1)) (by rw [h]; exact ha)
  rw [HP, HC, HD, h1]
  rw [h] at h2 ⊢
  simp only at h2
  rw [h2]
  rfl
theorem chk_go {size : Int} {k : Nat} {had : Bool} {r : Raw} {L : List Raw} {m : List Ent} (HC : checkGo size 0 false L = (checkGo size k had (L.drop k)).map fun y => m ++ y) (HD : L.drop k = r :: L.drop (k + 1)) {b : Int} (h : rowF k had r = (0, b)) : (checkGo size 0 false L = (checkGo size (k + 1) (had || r.dflt) (L.drop (k + 1))).map fun y => (m ++ [meaning r]) ++ y) ∧ rightR r := by
  obtain ⟨h1, h2, -⟩ := check_good size k had r (L.drop (k + 1)) (by rw [h])
  exact ⟨by rw [HC, HD, h1, map_app], h2⟩
theorem row_many {k : Nat} {had : Bool} {r : Raw} (h : 64 ≤ k) : rowF k had r = (4, r.pos) := by unfold rowF orF; simp [h]
theorem row_twice {k : Nat} {r : Raw} (h : ¬ 64 ≤ k) (hd : r.dflt = true) : rowF k true r = (9, r.pos) := by unfold rowF orF; simp [h, hd]
theorem row_fault {k : Nat} {had : Bool} {r : Raw} (h : ¬ 64 ≤ k) (hd : r.dflt = false) (hf : (fltR (faultR r)).1 ≠ 0) : rowF k had r = ((fltR (faultR r)).1, (fltR (faultR r)).2) := by unfold rowF orF lineF; simp [h, hd, hf]
theorem row_act {k : Nat} {had : Bool} {r : Raw} (h : ¬ 64 ≤ k) (h2 : (had && r.dflt) = false) (h3 : (lineF r).1 = 0) : rowF k had r = orF (actF r) (0, 0) := by unfold rowF; simp only [orF]; simp [h, h2, h3]
theorem line_dflt {r : Raw} (h : r.dflt = true) : (lineF r).1 = 0 := by unfold lineF; rw [h]; rfl
theorem line_ok {r : Raw} (h : (fltR (faultR r)).1 = 0) : (lineF r).1 = 0 := by unfold lineF; split <;> first | rfl | exact h
theorem act_port {r : Raw} (hd : r.drop = false) (h : (decide (r.port.n < 1) || decide (99 < r.port.n)) = true) : orF (actF r) (0, 0) = (10, r.port.pos) := by unfold actF orF; rw [hd, h]; rfl
theorem act_drop {r : Raw} (hd : r.drop = true) : orF (actF r) (0, 0) = (0, 0) := by unfold actF orF; rw [hd]; rfl
theorem act_fit {r : Raw} (h : (decide (r.port.n < 1) || decide (99 < r.port.n)) = false) : orF (actF r) (0, 0) = (0, 0) := by unfold actF orF; rw [h, Bool.and_false]; rfl

end Go.Proofs.YtbdbjbmjnemknaaDoor
