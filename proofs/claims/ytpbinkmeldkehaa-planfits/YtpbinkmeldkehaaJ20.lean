import Derived.Test.YtpbinkmeldkehaaJ19
namespace Go.Proofs.Ytpbinkmeldkehaa
open Go Go.Lib Go.RowKit Ieee
set_option maxRecDepth 20000

/-! Leaves appended to a row of leaves of one's own. -/
theorem addr_form12 (g off j : Nat) : (⟨g, off, none⟩ : Addr).add j = ⟨g, off + j, none⟩ := by unfold Addr.add; split <;> simp_all
theorem gcells_size12 {α : Type} (enc : α → Array Value) (n : Nat) : ∀ (C : List α), (∀ c ∈ C, (enc c).size = n) → (gcells enc C).length = C.length * n
  | [], _ => by simp [gcells]
  | c :: C, h => by
    rw [gcells_cons, List.length_append, Array.length_toList, h c (by simp), gcells_size12 enc n C fun d hd => h d (by simp [hd]), List.length_cons, Nat.add_mul, Nat.one_mul, Nat.add_comm]
/-- A leaf's rules stay while a row of leaves grows. -/
theorem LfR.grown {B B' : Nat} {w w' : World} {v : Value} {n : Nat} {xs : List Value} (hv : w.ownsRow B' 48 29 v n xs) (hgr : w.grownBy w' v.ownBlock) {x : LeafM} {u : Value} (h : LfR B w x u) : LfR B w' x u :=
  ⟨h.1, own_grown hgr h.2 (own_apart hv h.2 (by decide))⟩
theorem wl_appL {ops : Array Oper} {rest : List Oper} {o : Oper} {a : Act} {w : World} {Q : Exit → Act → World → Prop} (hgd : o.guard = none) (s x : Operand) (ho : o.op = .call { callee := .builtin .append, args := #[s, x], argTypes := #[30, 30] })
    (B : Nat) (v u : Value) (C D : List LeafM) (hs : a.eval s = v) (hC : LeavesOwn B w v C) (hx : a.eval x = u) (hD : LeavesAt B w u D) (hD0 : 0 < D.length) (hn : C.length + D.length ≤ 1000000) (hB : B ≤ w.heap.size)
    (h : ∀ v' w', LeavesOwn B w' v' (C ++ D) → w.grownBy w' v.ownBlock → (v'.ownBlock = v.ownBlock ∨ v'.ownBlock = some w.heap.size) → wpList Try.prog ops Q rest (a.put o.dst v') w') : wpList Try.prog ops Q (o :: rest) a w := by
  obtain ⟨i0, hi, hz0, hz1, hz2⟩ := LeafOk.info
  obtain ⟨P, hP1, hP2, hP3⟩ := hC
  obtain ⟨P', hP1', hP2', hP3'⟩ := hD
  have hpl : P.length = C.length := by rw [← hP1, List.length_map]
  have hpl' : P'.length = D.length := by rw [← hP1', List.length_map]
  obtain ⟨oa, cap, rfl, hc1, hc2, hc3⟩ := hP2'
  obtain ⟨g, off, cur, t, fr, rfl, hg, _⟩ := hc3 0 (by omega)
  have hrow : ∀ p ∈ P', (leafV p.1 p.2).size = 29 := fun p hp => leafV_size (hP3' p hp).1 p.2
  have hlen := gcells_size12 (fun p : LeafM × Value => leafV p.1 p.2) 29 P' hrow
  refine wpList_append_own_at _ hgd s x 30 ho B 48 i0 (.agg LeafE.zero) 29 72 Try.underlying30 hi hz0 hz1 hz2 LeafOk.hz (by decide) v _ _ hs hP2 ⟨g, off, none⟩ P'.length cap (gcells (fun p : LeafM × Value => leafV p.1 p.2) P') hx hlen ?_ ?_ (by unfold maxLen; omega) (by omega) hB ?_
  · intro j y hj
    have hjl := (List.getElem?_eq_some_iff.1 hj).1
    rw [hlen] at hjl
    have hk : j / 29 < P'.length := Nat.div_lt_of_lt_mul (by rw [Nat.mul_comm]; exact hjl)
    obtain ⟨g2, off2, cur2, t2, fr2, e, h5, h6⟩ := hc3 (j / 29) hk
    obtain ⟨rfl, rfl⟩ : g = g2 ∧ off = off2 := by
      have := Option.some.inj e
      simpa using this
    have hr : j % 29 < 29 := Nat.mod_lt _ (by decide)
    have ej : j = 29 * (j / 29) + j % 29 := (Nat.div_add_mod j 29).symm
    have h7 := gcells_at (fun p : LeafM × Value => leafV p.1 p.2) 29 P' hrow (j / 29) hk (j % 29) hr
    rw [← ej, hj] at h7
    have h8 := h6 (j % 29) hr
    rw [← h7] at h8
    rw [addr_form12, cell_of_row _ _ _ _ _ _ h5, ← h8]
    congr 1
    show off + j = off + j / 29 * 29 + j % 29
    omega
  · intro y hy
    unfold gcells at hy
    obtain ⟨p, hp, hy⟩ := List.mem_flatMap.1 hy
    obtain ⟨o', m', hu⟩ := (hP3' p hp).slice
    exact (Array.all_eq_true_iff_forall_mem.1 (leaf_fits (hP3' p hp).1 ⟨_, _, _, hu⟩).2) y (by simpa using hy)
  · intro v' w' h1 h2 h3 h4
    refine h v' w' ⟨P ++ P', by rw [List.map_append, hP1, hP1'], ?_, fun p hp => ?_⟩ h2 h4
    · rw [gcells_append, List.length_append]
      exact h1
    · rcases List.mem_append.1 hp with hp | hp
      · exact LfR.grown hP2 h2 (hP3 p hp)
      · exact LfR.grown hP2 h2 (hP3' p hp)
/-- Another row of leaves stays meanwhile. -/
theorem leaves_grown {B B' : Nat} {w w' : World} {v u : Value} {n : Nat} {xs : List Value} {C : List LeafM} (hv : w.ownsRow B' 48 29 v n xs) (hgr : w.grownBy w' v.ownBlock) (hne : ∀ g, v.ownBlock = some g → u.ownBlock ≠ some g) (h : LeavesOwn B w u C) : LeavesOwn B w' u C :=
  NOwn.grown hgr h hne fun _ _ hr => LfR.grown hv hgr hr
end Go.Proofs.Ytpbinkmeldkehaa
namespace Go.Proofs.Ytpbinkmeldkehaa
open Go Go.Lib Go.RowKit Ieee
set_option maxRecDepth 20000

/-! The tree: one go through the leaves, and all of them. -/
def passT (b : Nat) (L : Int) (s : Nat) : List LeafM → List LeafM → Bool × List LeafM
  | nx, [] => (false, nx)
  | nx, x :: r => if L ≤ (nx.length : Int) + ((r.length : Int) + 1) then (true, nx ++ x :: r) else passT b L s (nx ++ if x.rules.length = s then partsT b x else [x]) r
def treeF (b : Nat) (L G : Int) : Nat → Nat → List LeafM → List LeafM
  | 0, _, out => out
  | f + 1, s, out => if max G 0 < (s : Int) then (match passT b L s [] out with | (true, r) => r | (false, r) => treeF b L G f (mostT s r) r) else out
def treeT (b : Nat) (L G : Int) (l : List RuleM) : List LeafM := treeF b L G ((clipT Z Z l).length + 1) (clipT Z Z l).length [⟨(Z, Z), 0, 0, clipT Z Z l⟩]
theorem parts_small {b : Nat} {x y : LeafM} (h : y ∈ partsT b x) : y.rules.length ≤ x.rules.length := by
  unfold partsT at h
  split at h
  · simp at h; rw [h]; exact Nat.le_refl _
  · simp at h
    rcases h with rfl | rfl
    · exact clip_len _ _ _
    · exact clip_len _ _ _
theorem parts_len (b : Nat) (x : LeafM) : 1 ≤ (partsT b x).length ∧ (partsT b x).length ≤ 2 := by
  unfold partsT
  split <;> simp
theorem pass_stop {b s : Nat} {L : Int} {nx out : List LeafM} {i : Nat} {x : LeafM} (hx : out[i]? = some x) (hL : L ≤ (nx.length : Int) + (out.length : Int) - (i : Int)) : passT b L s nx (out.drop i) = (true, nx ++ out.drop i) := by
  obtain ⟨hi, rfl⟩ := List.getElem?_eq_some_iff.1 hx
  rw [List.drop_eq_getElem_cons hi, passT, if_pos (by rw [List.length_drop]; omega)]
theorem pass_step {b s : Nat} {L : Int} {nx out : List LeafM} {i : Nat} {x : LeafM} (hx : out[i]? = some x) (hL : ¬ L ≤ (nx.length : Int) + (out.length : Int) - (i : Int)) : passT b L s nx (out.drop i) = passT b L s (nx ++ if x.rules.length = s then partsT b x else [x]) (out.drop (i + 1)) := by
  obtain ⟨hi, rfl⟩ := List.getElem?_eq_some_iff.1 hx
  rw [List.drop_eq_getElem_cons hi, passT, if_neg (by rw [List.length_drop]; omega)]
theorem pass_end {b s : Nat} {L : Int} {nx out : List LeafM} {i : Nat} (hi : out.length ≤ i) : passT b L s nx (out.drop i) = (false, nx) := by
  rw [List.drop_of_length_le hi, passT]
theorem tree_stop {b f s : Nat} {L G : Int} {out r : List LeafM} (hG : max G 0 < (s : Int)) (h : passT b L s [] out = (true, r)) : treeF b L G (f + 1) s out = r := by
  rw [treeF, if_pos hG, h]
theorem tree_step {b f s : Nat} {L G : Int} {out r : List LeafM} (hG : max G 0 < (s : Int)) (h : passT b L s [] out = (false, r)) : treeF b L G (f + 1) s out = treeF b L G f (mostT s r) r := by
  rw [treeF, if_pos hG, h]
theorem tree_done {b f s : Nat} {L G : Int} {out : List LeafM} (hG : ¬ max G 0 < (s : Int)) : treeF b L G f s out = out := by
  cases f with
  | zero => rfl
  | succ f => rw [treeF, if_neg hG]
theorem leaves_sl {B : Nat} {w : World} {v : Value} {C : List LeafM} (h : LeavesOwn B w v C) : LeavesAt B w v C := by
  obtain ⟨P, h1, h2, h3⟩ := h
  exact ⟨P, h1, gsl_of h2 fun c hc => leafV_size (h3 c hc).1 c.2, h3⟩
theorem leaves_drop {B : Nat} {w : World} {g off n cap i : Nat} {C : List LeafM} (h : LeavesAt B w (.slice (some ⟨g, off, none⟩) n cap) C) (hi : i < n) : LeavesAt B w (.slice (some ⟨g, off + i * 29, none⟩) (n - i) (cap - i)) (C.drop i) := by
  obtain ⟨P, h1, h2, h3⟩ := h
  obtain ⟨o, cap', e, h4, h5, h6⟩ := h2
  simp only [Value.slice.injEq] at e
  obtain ⟨rfl, e2, rfl⟩ := e
  refine ⟨P.drop i, by rw [← h1, List.map_drop], ⟨_, _, by rw [List.length_drop, ← e2], by rw [List.length_drop]; omega, by omega, fun k hk => ?_⟩, fun p hp => h3 p (List.mem_of_mem_drop hp)⟩
  rw [List.length_drop] at hk
  obtain ⟨g', off', cur, t, fr, e3, h7, h8⟩ := h6 (i + k) (by omega)
  obtain ⟨rfl, rfl⟩ : g = g' ∧ off = off' := by simpa using Option.some.inj e3
  refine ⟨g, off + i * 29, cur, t, fr, rfl, h7, fun j hj => ?_⟩
  have h9 := h8 j hj
  rw [List.getElem_drop, ← h9]
  congr 1
  show off + i * 29 + k * 29 + j = off + (i + k) * 29 + j
  omega
theorem leaves_own_slice {B : Nat} {w : World} {v : Value} {C : List LeafM} (h : LeavesOwn B w v C) : ∃ o cap, v = .slice o C.length cap ∧ C.length ≤ cap ∧ cap ≤ maxLen := NSl.slice (leaves_sl h)
end Go.Proofs.Ytpbinkmeldkehaa
namespace Go.Proofs.Ytpbinkmeldkehaa
open Go Go.Lib Go.RowKit Ieee
set_option maxRecDepth 20000

theorem m0_Z : m0 = Z := by first | rfl | decide
theorem own_ge12 {B : Nat} {w : World} {v : Value} {C : List LeafM} (h : LeavesOwn B w v C) : ∀ g, v.ownBlock = some g → B ≤ g := fun g hg => by
  obtain ⟨P, _, h2, _⟩ := h
  exact (World.ownsRow.lt h2 g hg).1
theorem below_grown12 {a w w' : World} {o : Option Nat} (h : Below a.heap.size a w) (hgr : w.grownBy w' o) (ho : ∀ g, o = some g → a.heap.size ≤ g) : Below a.heap.size a w' :=
  h.trans ((Below.refl _ _).grown hgr h.size ho)
theorem own_row12 {B : Nat} {w : World} {v : Value} {C : List LeafM} (h : LeavesOwn B w v C) : ∃ n xs, w.ownsRow B 48 29 v n xs := by
  obtain ⟨P, _, h2, _⟩ := h
  exact ⟨_, _, h2⟩
theorem own_lt12 {B : Nat} {w : World} {v : Value} {C : List LeafM} (h : LeavesOwn B w v C) : ∀ g, v.ownBlock = some g → g < w.heap.size := fun g hg => by
  obtain ⟨P, _, h2, _⟩ := h
  exact (World.ownsRow.lt h2 g hg).2
set_option maxHeartbeats 16000000 in
theorem tree_any (l : List RuleM) (hl0 : ∀ r ∈ l, okR8 r) (hn1 : l.length ≤ 100000) (vl : Value) (L G : Int) (hL : L ≤ 1000) (b : Nat) (hwb : Wd b) (w : World) (hl : RulesAt w vl l) :
    Calls Try.prog 29 #[vl, .int .i64 L, .int .i64 G, .float .f64 b] w fun e w' => (∃ v, e = .returned v ∧ LeavesOwn w.heap.size w' v (treeT b L G l)) ∧ Below w.heap.size w w' := by
  have AL : Hid (∀ W, Calls Try.prog 37 #[] W fun e w' => e = .returned (.agg (cv Z Z)) ∧ Below W.heap.size W w') := fun W => by have := all0 W; rw [m0_Z] at this; exact this
  have LF : Hid (∀ W, RulesAt W vl l → Calls Try.prog 36 #[vl, .agg (cv Z Z)] W fun e w' => (∃ u, e = .returned (.agg (leafV ⟨(Z, Z), 0, 0, clipT Z Z l⟩ u)) ∧ LfR W.heap.size w' ⟨(Z, Z), 0, 0, clipT Z Z l⟩ u) ∧ Below W.heap.size W w') := fun W h => leaf_any l hl0 hn1 vl Z Z Z_byt Z_byt W h
  have PA : Hid (∀ (x : LeafM) B u W, x.rules.length ≤ 100000 → B ≤ W.heap.size → LfR B W x u → Calls Try.prog 39 #[.agg (leafV x u), .float .f64 b] W fun e w' => (∃ v, e = .returned v ∧ LeavesOwn B w' v (partsT b x)) ∧ Below W.heap.size W w') := fun x B u W h1 h2 h3 => parts_any x h1 b hwb B u W h2 h3
  have MO : Hid (∀ (C : List LeafM) (bound : Int) B vc W, C.length ≤ 100000 → (∀ x ∈ C, x.rules.length ≤ 100000) → LeavesAt B W vc C → Calls Try.prog 38 #[vc, .int .i64 bound] W fun e w' => e = .returned (.int .i64 (mostT bound C : Nat)) ∧ Below W.heap.size W w') := fun C bound B vc W h1 h2 h3 => most_any C h1 h2 bound B vc W h3
  have HL : Hid (RulesAt w vl l) := hl
  have hcl : (clipT Z Z l).length ≤ 100000 := Nat.le_trans (clip_len _ _ _) hn1
  obtain ⟨RES, hRES⟩ : ∃ RES, RES = treeT b L G l := ⟨_, rfl⟩
  have HRES : Hid (RES = treeF b L G ((clipT Z Z l).length + 1) (clipT Z Z l).length [⟨(Z, Z), 0, 0, clipT Z Z l⟩]) := hRES
  rw [← hRES]
  obtain ⟨x0, hx0⟩ : ∃ x0 : LeafM, x0 = ⟨(Z, Z), 0, 0, clipT Z Z l⟩ := ⟨_, rfl⟩
  have hxr : (clipT Z Z l) = x0.rules := by rw [hx0]
  rw [← hx0] at LF HRES
  rw [hxr] at HRES hcl
  clear hl hl0 hwb hRES hx0 hxr
  obtain ⟨vo0, wl0, hv0⟩ : ∃ vo : Value, ∃ o n m, vl = .slice o n m := by
    obtain ⟨o, cap, e, _, _⟩ := GSl.slice HL.out
    exact ⟨vl, o, _, cap, e⟩
  clear hv0
  go_enter Try.func29, Try.ntmps29
  go_wp2_with fail
  go_step3
  go_wp2_with (first | (go_at_call 37; refine (AL.out _).mono ?_; rintro e w1 ⟨rfl, hb1⟩; refine of_stopT ?_))
  unfold StopT
  have B1 : Hid (Below w.heap.size w w1) := hb1
  have lf := LF.out w1 (GSl.below HL.out hb1)
  clear hb1
  go_wp2_with (first | (go_at_call 36; refine lf.mono ?_; rintro e w2 ⟨⟨u, rfl, hu⟩, hb2⟩; refine of_stopT ?_))
  unfold StopT
  have B2 : Hid (Below w.heap.size w w2) := below_stepR B1.out B1.out.size hb2
  have L2 : Hid (LfR w.heap.size w2 x0 u) := hu.base B1.out.size
  have hsz := leafV_size hu.1 u
  have hat := (leaf_at hu.1 u).2.2.2
  obtain ⟨o2, cap2, rfl⟩ := hu.slice
  clear hu hb2 lf
  obtain ⟨w3, hw3⟩ : ∃ w3, w3 = w2.alloc (.cells (leafV x0 (.slice o2 x0.rules.length cap2)) LeafE.elem) := ⟨_, rfl⟩
  have O3 : Hid (LeavesOwn w.heap.size w3 (.slice (some ⟨w2.heap.size, 0, none⟩) 1 1) [x0]) := by show LeavesOwn _ _ _ _; rw [hw3]; exact one_own B2.out.size L2.out
  have B3 : Hid (Below w.heap.size w w3) := by show Below _ _ _; rw [hw3]; exact B2.out.alloc B2.out.size _
  have c28 : w3.cell? ⟨w2.heap.size, 28, none⟩ = some (.slice o2 x0.rules.length cap2) := (cell_of_row _ _ _ _ _ _ (show w3.heap[w2.heap.size]? = some (.cells (leafV x0 (.slice o2 x0.rules.length cap2)) 48 (0, 0)) by rw [hw3]; exact heap_new _ _ _ rfl)).trans hat
  go_wp2_with (first | (refine wl_buildE (E := LeafE) LeafOk rfl _ rfl (leafV x0 (.slice o2 x0.rules.length cap2)) hsz rfl ?_; refine of_stopT ?_))
  unfold StopT
  rw [← hw3]
  clear hw3 hat hsz
  have HS0 : Hid (∀ x ∈ [x0], x.rules.length ≤ 100000) := fun x hx => by simp at hx; rw [hx]; exact hcl
  have HF0 : Hid (RES = treeF b L G (x0.rules.length + 1) x0.rules.length [x0]) := HRES
  generalize w2.heap.size = q2 at O3 c28
  generalize hs0 : x0.rules.length = s0 at c28 HF0 hcl
  clear hs0 L2 B2 B1
  go_wp2_with fail
  go_step3
  go_wp2_with fail
  go_loopw [9, 10] (fun vo vs wr => ∃ (s f : Nat) (out : List LeafM), vs = .int .i64 (s : Int) ∧ Hid (s < f) ∧ s ≤ 100000 ∧ out.length ≤ 2000 ∧ Hid (RES = treeF b L G f s out) ∧ Hid (LeavesOwn w.heap.size wr vo out) ∧ Hid (∀ x ∈ out, x.rules.length ≤ 100000) ∧ Hid (Below w.heap.size w wr)) (fun _ vs _ => (intOf vs).toNat)
  case atStart => exact ⟨s0, s0 + 1, [x0], rfl, Nat.lt_succ_self _, hcl, by simp, HF0, O3, HS0, B3⟩
  case round =>
    clear O3 HS0 B3 HF0 hcl c28 LF AL HL
    obtain ⟨s, f, out, rfl, HF, hs, hol, HT, HO, HS, HB⟩ := hrel
    obtain ⟨oo, co, rfl, hc1, hc2⟩ := leaves_own_slice HO.out
    obtain ⟨n, hn0⟩ : ∃ n, n = out.length := ⟨_, rfl⟩
    have HN0 : Hid (n = out.length) := hn0
    rw [← hn0] at HO hc1 hol ⊢
    clear hn0
    obtain ⟨mg, hmg⟩ : ∃ mg, mg = max G 0 := ⟨_, rfl⟩
    have HMG : Hid (mg = max G 0) := hmg
    have hmg0 : 0 ≤ mg := by omega
    unfold maxLen at hc2
    by_cases hG : mg < (s : Int)
    · have HG : Hid (max G 0 < (s : Int)) := by show _ < _; rw [← HMG.out]; exact hG
      clear hmg
      have hG' : (s : Int) > mg := hG
      go_wp2_with (refine wl_maxI rfl _ _ rfl G 0 mg rfl rfl HMG.out ?_)
      go_loopw [9, 11, 32] (fun v9 vn vi wx => ∃ (i : Nat) (nx : List LeafM), vi = .int .i64 (i : Int) ∧ v9 = .slice oo n co ∧ i ≤ n ∧ nx.length + (n - i) ≤ 2000 ∧ Hid (passT b L s [] out = passT b L s nx (out.drop i)) ∧ Hid (LeavesOwn w.heap.size wx vn nx) ∧ Hid (LeavesOwn w.heap.size wx (.slice oo n co) out) ∧ Hid (∀ g, vn.ownBlock = some g → (Value.slice oo n co).ownBlock ≠ some g) ∧ Hid (∀ x ∈ nx, x.rules.length ≤ 100000) ∧ Hid (Below w.heap.size w wx)) (fun _ _ vi _ => n - (intOf vi).toNat)
      case atStart => exact ⟨0, [], rfl, rfl, Nat.zero_le _, by simp; exact hol, by show _ = _; rw [List.drop_zero], NOwn.nil _ _ _ _ _, HO, fun g hg => by (cases hg), fun x hx => by simp at hx, HB⟩
      case round =>
        clear HO HB
        obtain ⟨i, nx, rfl, rfl, hi, hln, HP, HN, HO, HA, HNS, HB⟩ := hrel
        obtain ⟨on, cn, rfl, hcn1, hcn2⟩ := leaves_own_slice HN.out
        obtain ⟨m, hm0⟩ : ∃ m, m = nx.length := ⟨_, rfl⟩
        have HM0 : Hid (m = nx.length) := hm0
        rw [← hm0] at HN hcn1 hln HA ⊢
        clear hm0
        unfold maxLen at hcn2
        by_cases hlt : i < n
        · have hlt' : (i : Int) < (n : Int) := by omega
          obtain ⟨g, off, cur, ty, fr, x, u, rfl, hg, hc, hxi, hxu⟩ := (leaves_sl HO.out).at i hlt
          obtain ⟨o2, cap2, rfl⟩ := hxu.slice
          have HX : Hid (out[i]? = some x) := hxi
          have HU : Hid (LfR w.heap.size wr x (.slice o2 x.rules.length cap2)) := hxu
          have hfit := leaf_fits hxu.1 (u := .slice o2 x.rules.length cap2) ⟨_, _, _, rfl⟩
          have hsz := leafV_size hxu.1 (.slice o2 x.rules.length cap2)
          have hrl : x.rules.length ≤ 100000 := HS.out x (List.mem_of_getElem? hxi)
          have hrc := (leaf_at hxu.1 (.slice o2 x.rules.length cap2)).2.2.2
          have K1 : Hid (wr.heap[g]? = some (.cells cur ty fr)) := hg
          have H1 : Hid (∀ j, j < 29 → cur[off + i * 29 + j]? = (leafV x (.slice o2 x.rules.length cap2))[j]?) := hc
          obtain ⟨w1, hw1⟩ : ∃ w1, w1 = wr.alloc (.cells (leafV x (.slice o2 x.rules.length cap2)) 48) := ⟨_, rfl⟩
          have BR : Hid (Below wr.heap.size wr w1) := by show Below _ _ _; rw [hw1]; exact (Below.refl _ _).alloc (Nat.le_refl _) _
          have B1 : Hid (Below w.heap.size w w1) := below_stepR HB.out HB.out.size BR.out
          have X1 : Hid (w1.heap[wr.heap.size]? = some (.cells (leafV x (.slice o2 x.rules.length cap2)) 48 (0, 0))) := by show _ = _; rw [hw1]; exact heap_new _ _ _ rfl
          have c28 : w1.cell? ⟨wr.heap.size, 28, none⟩ = some (.slice o2 x.rules.length cap2) := (cell_of_row _ _ _ _ _ _ X1.out).trans hrc
          have U1 : Hid (LfR w.heap.size w1 x (.slice o2 x.rules.length cap2)) := LfR.below _ _ _ _ BR.out HU.out
          have N1 : Hid (LeavesOwn w.heap.size w1 (.slice on m cn) nx) := NOwn.below LfR.below HN.out BR.out
          have O1 : Hid (LeavesOwn w.heap.size w1 (.slice (some ⟨g, off, none⟩) n co) out) := NOwn.below LfR.below HO.out BR.out
          clear hg hc hxi hxu hrc
          go_wp2_with (first | (refine wl_loadE (E := LeafE) LeafOk rfl _ rfl g (off + i * 29) rfl cur ty fr (leafV x (.slice o2 x.rules.length cap2)) hsz K1.out H1.out ?_) | (refine wl_storeE (E := LeafE) LeafOk rfl _ _ rfl wr.heap.size (leafV x (.slice o2 x.rules.length cap2)) hfit rfl rfl _ (heap_new _ _ _ rfl) rfl _ (setRow_new _ _ _ _ _ rfl) ?_; refine of_stopT ?_))
          unfold StopT
          rw [← hw1]
          clear hw1 K1 H1 HB HN HO HU BR hfit
          generalize wr.heap.size = q at c28 X1
          by_cases hge : L ≤ (m : Int) + (n : Int) - (i : Int)
          · have HE : Hid (RES = nx ++ out.drop i) := by
              show _ = _
              obtain ⟨f', rfl⟩ : ∃ f', f = f' + 1 := ⟨f - 1, by have := HF.out; omega⟩
              rw [HT.out]
              refine tree_stop HG.out ?_
              rw [HP.out]
              exact pass_stop HX.out (by rw [← HM0.out, ← HN0.out]; exact hge)
            have D1 : Hid (LeavesAt w.heap.size w1 (.slice (some ⟨g, off + i * 29, none⟩) (n - i) (co - i)) (out.drop i)) := leaves_drop (leaves_sl O1.out) hlt
            have hge' : (m : Int) + (n : Int) - (i : Int) ≥ L := hge
            have hdl : (out.drop i).length = n - i := by rw [List.length_drop, ← HN0.out]
            go_wp2_with (at_builtin; refine of_stopT ?_)
            unfold StopT
            refine wl_appL rfl _ _ rfl w.heap.size (.slice on m cn) (.slice (some ⟨g, off + i * 29, none⟩) (n - i) (co - i)) nx (out.drop i) rfl N1.out rfl D1.out (by omega) (by rw [hdl, ← HM0.out]; omega) B1.out.size ?_
            intro v' w2 hv' hgr hob
            have V2 : Hid (LeavesOwn w.heap.size w2 v' RES) := by show LeavesOwn _ _ _ _; rw [HE.out]; exact hv'
            have B2 : Hid (Below w.heap.size w w2) := below_grown12 B1.out hgr (own_ge12 N1.out)
            clear hv' hgr hob
            go_wp2_with fail
            try simp only [Exit.noGoto_ret]
            go_ret
            exact ⟨⟨_, rfl, V2.out⟩, B2.out⟩
          · have hge' : ¬ (m : Int) + (n : Int) - (i : Int) ≥ L := hge
            have HST : Hid (passT b L s [] out = passT b L s (nx ++ if x.rules.length = s then partsT b x else [x]) (out.drop (i + 1))) := by
              show _ = _
              rw [HP.out]
              exact pass_step HX.out (by rw [← HM0.out, ← HN0.out]; exact hge)
            have pa := PA.out x w.heap.size (.slice o2 x.rules.length cap2) w1 hrl B1.out.size U1.out
            have HSM : Hid (∀ y ∈ partsT b x, y.rules.length ≤ 100000) := fun y hy => Nat.le_trans (parts_small hy) hrl
            have hpl := parts_len b x
            have hmn : m + (n - i) ≤ 1000 := by omega
            by_cases he : x.rules.length = s
            · have he1 : ((x.rules.length : Int) == (s : Int)) = true := by simp; omega
              have he2 : decide ((x.rules.length : Int) = (s : Int)) = true := by simp; omega
              have HST2 : Hid (passT b L s [] out = passT b L s (nx ++ partsT b x) (out.drop (i + 1))) := by show _ = _; rw [HST.out, if_pos he]
              clear he
              go_wp2_with (first | (refine wl_loadE (E := LeafE) LeafOk rfl _ rfl q 0 rfl _ _ _ (leafV x (.slice o2 x.rules.length cap2)) hsz X1.out (own_cells _ _) ?_) | (go_at_call 39; refine pa.mono ?_; rintro e w2 ⟨⟨vp, rfl, hvp⟩, hb2⟩; refine of_stopT ?_))
              unfold StopT
              have B2 : Hid (Below w.heap.size w w2) := below_stepR B1.out B1.out.size hb2
              have N2 : Hid (LeavesOwn w.heap.size w2 (.slice on m cn) nx) := NOwn.below LfR.below N1.out hb2
              have O2 : Hid (LeavesOwn w.heap.size w2 (.slice (some ⟨g, off, none⟩) n co) out) := NOwn.below LfR.below O1.out hb2
              have P2 : Hid (LeavesOwn w.heap.size w2 vp (partsT b x)) := hvp
              clear hvp hb2 pa
              go_wp2_with (at_builtin; refine of_stopT ?_)
              unfold StopT
              refine wl_appL rfl _ _ rfl w.heap.size (.slice on m cn) vp nx (partsT b x) rfl N2.out rfl (leaves_sl P2.out) (by omega) (by rw [← HM0.out]; omega) B2.out.size ?_
              intro v' wz hv' hgr hob
              have V3 : Hid (LeavesOwn w.heap.size wz v' (nx ++ partsT b x)) := hv'
              have BZ : Hid (Below w.heap.size w wz) := below_grown12 B2.out hgr (own_ge12 N2.out)
              have OZ : Hid (LeavesOwn w.heap.size wz (.slice (some ⟨g, off, none⟩) n co) out) := by
                obtain ⟨_, _, hrw⟩ := own_row12 N2.out
                exact leaves_grown hrw hgr HA.out O2.out
              have AZ : Hid (∀ k, v'.ownBlock = some k → (Value.slice (some ⟨g, off, none⟩) n co).ownBlock ≠ some k) := by
                intro k hk hk2
                rcases hob with e | e
                · rw [e] at hk; exact HA.out k hk hk2
                · rw [e] at hk
                  have h1 := own_lt12 O2.out k hk2
                  have h2 := Option.some.inj hk
                  omega
              have hlz : (nx ++ partsT b x).length + (n - (i + 1)) ≤ 2000 := by rw [List.length_append, ← HM0.out]; omega
              have SZ : Hid (∀ y ∈ nx ++ partsT b x, y.rules.length ≤ 100000) := fun y hy => by
                rcases List.mem_append.1 hy with h | h
                · exact HNS.out y h
                · exact HSM.out y h
              clear hv' hgr hob
              go_wp2_with fail
              go_roundw
              case rel => exact ⟨i + 1, _, by go_num, rfl, by omega, hlz, HST2, V3, OZ, AZ, SZ, BZ⟩
              case measure => simp [intOf]; omega
            · have he1 : ((x.rules.length : Int) == (s : Int)) = false := by simp; omega
              have he2 : decide ((x.rules.length : Int) = (s : Int)) = false := by simp; omega
              have HST2 : Hid (passT b L s [] out = passT b L s (nx ++ [x]) (out.drop (i + 1))) := by show _ = _; rw [HST.out, if_neg he]
              clear he pa
              go_wp2_with (first | (refine wl_loadE (E := LeafE) LeafOk rfl _ rfl q 0 rfl _ _ _ (leafV x (.slice o2 x.rules.length cap2)) hsz X1.out (own_cells _ _) ?_) | (refine wl_buildE (E := LeafE) LeafOk rfl _ rfl (leafV x (.slice o2 x.rules.length cap2)) hsz rfl ?_; refine of_stopT ?_))
              unfold StopT
              obtain ⟨w2, hw2⟩ : ∃ w2, w2 = w1.alloc (.cells (leafV x (.slice o2 x.rules.length cap2)) LeafE.elem) := ⟨_, rfl⟩
              have hb2 : Below w1.heap.size w1 w2 := by rw [hw2]; exact (Below.refl _ _).alloc (Nat.le_refl _) _
              have P2 : Hid (LeavesOwn w.heap.size w2 (.slice (some ⟨w1.heap.size, 0, none⟩) 1 1) [x]) := by show LeavesOwn _ _ _ _; rw [hw2]; exact one_own B1.out.size U1.out
              have B2 : Hid (Below w.heap.size w w2) := below_stepR B1.out B1.out.size hb2
              have N2 : Hid (LeavesOwn w.heap.size w2 (.slice on m cn) nx) := NOwn.below LfR.below N1.out hb2
              have O2 : Hid (LeavesOwn w.heap.size w2 (.slice (some ⟨g, off, none⟩) n co) out) := NOwn.below LfR.below O1.out hb2
              rw [← hw2]
              clear hb2 hw2
              go_wp2_with (at_builtin; refine of_stopT ?_)
              unfold StopT
              refine wl_appL rfl _ _ rfl w.heap.size (.slice on m cn) (.slice (some ⟨w1.heap.size, 0, none⟩) 1 1) nx [x] rfl N2.out rfl (leaves_sl P2.out) (by simp) (by rw [← HM0.out]; simp; omega) B2.out.size ?_
              intro v' wz hv' hgr hob
              have V3 : Hid (LeavesOwn w.heap.size wz v' (nx ++ [x])) := hv'
              have BZ : Hid (Below w.heap.size w wz) := below_grown12 B2.out hgr (own_ge12 N2.out)
              have OZ : Hid (LeavesOwn w.heap.size wz (.slice (some ⟨g, off, none⟩) n co) out) := by
                obtain ⟨_, _, hrw⟩ := own_row12 N2.out
                exact leaves_grown hrw hgr HA.out O2.out
              have AZ : Hid (∀ k, v'.ownBlock = some k → (Value.slice (some ⟨g, off, none⟩) n co).ownBlock ≠ some k) := by
                intro k hk hk2
                rcases hob with e | e
                · rw [e] at hk; exact HA.out k hk hk2
                · rw [e] at hk
                  have h1 := own_lt12 O2.out k hk2
                  have h2 := Option.some.inj hk
                  omega
              have hlz : (nx ++ [x]).length + (n - (i + 1)) ≤ 2000 := by rw [List.length_append, ← HM0.out]; simp; omega
              have SZ : Hid (∀ y ∈ nx ++ [x], y.rules.length ≤ 100000) := fun y hy => by
                rcases List.mem_append.1 hy with h | h
                · exact HNS.out y h
                · simp at h; rw [h]; exact hrl
              clear hv' hgr hob
              go_wp2_with fail
              go_roundw
              case rel => exact ⟨i + 1, _, by go_num, rfl, by omega, hlz, HST2, V3, OZ, AZ, SZ, BZ⟩
              case measure => simp [intOf]; omega
        · have hlt' : ¬ (i : Int) < (n : Int) := by omega
          obtain ⟨f', rfl⟩ : ∃ f', f = f' + 1 := ⟨f - 1, by have := HF.out; omega⟩
          have HT2 : Hid (RES = treeF b L G f' (mostT s nx) nx) := by
            show _ = _
            rw [HT.out]
            refine tree_step HG.out ?_
            rw [HP.out]
            exact pass_end (by rw [← HN0.out]; omega)
          have hml : ((mostT s nx : Nat) : Int) < (s : Int) := most_lt (by omega) nx
          have hms : mostT s nx ≤ 100000 := most_le HNS.out
          have HF2 : Hid (mostT s nx < f') := by show _ < _; have := HF.out; omega
          have mo := MO.out nx (s : Int) w.heap.size (.slice on m cn) wr (by rw [← HM0.out]; omega) HNS.out (leaves_sl HN.out)
          generalize mostT s nx = s2 at HT2 hml hms HF2 mo
          go_wp2_with (first | (go_at_call 38; refine mo.mono ?_; rintro e w2 ⟨rfl, hb2⟩; refine of_stopT ?_))
          unfold StopT
          have B2 : Hid (Below w.heap.size w w2) := below_stepR HB.out HB.out.size hb2
          have N2 : Hid (LeavesOwn w.heap.size w2 (.slice on m cn) nx) := NOwn.below LfR.below HN.out hb2
          clear hb2 mo
          go_wp2_with fail
          go_roundw
          case rel => exact ⟨s2, f', nx, rfl, HF2, hms, by rw [← HM0.out]; omega, HT2, N2, HNS, B2⟩
          case measure => simp [intOf]; omega
    · have HG : Hid (¬ max G 0 < (s : Int)) := by show ¬ _ < _; rw [← HMG.out]; exact hG
      clear hmg
      have HE : Hid (RES = out) := by show _ = _; rw [HT.out]; exact tree_done HG.out
      have hG' : ¬ (s : Int) > mg := hG
      go_wp2_with (refine wl_maxI rfl _ _ rfl G 0 mg rfl rfl HMG.out ?_)
      try simp only [Exit.noGoto_ret]
      go_ret
      exact ⟨⟨_, rfl, by rw [HE.out]; exact HO.out⟩, HB.out⟩
end Go.Proofs.Ytpbinkmeldkehaa
namespace Go.Proofs.Ytpbinkmeldkehaa
open Go Go.Lib Go.RowKit Ieee
set_option maxRecDepth 20000

/-! cut.Find. Leaves wherever they lie, whatever R says of their rules. -/
/-- The first leaf that has the header. -/
def findL (h : LeafM → Bool) : List LeafM → Option Nat
  | [] => none
  | x :: l => if h x then some 0 else (findL h l).map (· + 1)
theorem findL_none {h : LeafM → Bool} : ∀ {l : List LeafM}, (∀ x ∈ l, h x = false) → findL h l = none
  | [], _ => rfl
  | x :: l, hh => by
    unfold findL
    rw [hh x (by simp), findL_none fun y hy => hh y (List.mem_cons_of_mem _ hy)]
    rfl
theorem findL_some {h : LeafM → Bool} : ∀ {l : List LeafM} {k : Nat} {x : LeafM}, l[k]? = some x → h x = true → (∀ j y, j < k → l[j]? = some y → h y = false) → findL h l = some k
  | [], k, x, hk, _, _ => by simp at hk
  | y :: l, 0, x, hk, hx, _ => by
    simp at hk
    subst hk
    unfold findL
    rw [hx]; rfl
  | y :: l, k + 1, x, hk, hx, hj => by
    have ih := findL_some (l := l) (k := k) (x := x) (by simpa using hk) hx fun j z h1 h2 => hj (j + 1) z (by omega) (by simpa using h2)
    unfold findL
    rw [hj 0 y (by omega) (by simp), ih]
    rfl
def fI (s : Option Nat) : Nat := s.getD 0
set_option maxHeartbeats 8000000 in
theorem find_any (R : World → LeafM → Value → Prop) (hR : ∀ w w' a v, Below w.heap.size w w' → R w a v → R w' a v) (hok : ∀ w x u, R w x u → okL x ∧ ∃ o n m, u = .slice o n m) (C : List LeafM) (hn1 : C.length ≤ 100000) (vc : Value) (H : List Int) (hH : Byt H) (w : World) (hc : NSl LeafE leafV R w vc C) :
    Calls Try.prog 17 #[vc, .agg (hv H)] w fun e w' => e = .returned (.tuple #[.int .i64 (fI (findL (fun x => has x.cube.1 x.cube.2 H) C) : Nat), .bool (findL (fun x => has x.cube.1 x.cube.2 H) C).isSome]) ∧ Below w.heap.size w w' := by
  have HHA : Hid (∀ (V M : List Int) W, Byt V → Byt M → Calls Try.prog 33 #[.agg (cv V M), .agg (hv H)] W fun e w' => e = .returned (.bool (has V M H)) ∧ Below W.heap.size W w') := fun V M W h1 h2 => has_any V M H h1 h2 hH W
  have hHl := hH.1
  obtain ⟨o, cap, rfl, hc1, hc2⟩ := NSl.slice hc
  obtain ⟨n, hn0⟩ : ∃ n, n = C.length := ⟨_, rfl⟩
  have HN : Hid (n = C.length) := hn0
  rw [← hn0] at hc hc1 hn1 ⊢
  have HL : Hid (NSl LeafE leafV R w (.slice o n cap) C) := hc
  have HRB : Hid (∀ w w' a v, Below w.heap.size w w' → R w a v → R w' a v) := hR
  have HRO : Hid (∀ w x u, R w x u → okL x ∧ ∃ o n m, u = .slice o n m) := hok
  unfold maxLen at hc2
  obtain ⟨F, hF⟩ : ∃ F, F = findL (fun x => has x.cube.1 x.cube.2 H) C := ⟨_, rfl⟩
  have HFF : Hid (F = findL (fun x => has x.cube.1 x.cube.2 H) C) := hF
  rw [← hF]
  clear hc hn0 hF hR hok hH
  go_enter Try.func17, Try.ntmps17
  go_wp2_with fail
  go_loopw [10] (fun i wr => ∃ (k : Nat), k ≤ n ∧ i = .int .i64 (k : Int) ∧ Hid (∀ j y, j < k → C[j]? = some y → has y.cube.1 y.cube.2 H = false) ∧ Hid (wr.heap[w.heap.size]? = some (.cells (hv H) 38 (0, 0))) ∧ Hid (Below w.heap.size w wr)) (fun i _ => n - (intOf i).toNat)
  case atStart => exact ⟨0, Nat.zero_le _, rfl, fun j y hj => by omega, heap_new _ _ _ rfl, (Below.refl _ _).alloc (Nat.le_refl _) _⟩
  case round =>
    obtain ⟨k, hk, rfl, HP, HZ, HB⟩ := hrel
    by_cases hlt : k < n
    · have hlt' : (k : Int) < (n : Int) := by omega
      obtain ⟨g, off, cur, ty, fr, x, u, rfl, hg, hc, hxk, hxu⟩ := (NSl.below HRB.out HL.out HB.out).at k hlt
      obtain ⟨hx, o2, n2, m2, rfl⟩ := HRO.out _ _ _ hxu
      have HX : Hid (okL x) := hx
      have HXK : Hid (C[k]? = some x) := hxk
      have hfit := leaf_fits hx (u := .slice o2 n2 m2) ⟨_, _, _, rfl⟩
      have hsz := leafV_size hx (.slice o2 n2 m2)
      have CA : Hid (∀ j, j < 26 → (leafV x (.slice o2 n2 m2))[0 + j]? = (cv x.cube.1 x.cube.2)[j]?) := fun j hj => by rw [Nat.zero_add]; exact (leaf_at hx _).1 j hj
      have hVl := hx.1.1
      have hMl := hx.2.1.1
      have K1 : Hid (wr.heap[g]? = some (.cells cur ty fr)) := hg
      have H1 : Hid (∀ j, j < 29 → cur[off + k * 29 + j]? = (leafV x (.slice o2 n2 m2))[j]?) := hc
      obtain ⟨w1, hw1⟩ : ∃ w1, w1 = wr.alloc (.cells (leafV x (.slice o2 n2 m2)) 48) := ⟨_, rfl⟩
      have B1 : Hid (Below w.heap.size w w1) := by show Below _ _ _; rw [hw1]; exact HB.out.alloc HB.out.size _
      have X1 : Hid (w1.heap[wr.heap.size]? = some (.cells (leafV x (.slice o2 n2 m2)) 48 (0, 0))) := by show _ = _; rw [hw1]; exact heap_new _ _ _ rfl
      have Z1 : Hid (w1.heap[w.heap.size]? = some (.cells (hv H) 38 (0, 0))) := by show _ = _; rw [hw1]; exact heap_past _ _ _ _ HZ.out
      have ha := HHA.out x.cube.1 x.cube.2 w1 hx.1 hx.2.1
      clear hg hc hxk hxu hx
      go_wp2_with (first | (refine wl_loadE (E := LeafE) LeafOk rfl _ rfl g (off + k * 29) rfl cur ty fr (leafV x (.slice o2 n2 m2)) hsz K1.out H1.out ?_) | (refine wl_storeE (E := LeafE) LeafOk rfl _ _ rfl wr.heap.size (leafV x (.slice o2 n2 m2)) hfit rfl rfl _ (heap_new _ _ _ rfl) rfl _ (setRow_new _ _ _ _ _ rfl) ?_; refine of_stopT ?_))
      unfold StopT
      rw [← hw1]
      clear hw1 hfit
      generalize wr.heap.size = q at X1
      go_wp2_with (first | (refine wl_loadCw rfl _ rfl q 0 rfl _ _ _ x.cube.1 x.cube.2 hVl hMl X1.out CA.out ?_) | (refine wl_load26 rfl _ rfl w.heap.size rfl H Z1.out hHl ?_) | (go_at_call 33; refine ha.mono ?_; rintro e w2 ⟨rfl, hb2⟩; refine of_stopT ?_))
      unfold StopT
      have B2 : Hid (Below w.heap.size w w2) := below_stepR B1.out B1.out.size hb2
      have Z2 : Hid (w2.heap[w.heap.size]? = some (.cells (hv H) 38 (0, 0))) := (hb2.block _ (Array.getElem?_eq_some_iff.1 Z1.out).1).trans Z1.out
      clear hb2 ha
      cases hhas : has x.cube.1 x.cube.2 H with
      | true =>
        have HE : Hid (F = some k) := by show _ = _; rw [HFF.out]; exact findL_some HXK.out hhas HP.out
        clear hhas
        go_wp2_with fail
        go_ret2
        exact ⟨by rw [HE.out]; rfl, B2.out⟩
      | false =>
        have HP2 : Hid (∀ j y, j < k + 1 → C[j]? = some y → has y.cube.1 y.cube.2 H = false) := by
          intro j y hj hy
          by_cases e : j = k
          · subst e; rw [HXK.out] at hy; cases hy; exact hhas
          · exact HP.out j y (by omega) hy
        clear hhas
        go_wp2_with fail
        go_roundw
        case rel => exact ⟨k + 1, by omega, by go_num, HP2, Z2, B2⟩
        case measure => simp [intOf]; omega
    · have hlt' : ¬ (k : Int) < (n : Int) := by omega
      have HE : Hid (F = none) := by
        show _ = _
        rw [HFF.out]
        refine findL_none fun x hx => ?_
        obtain ⟨j, hj⟩ := List.mem_iff_getElem?.1 hx
        exact HP.out j x (by have := (List.getElem?_eq_some_iff.1 hj).1; have := HN.out; omega) hj
      go_wp2_with fail
      go_ret2
      exact ⟨by rw [HE.out]; rfl, HB.out⟩
end Go.Proofs.Ytpbinkmeldkehaa
namespace Go.Proofs.Ytpbinkmeldkehaa
open Go Go.Lib Go.RowKit Ieee
set_option maxRecDepth 20000

/-! The example that law12.awake asks of. -/
end Go.Proofs.Ytpbinkmeldkehaa
namespace Go.Proofs.Ytpbinkmeldkehaa
open Go Go.Lib Go.RowKit Ieee
set_option maxRecDepth 20000

/-! law12.awake. -/
set_option maxRecDepth 100000 in
theorem build_r0 (V M : List Int) (hV : V.length = 13) (hM : M.length = 13) (W : World) : (Instr.build 44 #[(1, .agg (cv V M)), (2, .int .i64 1)]).run Try.prog W = .ok (.agg (ruleV ⟨0, (V, M), 1⟩)) W := by
  obtain ⟨a0, a1, a2, a3, a4, a5, a6, a7, a8, a9, a10, a11, a12, rfl⟩ := list13 hV
  obtain ⟨b0, b1, b2, b3, b4, b5, b6, b7, b8, b9, b10, b11, b12, rfl⟩ := list13 hM
  kernel_rfl
set_option maxRecDepth 100000 in
theorem build_r1 (W : World) : (Instr.build 44 #[(0, .int .i64 1), (2, .int .i64 2)]).run Try.prog W = .ok (.agg (ruleV ⟨1, (Z, Z), 2⟩)) W := by
  kernel_rfl
theorem wl_buildAny {ops : Array Oper} {rest : List Oper} {o : Oper} {a : Act} {w : World} {Q : Exit → Act → World → Prop} (hgd : o.guard = none) (t : TypeId) (ps : Array (Nat × Operand)) (ho : o.op = .build t ps) (qs : Array (Nat × Value)) (hq : (ps.map fun (i, x) => (i, a.eval x)) = qs) (v : Value)
    (hr : (Instr.build t qs).run Try.prog w = .ok v w) (h : wpList Try.prog ops Q rest (a.put o.dst v) w) : wpList Try.prog ops Q (o :: rest) a w := by
  refine wpList_plain hgd fun _ hK => ?_
  unfold Oper.wp
  rw [run_build12 ho a w qs hq v hr]
  exact hK _ _ h
end Go.Proofs.Ytpbinkmeldkehaa
namespace Go.Proofs.Ytpbinkmeldkehaa
open Go Go.Lib Go.RowKit Ieee
set_option maxRecDepth 20000

/-! The reference's half of a cube. -/
set_option maxHeartbeats 4000000 in
theorem rhalf_any (V M : List Int) (hV : Byt V) (hM : Byt M) (i : Nat) (hi : i < 104) (c : Bool) (w : World) :
    Calls Try.prog 50 #[.agg (cv V M), .int .i64 (i : Int), .int .i64 (if c then 1 else 0)] w fun e w' => e = .returned (.agg (cv (fixV V M i c) (fixM M i))) ∧ Below w.heap.size w w' := by
  have C1 : Hid (∀ W, Calls Try.prog 73 #[.agg (cv V M)] W fun e w' => e = .returned (.agg (cv (can V M) M)) ∧ Below W.heap.size W w') := fun W => rcanon_any V M hV hM W
  have hcb : Byt (can V M) := can_byt V M
  have C2 : Hid (∀ W, Calls Try.prog 72 #[.agg (cv (can V M) M), .int .i64 (i : Int), .int .i64 (if c then 1 else 0)] W fun e w' => e = .returned (.agg (cv (fixV V M i c) (fixM M i))) ∧ Below W.heap.size W w') := fun W => by
    have h := rset_any (can V M) M hcb hM i hi (if c then 1 else 0) W
    have e1 : ((if c then (1 : Int) else 0) == 1) = c := by cases c <;> rfl
    have e2 : ((if c then (1 : Int) else 0) != 2) = true := by cases c <;> rfl
    rw [e1, e2] at h
    exact h
  have hVl := hV.1
  have hMl := hM.1
  have hFl : (fixM M i).length = 13 := (setb_byt M i true).1
  have hAl : (fixV V M i c).length = 13 := (setb_byt _ i c).1
  generalize (if c then (1 : Int) else 0) = z at C2 ⊢
  generalize fixV V M i c = A at C2 hAl ⊢
  generalize fixM M i = AM at C2 hFl ⊢
  clear hV hM
  have g0 : Hid (((w.alloc (.cells (cv V M) 42)).alloc (.cells zeroC 42)).heap[w.heap.size]? = some (.cells (cv V M) 42 (0, 0))) := heap_past _ _ _ _ (heap_new _ _ _ rfl)
  have g1 : Hid (((w.alloc (.cells (cv V M) 42)).alloc (.cells zeroC 42)).heap[w.heap.size + 1]? = some (.cells zeroC 42 (0, 0))) := heap_new _ _ _ (by simp)
  have B0 : Hid (Below w.heap.size w ((w.alloc (.cells (cv V M) 42)).alloc (.cells zeroC 42))) := ((Below.refl _ _).alloc (Nat.le_refl _) _).alloc (by simp) _
  go_enter Try.func50, Try.ntmps50
  go_wp2_with (first | ((with_reducible refine wl_gC12 _ rfl ?_); refine wl_loadCw rfl _ rfl w.heap.size 0 rfl _ _ _ V M hVl hMl g0.out (own_cells _ _) ?_) | (go_at_call 73; refine (C1.out _).mono ?_; rintro e w1 ⟨rfl, hb1⟩; refine of_stopT ?_))
  unfold StopT
  have B1 : Hid (Below w.heap.size w w1) := below_stepR B0.out B0.out.size hb1
  have k1 : Hid (w1.heap[w.heap.size + 1]? = some (.cells zeroC 42 (0, 0))) := (hb1.block _ (Array.getElem?_eq_some_iff.1 g1.out).1).trans g1.out
  clear hb1 g0 g1
  go_wp2_with (first | (go_at_call 72; refine (C2.out _).mono ?_; rintro e w2 ⟨rfl, hb2⟩; refine of_stopT ?_))
  unfold StopT
  have B2 : Hid (Below w.heap.size w w2) := below_stepR B1.out B1.out.size hb2
  have k2 : Hid (w2.heap[w.heap.size + 1]? = some (.cells zeroC 42 (0, 0))) := (hb2.block _ (Array.getElem?_eq_some_iff.1 k1.out).1).trans k1.out
  have k3 := setRow_heap _ _ _ (cv A AM) _ _ k2.out
  clear hb2 k1
  go_wp2_with (first | (refine wl_storeC rfl _ _ rfl (w.heap.size + 1) A AM rfl rfl _ k2.out rfl hAl hFl _ rfl ?_))
  refine retC (p := 6) rfl rfl (w.heap.size + 1) rfl A AM hAl hFl k3 ⟨rfl, below_setRow B2.out (by omega) _⟩
end Go.Proofs.Ytpbinkmeldkehaa
