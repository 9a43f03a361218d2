import Derived.Test.YtojhckjdkafpmabJ4
import Derived.Test.YtojhckjdkafpmabJ7
namespace Go.Proofs.Ytojhckjdkafpmab
open Go Go.RowKit
set_option maxRecDepth 20000

theorem region_cutQ {P : Program} {c : Code} {Q : Exit → Act → World → Prop} {a : Act} {w : World} (h : c.wp P (fun e a' w' => e = .normal ∧ Q .normal a' w') a w) : c.wp P Q a w :=
  Code.wp_mono (by rintro e a' w' ⟨rfl, h⟩; exact h) h
/-- Worlds in which two blocks are so. -/
structure KeepT (g1 : Nat) (o1 : Obj) (g2 : Nat) (o2 : Obj) where
  world : World
  k1 : world.heap[g1]? = some o1
  k2 : world.heap[g2]? = some o2
abbrev InK (g1 : Nat) (o1 : Obj) (g2 : Nat) (o2 : Obj) (w : World) : Prop := ∃ z : KeepT g1 o1 g2 o2, w = z.world
theorem InK.of {g1 g2 : Nat} {o1 o2 : Obj} {w : World} (h1 : w.heap[g1]? = some o1) (h2 : w.heap[g2]? = some o2) : InK g1 o1 g2 o2 w := ⟨⟨w, h1, h2⟩, rfl⟩
theorem run_nilOp {o : Oper} {x : Operand} (ho : o.op = .nilCheck x) (a : Act) (W : World) (ad : Addr) (hx : a.eval x = .pointer (some ad)) : (execOp a.eval o).run Try.prog W = .ok (.value (.pointer (some ad))) W := by
  unfold execOp
  simp only [ho, hx]
  simp [go_sem]
/-- A test for nil is taken first. -/
theorem take_nil {ops : Array Oper} {F : Act → World → Prop} {S : World → Prop} {i : Nat} {oi : Oper} {fuel : Nat} {listed : Array Bool} {a : Act} {w : World} (d : Option Tmp) (hi : ops[i]? = some oi) (hd : oi.dst = d) (x : Operand) (ho : oi.op = .nilCheck x) (ad : Addr) (hx : a.eval x = .pointer (some ad)) (hw : Region.wanted oi (yielded ops a.tmps) = true)
    (hs : Region.noSelect ops = true) (hf : Region.free .any ops listed i = true) (hr : (Region.ready .any ops listed).contains i = true) (hS : S w)
    (h : wpAnyH Try.prog .any ops (fun e a' w' => e = .normal ∧ F a' w') S fuel (listed.setIfInBounds i true) (a.put d (.pointer (some ad))) w) : wpAnyH Try.prog .any ops (fun e a' w' => e = .normal ∧ F a' w') S (fuel + 1) listed a w := by
  subst hd
  exact wpAnyH_take hi hs hf hr (fun c a w h => absurd h.1 (by simp)) (.inl ⟨hw, fun w' _ => run_nilOp ho a w' ad hx⟩) hS h
theorem store_sl {o : Oper} {x y : Operand} (ho : o.op = .store 39 x y) (a : Act) (W : World) (ad : Addr) (o1 : Option Addr) (n c : Nat) (old : Value) (hx : a.eval x = .pointer (some ad)) (hy : a.eval y = .slice o1 n c) (hc : W.cell? ad = some old) (hf : W.frozen? ad = false) : (execOp a.eval o).run Try.prog W = .ok .skip (W.setCell ad (.slice o1 n c)) := by
  have hz : ∀ w, (sizeOf 39).run Try.prog w = .ok 1 w := fun w => by kernel_rfl
  unfold execOp
  simp only [ho, hx, hy]
  simp [go_sem, hz, hc, hf, storeVar, storeCells, Instr.storeAt, Instr.sureAddr]
/-- Worlds in which one block is so. -/
structure KeepO (g1 : Nat) (o1 : Obj) where
  world : World
  k1 : world.heap[g1]? = some o1
abbrev InO (g1 : Nat) (o1 : Obj) (w : World) : Prop := ∃ z : KeepO g1 o1, w = z.world
theorem InO.of {g1 : Nat} {o1 : Obj} {w : World} (h1 : w.heap[g1]? = some o1) : InO g1 o1 w := ⟨⟨w, h1⟩, rfl⟩
theorem load_sl {o : Oper} {x : Operand} (ho : o.op = .load 39 x) (a : Act) (W : World) (ad : Addr) (v : Value) (hx : a.eval x = .pointer (some ad)) (hc : W.cell? ad = some v) : (execOp a.eval o).run Try.prog W = .ok (.value v) W :=
  run_loadOp ho a W _ v hx (load_cell Try.underlying39 W ad v hc)
theorem wpOp_build1S {ops : Array Oper} {Q : Exit → Act → World → Prop} {i : Nat} {o : Oper} {K : Act → World → Prop} {a : Act} {w : World} (hi : ops[i]? = some o) (hg : o.guard = none) (x : Operand) (ho : o.op = .buildSlice 39 1 #[(0, x)]) (s : Slt) (hx : a.eval x = .agg (slotV s)) (d : Option Tmp) (hd : o.dst = d)
    (hK : K (a.put d (.slice (some ⟨w.heap.size, 0, none⟩) 1 1)) (w.alloc (.cells (slotV s) 27))) : wpOp Try.prog ops Q i K a w := by
  subst hd
  exact wpOp_of_list hi (wl_build1S hg x ho s hx hK)
theorem wpOp_appendS {ops : Array Oper} {Q : Exit → Act → World → Prop} {i : Nat} {o : Oper} {K : Act → World → Prop} {a : Act} {w : World} (hi : ops[i]? = some o) (hgd : o.guard = none) (s x : Operand) (ho : o.op = .call { callee := .builtin .append, args := #[s, x], argTypes := #[39, 39] })
    (B : Nat) (v : Value) (C : List Slt) (c : Slt) (hs : a.eval s = v) (hown : SlotsAt B w v C) (g cap : Nat) (hx : a.eval x = .slice (some ⟨g, 0, none⟩) 1 cap) (hg : w.heap[g]? = some (.cells (slotV c) 27 (0, 0)))
    (hn : C.length ≤ 1000000) (hB : B ≤ w.heap.size) (d : Option Tmp) (hd : o.dst = d)
    (hK : ∀ v' w', SlotsAt B w' v' (C ++ [c]) → w.grownBy w' v.ownBlock → (v'.ownBlock = v.ownBlock ∨ v'.ownBlock = some w.heap.size) → K (a.put d v') w') : wpOp Try.prog ops Q i K a w := by
  subst hd
  exact wpOp_of_list hi (wl_appendS hgd s x ho B v C c hs hown g cap hx hg hn hB hK)
/-- What an append to a bank of the table leaves. -/
theorem app_fin {B : Nat} {w W : World} {g : Nat} {R : Rm} {S : Bks} {v1 v2 v3 : Value} {b : Nat} {s : Slt} (h : TabV B w g R S v1 v2 v3) (hb4 : b < 4) (hb0 : b ≠ 0) (hB : Below w.heap.size w W) (v' : Value) (w9 : World) (hown : SlotsAt B w9 v' (bankL S b ++ [s])) (hgr : (W.drew.alloc (.cells (slotV s) 27)).grownBy w9 (bankV v1 v2 v3 b).ownBlock) (hat : v'.ownBlock = (bankV v1 v2 v3 b).ownBlock ∨ v'.ownBlock = some (W.drew.alloc (.cells (slotV s) 27)).heap.size) :
    (∃ o n c, v' = .slice o n c) ∧ w9.cell? ⟨g, 4 + b, none⟩ = some (bankV v1 v2 v3 b) ∧ w9.frozen? ⟨g, 4 + b, none⟩ = false ∧ (∀ q o, ¬ footT g v1 v2 v3 q → W.heap[q]? = some o → w9.heap[q]? = some o ∧ (w9.setCell ⟨g, 4 + b, none⟩ v').heap[q]? = some o) ∧ TabTo B w (w9.setCell ⟨g, 4 + b, none⟩ v') g R (setL S b (bankL S b ++ [s])) v1 v2 v3 := by
  have hBW : Below w.heap.size w (W.drew.alloc (.cells (slotV s) 27)) := (hB.trans ((Below.refl _ _).drew.mono hB.size)).alloc (by have := hB.size; exact this) _
  have hT := h.below hBW
  have hk : Kept (rowX (bankV v1 v2 v3 b)) (W.drew.alloc (.cells (slotV s) 27)) w9 := Kept.of_grown hgr fun k e => e
  obtain ⟨r1, r2, r3⟩ := hT.put b hb4 v' _ hk hown (by
    rcases hat with e | e
    · exact .inl e
    · exact .inr fun k hk => by rw [e] at hk; simp only [Option.some.injEq] at hk; omega) (fun e => absurd e hb0)
  have hgx : ¬ rowX (bankV v1 v2 v3 b) g := (hT.bank b).ty hT.blk (by decide)
  have hbk := hk.heap hT.blk hgx
  obtain ⟨o, c, e, _⟩ := hown.slice
  refine ⟨⟨o, _, c, e⟩, (tabf_of hbk).bankCell b hb4, by simp [World.frozen?, hbk], fun q ob hq hqo => ?_, _, _, _, r1, Kept.pre hBW r2, fun k hk => ?_⟩
  · have h1 : w9.heap[q]? = some ob := hk.heap (heap_past _ _ _ _ hqo) fun e => hq (by
      unfold rowX bankV at e
      split at e
      · exact .inr (.inl e)
      · split at e
        · exact .inr (.inr (.inl e))
        · split at e
          · exact .inr (.inr (.inr e))
          · cases e)
    exact ⟨h1, by rw [heap_setCell_other _ _ _ _ (fun e => hq (.inl e))]; exact h1⟩
  · rcases r3 k hk with e | e
    · exact .inl e
    · exact .inr (Nat.le_trans hBW.size e)
end Go.Proofs.Ytojhckjdkafpmab
namespace Go.Proofs.Ytojhckjdkafpmab
open Go Go.RowKit
set_option maxRecDepth 20000

def hsC (c : Cub) (h : List Int) : Bool := has (pad c.1) (pad c.2) h
theorem qlCw {K : World → Prop} {ops : Array Oper} {Q : Act → Prop} {rest : List Oper} {o : Oper} {a : Act} (hw : Region.wanted o (yielded ops a.tmps) = true) (x : Operand) (ho : o.op = .load 25 x)
    (g off : Nat) (hx : a.eval x = .pointer (some ⟨g, off, none⟩)) (cur : Array Value) (t : TypeId) (fr : Nat × Nat) (V M : List Int) (hV : V.length = 13) (hM : M.length = 13) (hg : ∀ w', K w' → w'.heap[g]? = some (.cells cur t fr)) (hc : ∀ j, j < 26 → cur[off + j]? = (cv V M)[j]?)
    (h : wpQuiet Try.prog ops K Q rest (a.put o.dst (.agg (cv V M)))) : wpQuiet Try.prog ops K Q (o :: rest) a := by
  refine BigFrame.wpQuiet_want hw fun K' hK => ⟨.agg (cv V M), fun w hC => ?_, hK _ h⟩
  unfold Oper.quietAt execOp
  simp only [ho, hx, Instr.loadAt, Instr.sureAddr, Sem.run_bind, Sem.run_pure, Result.andThen_ok, cub_load hV hM (hg w hC) hc]
  exact ⟨rfl, rfl⟩
theorem q_valT {C : World → Prop} {ops : Array Oper} {Q : Act → Prop} {rest : List Oper} {o : Oper} {a : Act} (hw : Region.wanted o (yielded ops a.tmps) = true) (v : Value) (hx : ∀ w, C w → (execOp a.eval o).run Try.prog w = .ok (.value v) w) (h : wpQuiet Try.prog ops C Q rest (a.put o.dst v)) : wpQuiet Try.prog ops C Q (o :: rest) a := by
  refine BigFrame.wpQuiet_want hw fun K hK => ⟨v, fun w hC => ?_, hK _ h⟩
  unfold Oper.quietAt
  rw [hx w hC]
  exact ⟨rfl, rfl⟩
theorem q_nilT {C : World → Prop} {ops : Array Oper} {Q : Act → Prop} {rest : List Oper} {o : Oper} {a : Act} (hw : Region.wanted o (yielded ops a.tmps) = true) (x : Operand) (ho : o.op = .nilCheck x) (ad : Addr) (hx : a.eval x = .pointer (some ad)) (h : wpQuiet Try.prog ops C Q rest (a.put o.dst (.pointer (some ad)))) : wpQuiet Try.prog ops C Q (o :: rest) a := by
  refine q_valT hw _ (fun w _ => ?_) h
  unfold execOp
  simp only [ho, hx]
  simp [go_sem]

theorem pad_byt {c : Cub} (h : OkC c) : Byt (pad c.1) ∧ Byt (pad c.2) := by rw [pad_id h.1.1, pad_id h.2.1]; exact h
theorem hasC_any (c : Cub) (H : List Int) (hc : OkC c) (hH : Byt H) (W : World) : Calls Try.prog 48 #[.agg (cv (pad c.1) (pad c.2)), .agg (hv H)] W fun r w' => r = .returned (.bool (hsC c H)) ∧ Below W.heap.size W w' :=
  has_any (pad c.1) (pad c.2) H (pad_byt hc).1 (pad_byt hc).2 hH W
theorem later_slf {W : World} {g off : Nat} {x : Slt} {cur : Array Value} {t : TypeId} (hg : W.heap[g]? = some (.cells cur t (0, 0))) (h : SlF W g off x) : ∀ u : Later W, SlF u.world g off x := fun u => h.below ((later_block hg _ ⟨u, rfl⟩).trans hg.symm)
/-- What least hands back: nothing, or where the slot lies. -/
def PtrF (m : Slt → Bool) (g : Nat) (C : List Slt) (r : Value) : Prop :=
  (r = .pointer none ∧ leastF m (·.order) C = none) ∨ ∃ (i : Nat) (x : Slt), r = .pointer (some ⟨g, i * 36, none⟩) ∧ i < C.length ∧ C[i]? = some x ∧ leastF m (·.order) C = some (C.take i, x, C.drop (i + 1))
def BestS (m : Slt → Bool) (g : Nat) (C : List Slt) (k : Nat) (r : Value) : Prop :=
  (r = .pointer none ∧ FoundTo m (·.order) C k (-1)) ∨ ∃ (j : Nat) (x : Slt), r = .pointer (some ⟨g, j * 36, none⟩) ∧ C[j]? = some x ∧ FoundTo m (·.order) C k (j : Int)
theorem BestS.all {m : Slt → Bool} {g : Nat} {C : List Slt} {r : Value} (h : BestS m g C C.length r) : PtrF m g C r := by
  rcases h with ⟨e, h⟩ | ⟨j, x, e, hx, h⟩
  · rcases found_all h with ⟨_, h⟩ | ⟨i, x, h, _⟩
    · exact .inl ⟨e, h⟩
    · omega
  · rcases found_all h with ⟨h, _⟩ | ⟨i, z, hi, h1, h2, h3⟩
    · omega
    · obtain rfl : j = i := by omega
      exact .inr ⟨j, z, e, h1, h2, h3⟩
theorem row_at {w : World} {g : Nat} {cur : Array Value} {C : List Slt} (_ : w.heap[g]? = some (.cells cur 27 (0, 0))) (h : cur.toList.take (C.length * 36) = gcells slotV C) (k : Nat) (x : Slt) (hx : C[k]? = some x) : ∀ j, j < 36 → cur[k * 36 + j]? = (slotV x)[j]? := fun j hj => by
  have hk : k < C.length := (List.getElem?_eq_some_iff.1 hx).1
  have h1 := gcells_at slotV 36 C (fun c _ => slotV_size c) k hk j hj
  rw [← h, List.getElem?_take_of_lt (by have := Nat.mul_le_mul_right 36 (show k + 1 ≤ C.length by omega); omega), Array.getElem?_toList] at h1
  rw [Nat.mul_comm k 36, h1, (List.getElem?_eq_some_iff.1 hx).2]
set_option maxHeartbeats 4000000 in
theorem least_nil (w : World) (e : Int) (H : List Int) : Calls Try.prog 41 #[.slice none 0 0, .int .i64 e, .agg (hv H)] w fun r w' => r = .returned (.pointer none) ∧ Below w.heap.size w w' := by
  go_enter Try.func41, Try.ntmps41
  go_wp2_with fail
  go_loopw [7, 12] (fun s7 i wr => i = .int .i64 0 ∧ s7 = .pointer none ∧ Hid (Below w.heap.size w wr)) (fun _ _ _ => 0)
  case atStart => exact ⟨rfl, rfl, (Below.refl _ _).alloc (Nat.le_refl _) _⟩
  case round =>
    obtain ⟨rfl, rfl, HB⟩ := hrel
    go_wp2_with fail
    go_ret
    exact ⟨rfl, HB.out⟩
set_option maxHeartbeats 16000000 in
theorem leastN_any (g n cap : Nat) (C : List Slt) (w : World) (cur : Array Value) (hn0 : n = C.length) (hg : w.heap[g]? = some (.cells cur 27 (0, 0))) (hcap : n ≤ cap) (hcm : cap ≤ maxLen) (htk : cur.toList.take (n * 36) = gcells slotV C) (e : Int) (H : List Int) (hH : Byt H) (hok : ∀ x ∈ C, OkC x.cube) :
    Calls Try.prog 41 #[.slice (some ⟨g, 0, none⟩) n cap, .int .i64 e, .agg (hv H)] w fun r w' => (∃ p, r = .returned p ∧ PtrF (mtS hsC e H) g C p) ∧ Below w.heap.size w w' := by
  have HHl := hH.1
  have HAS : Hid (∀ x : Slt, OkC x.cube → ∀ W, Calls Try.prog 48 #[.agg (cv (pad x.cube.1) (pad x.cube.2)), .agg (hv H)] W fun r w' => r = .returned (.bool (hsC x.cube H)) ∧ Below W.heap.size W w') := by intro x hx W; exact hasC_any x.cube H hx hH W
  have HOK : Hid (∀ x ∈ C, OkC x.cube) := hok
  have HN : Hid (n = C.length) := hn0
  have HR : Hid (∀ wr : World, Below w.heap.size w wr → wr.heap[g]? = some (.cells cur 27 (0, 0))) := fun wr hb => (hb.block g (Array.getElem?_eq_some_iff.1 hg).1).trans hg
  have HT : Hid (∀ (k : Nat) (x : Slt), C[k]? = some x → ∀ j, j < 36 → cur[k * 36 + j]? = (slotV x)[j]?) := fun k x hx => row_at hg (by rw [← hn0]; exact htk) k x hx
  have HE : Hid (∀ p, BestS (mtS hsC e H) g C n p → PtrF (mtS hsC e H) g C p) := fun p hp => by rw [hn0] at hp; exact hp.all
  unfold maxLen at hcm
  clear hg htk hn0 hok hH
  go_enter Try.func41, Try.ntmps41
  go_wp2_with fail
  go_loopw [7, 12] (fun s7 i wr => ∃ k : Nat, k ≤ n ∧ i = .int .i64 (k : Int) ∧ Hid (BestS (mtS hsC e H) g C k s7) ∧ Hid (wr.heap[w.heap.size]? = some (.cells (hv H) 23 (0, 0))) ∧ Hid (Below w.heap.size w wr)) (fun _ i _ => n - (intOf i).toNat)
  case atStart => exact ⟨0, Nat.zero_le _, rfl, .inl ⟨rfl, found_nil _⟩, heap_new _ _ _ rfl, (Below.refl _ _).alloc (Nat.le_refl _) _⟩
  case round =>
    obtain ⟨k, hk, rfl, HS, HH, HB⟩ := hrel
    by_cases hlt : k < n
    · have hlt' : (k : Int) < (n : Int) := by omega
      obtain ⟨y, hy⟩ : ∃ y, C[k]? = some y := ⟨_, List.getElem?_eq_getElem (show k < C.length by have := HN.out; omega)⟩
      have HY : Hid (C[k]? = some y) := hy
      have HYO : Hid (OkC y.cube) := HOK.out y (List.mem_of_getElem? hy)
      have K1 : Hid (wr.heap[g]? = some (.cells cur 27 (0, 0))) := HR.out wr HB.out
      have H1 : Hid (∀ j, j < 36 → cur[k * 36 + j]? = (slotV y)[j]?) := HT.out k y hy
      have HC1 : Hid (∀ j, j < 26 → cur[k * 36 + 4 + j]? = (cv (pad y.cube.1) (pad y.cube.2))[j]?) := cube_row K1.out H1.out
      have d1 : ∀ u : Later wr, u.world.cell? ⟨g, k * 36 + 1, none⟩ = some (.int .i64 y.epoch) := fun u => (later_slf K1.out (slf_of K1.out H1.out) u).c1
      have d3 : ∀ u : Later wr, u.world.cell? ⟨g, k * 36 + 3, none⟩ = some (.int .i64 y.order) := fun u => (later_slf K1.out (slf_of K1.out H1.out) u).c3
      have ne1 := Later.ne wr
      have HM : Hid (mtS hsC e H y = ((y.epoch == e) && hsC y.cube H)) := rfl
      obtain ⟨ye, hye⟩ : ∃ ye, ye = y.epoch := ⟨_, rfl⟩
      obtain ⟨yo, hyo⟩ : ∃ yo, yo = y.order := ⟨_, rfl⟩
      have HYE : Hid (ye = y.epoch) := hye
      have HYQ : Hid (yo = y.order) := hyo
      rw [← hye] at d1
      rw [← hyo] at d3
      clear hy hye hyo
      by_cases he : ye = e
      · subst he
        have hed : (ye == ye) = true := by simp
        rcases HS.out with ⟨rfl, hf⟩ | ⟨j, x, rfl, hxj, hf⟩
        · have HF : Hid (FoundTo (mtS hsC ye H) (·.order) C k (-1)) := hf
          clear hf HS
          rcases Bool.eq_false_or_eq_true (hsC y.cube H) with hh | hh
          · have HMM : Hid (mtS hsC ye H y = true) := by show _ = _; rw [HM.out, ← HYE.out, hh, hed]; rfl
            have hcall : ∀ W, Calls Try.prog 48 #[.agg (cv (pad y.cube.1) (pad y.cube.2)), .agg (hv H)] W fun r w' => r = .returned (.bool true) ∧ Below W.heap.size W w' := by intro W; rw [← hh]; exact HAS.out y HYO.out W
            clear hh HM
            go_wp2_with fail
            refine wp_region_later (by kernel_rfl) (by kernel_rfl) ?_
            go_big_quiet_step (rfl)
            refine q_nilT rfl _ rfl _ rfl ?_
            simp only [Act.put, List.setIfInBounds_toArray, List.set_cons_succ, List.set_cons_zero]
            go_big_quiet_step (rfl)
            go_big_quiet_step (rfl)
            go_big_quiet_step (rfl)
            go_big_quiet_step (rfl)
            go_big_quiet_step (rfl)
            go_big_quiet_step (rfl)
            go_big_quiet_step (rfl)
            go_big_quiet_step (rfl)
            go_big_quiet_step (rfl)
            go_big_quiet_step (rfl)
            go_big_quiet_step (rfl)
            go_big_quiet_step (rfl)
            go_big_quiet_step (rfl)
            go_big_quiet_step (rfl)
            go_big_quiet_step (rfl)
            go_big_quiet_step (rfl)
            go_big_quiet_step (rfl)
            go_big_quiet_step (rfl)
            go_big_quiet_step (rfl)
            go_big_quiet_step (rfl)
            go_big_quiet_step (rfl)
            refine q_nilT rfl _ rfl _ rfl ?_
            simp only [Act.put, List.setIfInBounds_toArray, List.set_cons_succ, List.set_cons_zero]
            go_big_quiet_step (rfl)
            refine qlCw rfl _ rfl g (k * 36 + 4) rfl cur _ _ (pad y.cube.1) (pad y.cube.2) (pad_len _) (pad_len _) (later_block K1.out) HC1.out ?_
            simp only [Act.put, List.setIfInBounds_toArray, List.set_cons_succ, List.set_cons_zero]
            refine qlH rfl _ rfl w.heap.size rfl H HH.out HHl ?_
            simp only [Act.put, List.setIfInBounds_toArray, List.set_cons_succ, List.set_cons_zero]
            go_big_quiet_want; go_big_quiet_op
            refine ⟨_, fun u => Calls.later_of (hcall u.world), ?_⟩
            go_big_quiet_on
            go_big_quiet_step (rfl)
            refine wpQuiet_nil ?_
            rintro w' ⟨u, rfl⟩
            go_wp2_with fail
            go_roundw
            case rel => exact ⟨k + 1, by omega, by go_num, .inr ⟨k, y, rfl, HY.out, found_first HF.out HY.out HMM.out⟩, later_block HH.out _ ⟨u, rfl⟩, below_step HB.out HB.out.size u.below⟩
            case measure => simp [intOf]; omega
          · have HMM : Hid (mtS hsC ye H y = false) := by show _ = _; rw [HM.out, ← HYE.out, hh, hed]; rfl
            have hcall : ∀ W, Calls Try.prog 48 #[.agg (cv (pad y.cube.1) (pad y.cube.2)), .agg (hv H)] W fun r w' => r = .returned (.bool false) ∧ Below W.heap.size W w' := by intro W; rw [← hh]; exact HAS.out y HYO.out W
            clear hh HM
            go_wp2_with fail
            refine wp_region_later (by kernel_rfl) (by kernel_rfl) ?_
            go_big_quiet_step (rfl)
            refine q_nilT rfl _ rfl _ rfl ?_
            simp only [Act.put, List.setIfInBounds_toArray, List.set_cons_succ, List.set_cons_zero]
            go_big_quiet_step (rfl)
            go_big_quiet_step (rfl)
            go_big_quiet_step (rfl)
            go_big_quiet_step (rfl)
            go_big_quiet_step (rfl)
            go_big_quiet_step (rfl)
            go_big_quiet_step (rfl)
            go_big_quiet_step (rfl)
            go_big_quiet_step (rfl)
            go_big_quiet_step (rfl)
            go_big_quiet_step (rfl)
            go_big_quiet_step (rfl)
            go_big_quiet_step (rfl)
            go_big_quiet_step (rfl)
            go_big_quiet_step (rfl)
            go_big_quiet_step (rfl)
            go_big_quiet_step (rfl)
            go_big_quiet_step (rfl)
            go_big_quiet_step (rfl)
            go_big_quiet_step (rfl)
            go_big_quiet_step (rfl)
            refine q_nilT rfl _ rfl _ rfl ?_
            simp only [Act.put, List.setIfInBounds_toArray, List.set_cons_succ, List.set_cons_zero]
            go_big_quiet_step (rfl)
            refine qlCw rfl _ rfl g (k * 36 + 4) rfl cur _ _ (pad y.cube.1) (pad y.cube.2) (pad_len _) (pad_len _) (later_block K1.out) HC1.out ?_
            simp only [Act.put, List.setIfInBounds_toArray, List.set_cons_succ, List.set_cons_zero]
            refine qlH rfl _ rfl w.heap.size rfl H HH.out HHl ?_
            simp only [Act.put, List.setIfInBounds_toArray, List.set_cons_succ, List.set_cons_zero]
            go_big_quiet_want; go_big_quiet_op
            refine ⟨_, fun u => Calls.later_of (hcall u.world), ?_⟩
            go_big_quiet_on
            go_big_quiet_step (rfl)
            refine wpQuiet_nil ?_
            rintro w' ⟨u, rfl⟩
            go_wp2_with fail
            go_roundw
            case rel => exact ⟨k + 1, by omega, by go_num, .inl ⟨rfl, found_skip HF.out HY.out HMM.out⟩, later_block HH.out _ ⟨u, rfl⟩, below_step HB.out HB.out.size u.below⟩
            case measure => simp [intOf]; omega
        · have HF : Hid (FoundTo (mtS hsC ye H) (·.order) C k (j : Int)) := hf
          have HXJ : Hid (C[j]? = some x) := hxj
          have x3 : ∀ u : Later wr, u.world.cell? ⟨g, j * 36 + 3, none⟩ = some (.int .i64 x.order) := fun u => (later_slf K1.out (slf_of K1.out (HT.out j x hxj)) u).c3
          clear hf HS hxj
          obtain ⟨xo, hxo⟩ : ∃ xo, xo = x.order := ⟨_, rfl⟩
          have HXO : Hid (xo = x.order) := hxo
          rw [← hxo] at x3
          clear hxo
          by_cases hlo : yo < xo
          · have hld : decide (yo < xo) = true := decide_eq_true hlo
            have HLO : Hid (y.order < x.order) := by show _ < _; rw [← HYQ.out, ← HXO.out]; exact hlo
            clear hlo
            rcases Bool.eq_false_or_eq_true (hsC y.cube H) with hh | hh
            · have HMM : Hid (mtS hsC ye H y = true) := by show _ = _; rw [HM.out, ← HYE.out, hh, hed]; rfl
              have hcall : ∀ W, Calls Try.prog 48 #[.agg (cv (pad y.cube.1) (pad y.cube.2)), .agg (hv H)] W fun r w' => r = .returned (.bool true) ∧ Below W.heap.size W w' := by intro W; rw [← hh]; exact HAS.out y HYO.out W
              clear hh HM
              go_wp2_with fail
              refine wp_region_later (by kernel_rfl) (by kernel_rfl) ?_
              go_big_quiet_step (rfl)
              refine q_nilT rfl _ rfl _ rfl ?_
              simp only [Act.put, List.setIfInBounds_toArray, List.set_cons_succ, List.set_cons_zero]
              go_big_quiet_step (rfl)
              go_big_quiet_step (rfl)
              go_big_quiet_step (rfl)
              go_big_quiet_step (rfl)
              go_big_quiet_step (rfl)
              go_big_quiet_step (rfl)
              go_big_quiet_step (rfl)
              go_big_quiet_step (rfl)
              go_big_quiet_step (rfl)
              refine q_nilT rfl _ rfl _ rfl ?_
              simp only [Act.put, List.setIfInBounds_toArray, List.set_cons_succ, List.set_cons_zero]
              go_big_quiet_step (rfl)
              go_big_quiet_step (rfl)
              go_big_quiet_step (rfl)
              refine q_nilT rfl _ rfl _ rfl ?_
              simp only [Act.put, List.setIfInBounds_toArray, List.set_cons_succ, List.set_cons_zero]
              go_big_quiet_step (rfl)
              go_big_quiet_step (rfl)
              go_big_quiet_step (rfl)
              go_big_quiet_step (rfl)
              go_big_quiet_step (rfl)
              go_big_quiet_step (rfl)
              go_big_quiet_step (rfl)
              refine q_nilT rfl _ rfl _ rfl ?_
              simp only [Act.put, List.setIfInBounds_toArray, List.set_cons_succ, List.set_cons_zero]
              go_big_quiet_step (rfl)
              refine qlCw rfl _ rfl g (k * 36 + 4) rfl cur _ _ (pad y.cube.1) (pad y.cube.2) (pad_len _) (pad_len _) (later_block K1.out) HC1.out ?_
              simp only [Act.put, List.setIfInBounds_toArray, List.set_cons_succ, List.set_cons_zero]
              refine qlH rfl _ rfl w.heap.size rfl H HH.out HHl ?_
              simp only [Act.put, List.setIfInBounds_toArray, List.set_cons_succ, List.set_cons_zero]
              go_big_quiet_want; go_big_quiet_op
              refine ⟨_, fun u => Calls.later_of (hcall u.world), ?_⟩
              go_big_quiet_on
              go_big_quiet_step (rfl)
              refine wpQuiet_nil ?_
              rintro w' ⟨u, rfl⟩
              go_wp2_with fail
              go_roundw
              case rel => exact ⟨k + 1, by omega, by go_num, .inr ⟨k, y, rfl, HY.out, found_take HF.out HXJ.out HY.out HMM.out HLO.out⟩, later_block HH.out _ ⟨u, rfl⟩, below_step HB.out HB.out.size u.below⟩
              case measure => simp [intOf]; omega
            · have HMM : Hid (mtS hsC ye H y = false) := by show _ = _; rw [HM.out, ← HYE.out, hh, hed]; rfl
              have hcall : ∀ W, Calls Try.prog 48 #[.agg (cv (pad y.cube.1) (pad y.cube.2)), .agg (hv H)] W fun r w' => r = .returned (.bool false) ∧ Below W.heap.size W w' := by intro W; rw [← hh]; exact HAS.out y HYO.out W
              clear hh HM
              go_wp2_with fail
              refine wp_region_later (by kernel_rfl) (by kernel_rfl) ?_
              go_big_quiet_step (rfl)
              refine q_nilT rfl _ rfl _ rfl ?_
              simp only [Act.put, List.setIfInBounds_toArray, List.set_cons_succ, List.set_cons_zero]
              go_big_quiet_step (rfl)
              go_big_quiet_step (rfl)
              go_big_quiet_step (rfl)
              go_big_quiet_step (rfl)
              go_big_quiet_step (rfl)
              go_big_quiet_step (rfl)
              go_big_quiet_step (rfl)
              go_big_quiet_step (rfl)
              go_big_quiet_step (rfl)
              refine q_nilT rfl _ rfl _ rfl ?_
              simp only [Act.put, List.setIfInBounds_toArray, List.set_cons_succ, List.set_cons_zero]
              go_big_quiet_step (rfl)
              go_big_quiet_step (rfl)
              go_big_quiet_step (rfl)
              refine q_nilT rfl _ rfl _ rfl ?_
              simp only [Act.put, List.setIfInBounds_toArray, List.set_cons_succ, List.set_cons_zero]
              go_big_quiet_step (rfl)
              go_big_quiet_step (rfl)
              go_big_quiet_step (rfl)
              go_big_quiet_step (rfl)
              go_big_quiet_step (rfl)
              go_big_quiet_step (rfl)
              go_big_quiet_step (rfl)
              refine q_nilT rfl _ rfl _ rfl ?_
              simp only [Act.put, List.setIfInBounds_toArray, List.set_cons_succ, List.set_cons_zero]
              go_big_quiet_step (rfl)
              refine qlCw rfl _ rfl g (k * 36 + 4) rfl cur _ _ (pad y.cube.1) (pad y.cube.2) (pad_len _) (pad_len _) (later_block K1.out) HC1.out ?_
              simp only [Act.put, List.setIfInBounds_toArray, List.set_cons_succ, List.set_cons_zero]
              refine qlH rfl _ rfl w.heap.size rfl H HH.out HHl ?_
              simp only [Act.put, List.setIfInBounds_toArray, List.set_cons_succ, List.set_cons_zero]
              go_big_quiet_want; go_big_quiet_op
              refine ⟨_, fun u => Calls.later_of (hcall u.world), ?_⟩
              go_big_quiet_on
              go_big_quiet_step (rfl)
              refine wpQuiet_nil ?_
              rintro w' ⟨u, rfl⟩
              go_wp2_with fail
              go_roundw
              case rel => exact ⟨k + 1, by omega, by go_num, .inr ⟨j, x, rfl, HXJ.out, found_skip HF.out HY.out HMM.out⟩, later_block HH.out _ ⟨u, rfl⟩, below_step HB.out HB.out.size u.below⟩
              case measure => simp [intOf]; omega
          · have hld : decide (yo < xo) = false := decide_eq_false hlo
            have HLO : Hid (¬ y.order < x.order) := by show ¬ _ < _; rw [← HYQ.out, ← HXO.out]; exact hlo
            clear hlo HM
            go_wp2_with fail
            refine wp_region_later (by kernel_rfl) (by kernel_rfl) ?_
            go_big_quiet_step (rfl)
            refine q_nilT rfl _ rfl _ rfl ?_
            simp only [Act.put, List.setIfInBounds_toArray, List.set_cons_succ, List.set_cons_zero]
            go_big_quiet_step (rfl)
            go_big_quiet_step (rfl)
            go_big_quiet_step (rfl)
            go_big_quiet_step (rfl)
            go_big_quiet_step (rfl)
            go_big_quiet_step (rfl)
            go_big_quiet_step (rfl)
            go_big_quiet_step (rfl)
            go_big_quiet_step (rfl)
            refine q_nilT rfl _ rfl _ rfl ?_
            simp only [Act.put, List.setIfInBounds_toArray, List.set_cons_succ, List.set_cons_zero]
            go_big_quiet_step (rfl)
            go_big_quiet_step (rfl)
            go_big_quiet_step (rfl)
            refine q_nilT rfl _ rfl _ rfl ?_
            simp only [Act.put, List.setIfInBounds_toArray, List.set_cons_succ, List.set_cons_zero]
            go_big_quiet_step (rfl)
            go_big_quiet_step (rfl)
            go_big_quiet_step (rfl)
            go_big_quiet_step (rfl)
            go_big_quiet_step (rfl)
            go_big_quiet_step (rfl)
            go_big_quiet_step (rfl)
            go_big_quiet_step (rfl)
            go_big_quiet_step (rfl)
            go_big_quiet_step (rfl)
            go_big_quiet_step (rfl)
            go_big_quiet_step (rfl)
            go_big_quiet_step (rfl)
            refine wpQuiet_nil ?_
            rintro w' ⟨u, rfl⟩
            go_wp2_with fail
            go_roundw
            case rel => exact ⟨k + 1, by omega, by go_num, .inr ⟨j, x, rfl, HXJ.out, found_stay HF.out HXJ.out HY.out (by have := HLO.out; omega)⟩, later_block HH.out _ ⟨u, rfl⟩, below_step HB.out HB.out.size u.below⟩
            case measure => simp [intOf]; omega
      · have hed : (ye == e) = false := by simpa using he
        have HNM : Hid (mtS hsC e H y = false) := by show _ = _; rw [HM.out, ← HYE.out]; simp [he]
        clear HM he
        go_wp2_with fail
        refine wp_region_later (by kernel_rfl) (by kernel_rfl) ?_
        go_big_quiet_step (rfl)
        refine q_nilT rfl _ rfl _ rfl ?_
        simp only [Act.put, List.setIfInBounds_toArray, List.set_cons_succ, List.set_cons_zero]
        go_big_quiet_step (rfl)
        go_big_quiet_step (rfl)
        go_big_quiet_step (rfl)
        go_big_quiet_step (rfl)
        go_big_quiet_step (rfl)
        go_big_quiet_step (rfl)
        go_big_quiet_step (rfl)
        go_big_quiet_step (rfl)
        go_big_quiet_step (rfl)
        go_big_quiet_step (rfl)
        go_big_quiet_step (rfl)
        go_big_quiet_step (rfl)
        go_big_quiet_step (rfl)
        go_big_quiet_step (rfl)
        go_big_quiet_step (rfl)
        go_big_quiet_step (rfl)
        go_big_quiet_step (rfl)
        go_big_quiet_step (rfl)
        go_big_quiet_step (rfl)
        go_big_quiet_step (rfl)
        go_big_quiet_step (rfl)
        go_big_quiet_step (rfl)
        go_big_quiet_step (rfl)
        go_big_quiet_step (rfl)
        go_big_quiet_step (rfl)
        go_big_quiet_step (rfl)
        go_big_quiet_step (rfl)
        refine wpQuiet_nil ?_
        rintro w' ⟨u, rfl⟩
        have HS2 : Hid (BestS (mtS hsC e H) g C (k + 1) u7) := by
          rcases HS.out with ⟨e1, hf⟩ | ⟨j, x, e1, hxj, hf⟩
          · exact .inl ⟨e1, found_skip hf HY.out HNM.out⟩
          · exact .inr ⟨j, x, e1, hxj, found_skip hf HY.out HNM.out⟩
        go_wp2_with fail
        go_roundw
        case rel => exact ⟨k + 1, by omega, by go_num, HS2.out, later_block HH.out _ ⟨u, rfl⟩, below_step HB.out HB.out.size u.below⟩
        case measure => simp [intOf]; omega
    · have hlt' : ¬ (k : Int) < (n : Int) := by omega
      obtain rfl : k = n := by omega
      go_wp2_with fail
      go_ret
      exact ⟨⟨_, rfl, HE.out _ HS.out⟩, HB.out⟩
end Go.Proofs.Ytojhckjdkafpmab
namespace Go.Proofs.Ytojhckjdkafpmab
open Go Go.RowKit
set_option maxRecDepth 20000

def ptrL (m : Slt → Bool) (vb : Value) (C : List Slt) : Value := match leastF m (·.order) C with
  | none => .pointer none
  | some r => .pointer (some ⟨vb.ownBlock.getD 0, r.1.length * 36, none⟩)
theorem least_any (B : Nat) (C : List Slt) (v : Value) (w : World) (hsl : SlotsAt B w v C) (e : Int) (H : List Int) (hH : Byt H) (hok : ∀ x ∈ C, OkC x.cube) :
    Calls Try.prog 41 #[v, .int .i64 e, .agg (hv H)] w fun r w' => r = .returned (ptrL (mtS hsC e H) v C) ∧ Below w.heap.size w w' := by
  obtain ⟨h1, ⟨rfl, h2⟩ | ⟨g, cap, cur, rfl, hB, hcur, h3, h4, h5, h6⟩⟩ := hsl
  · have hC : C = [] := List.eq_nil_of_length_eq_zero h2
    subst hC
    exact least_nil w e H
  · refine (leastN_any g C.length cap C w cur rfl hcur h3 h4 h6 e H hH hok).mono ?_
    rintro r w' ⟨⟨p, rfl, hp⟩, hb⟩
    refine ⟨?_, hb⟩
    unfold ptrL
    rcases hp with ⟨rfl, h⟩ | ⟨i, x, rfl, hi, hx, h⟩
    · rw [h]
    · rw [h]
      simp only [Value.ownBlock, Option.getD_some, List.length_take]
      rw [Nat.min_eq_left (by omega)]
theorem leastF_congr {m : Slt → Bool} {k k' : Slt → Int} : ∀ {C : List Slt}, (∀ y ∈ C, k y = k' y) → leastF m k C = leastF m k' C
  | [], _ => rfl
  | x :: l, h => by
    have ih := leastF_congr (m := m) (k := k) (k' := k') (C := l) fun y hy => h y (List.mem_cons_of_mem _ hy)
    unfold leastF
    rw [ih]
    cases hl : leastF m k' l with
    | none => rfl
    | some r =>
      obtain ⟨A, y, D⟩ := r
      have hy : y ∈ l := by rw [(leastF_some hl).1]; simp
      simp only
      rw [h x (by simp), h y (List.mem_cons_of_mem _ hy)]
/-- Where the slot lies that is found. -/
def findP (S : Bks) (m : Slt → Bool) (v1 v2 v3 : Value) : Value := match findT S m with
  | none => .pointer none
  | some (b, A, _, _) => .pointer (some ⟨(bankV v1 v2 v3 b).ownBlock.getD 0, A.length * 36, none⟩)
theorem findP_step {S : Bks} {m : Slt → Bool} {v1 v2 v3 : Value} (hz : ∀ x ∈ S.c, x.order = 0) (k : Nat) (hk : k < 4) (hn : ∀ b, b < k → leastF m (·.order) (bankL S b) = none) (hp : ptrL m (bankV v1 v2 v3 k) (bankL S k) ≠ .pointer none) : findP S m v1 v2 v3 = ptrL m (bankV v1 v2 v3 k) (bankL S k) := by
  have e1 : leastF m (fun _ => 0) S.c = leastF m (·.order) S.c := (leastF_congr fun y hy => hz y hy).symm
  unfold findP findT
  unfold ptrL at hp ⊢
  rw [e1]
  rcases (show k = 0 ∨ k = 1 ∨ k = 2 ∨ k = 3 by omega) with rfl | rfl | rfl | rfl
  · exact absurd rfl hp
  · have : bankL S 1 = S.c := rfl
    rw [this] at hp ⊢
    cases h : leastF m (·.order) S.c with
    | none => rw [h] at hp; exact absurd rfl hp
    | some r => rfl
  · have h1 : leastF m (·.order) S.c = none := hn 1 (by omega)
    have : bankL S 2 = S.a := rfl
    rw [this] at hp ⊢
    rw [h1]
    cases h : leastF m (·.order) S.a with
    | none => rw [h] at hp; exact absurd rfl hp
    | some r => rfl
  · have h1 : leastF m (·.order) S.c = none := hn 1 (by omega)
    have h2 : leastF m (·.order) S.a = none := hn 2 (by omega)
    have : bankL S 3 = S.p := rfl
    rw [this] at hp ⊢
    rw [h1, h2]
    cases h : leastF m (·.order) S.p with
    | none => rw [h] at hp; exact absurd rfl hp
    | some r => rfl
theorem findP_none {S : Bks} {m : Slt → Bool} {v1 v2 v3 : Value} (hz : ∀ x ∈ S.c, x.order = 0) (hn : ∀ b, b < 4 → leastF m (·.order) (bankL S b) = none) : findP S m v1 v2 v3 = .pointer none := by
  have e1 : leastF m (fun _ => 0) S.c = leastF m (·.order) S.c := (leastF_congr fun y hy => hz y hy).symm
  unfold findP findT
  have h1 : leastF m (·.order) S.c = none := hn 1 (by omega)
  have h2 : leastF m (·.order) S.a = none := hn 2 (by omega)
  have h3 : leastF m (·.order) S.p = none := hn 3 (by omega)
  rw [e1, h1, h2, h3]; rfl
theorem ptrL_none {m : Slt → Bool} {vb : Value} {C : List Slt} (h : ptrL m vb C = .pointer none) : leastF m (·.order) C = none := by
  unfold ptrL at h
  cases hl : leastF m (·.order) C with
  | none => rfl
  | some r => rw [hl] at h; simp at h
theorem ptrL_some {m : Slt → Bool} {vb : Value} {C : List Slt} (h : ptrL m vb C ≠ .pointer none) : ∃ a, ptrL m vb C = .pointer (some a) := by
  unfold ptrL at h ⊢
  cases hl : leastF m (·.order) C with
  | none => rw [hl] at h; exact absurd rfl h
  | some r => exact ⟨_, rfl⟩
set_option maxHeartbeats 8000000 in
theorem find_any (B : Nat) (w : World) (g : Nat) (R : Rm) (S : Bks) (v1 v2 v3 : Value) (h : TabV B w g R S v1 v2 v3) (e : Int) (H : List Int) (hH : Byt H) (hz : ∀ x ∈ S.c, x.order = 0) (hok : ∀ b, ∀ x ∈ bankL S b, OkC x.cube) :
    Calls Try.prog 22 #[.pointer (some ⟨g, 0, none⟩), .int .i64 e, .agg (hv H)] w fun r w' => r = .returned (findP S (mtS hsC e H) v1 v2 v3) ∧ Below w.heap.size w w' := by
  have HHl := hH.1
  have HT : Hid (∀ wr, Below w.heap.size w wr → TabV B wr g R S v1 v2 v3) := fun wr hb => h.below hb
  have HL : Hid (∀ b W, TabV B W g R S v1 v2 v3 → Calls Try.prog 41 #[bankV v1 v2 v3 b, .int .i64 e, .agg (hv H)] W fun r w' => r = .returned (ptrL (mtS hsC e H) (bankV v1 v2 v3 b) (bankL S b)) ∧ Below W.heap.size W w') := fun b W hW => least_any B _ _ W (hW.bank b) e H hH (hok b)
  have HS1 : Hid (∀ k : Nat, k < 4 → (∀ b, b < k → leastF (mtS hsC e H) (·.order) (bankL S b) = none) → ptrL (mtS hsC e H) (bankV v1 v2 v3 k) (bankL S k) ≠ .pointer none → findP S (mtS hsC e H) v1 v2 v3 = ptrL (mtS hsC e H) (bankV v1 v2 v3 k) (bankL S k)) := fun k hk hn hp => findP_step hz k hk hn hp
  have HS2 : Hid ((∀ b, b < 4 → leastF (mtS hsC e H) (·.order) (bankL S b) = none) → findP S (mtS hsC e H) v1 v2 v3 = .pointer none) := fun hn => findP_none hz hn
  clear h hH hz hok
  go_enter Try.func22, Try.ntmps22
  go_wp2_with fail
  go_loopw [11] (fun i wr => ∃ k : Nat, k ≤ 4 ∧ i = .int .i64 (k : Int) ∧ Hid (∀ b, b < k → leastF (mtS hsC e H) (·.order) (bankL S b) = none) ∧ Hid (wr.heap[w.heap.size]? = some (.cells (hv H) 23 (0, 0))) ∧ Hid (Below w.heap.size w wr)) (fun i _ => 4 - (intOf i).toNat)
  case atStart => exact ⟨0, Nat.zero_le _, rfl, fun b hb => by omega, heap_new _ _ _ rfl, (Below.refl _ _).alloc (Nat.le_refl _) _⟩
  case round =>
    obtain ⟨k, hk, rfl, HP, HH, HB⟩ := hrel
    by_cases hlt : k < 4
    · have hlt' : (k : Int) < 4 := by omega
      have T1 : Hid (TabV B wr g R S v1 v2 v3) := HT.out wr HB.out
      have d1 : ∀ u : Later wr, u.world.cell? ⟨g, 4 + k, none⟩ = some (bankV v1 v2 v3 k) := fun u => (T1.out.below u.below).f.bankCell k hlt
      have CL : Hid (∀ u : Later wr, Calls Try.prog 41 #[bankV v1 v2 v3 k, .int .i64 e, .agg (hv H)] u.world fun r w' => r = .returned (ptrL (mtS hsC e H) (bankV v1 v2 v3 k) (bankL S k)) ∧ Below u.world.heap.size u.world w') := fun u => HL.out k _ (T1.out.below u.below)
      have ne1 := Later.ne wr
      have Q1 := HS1.out k hlt HP.out
      have Q2 : ptrL (mtS hsC e H) (bankV v1 v2 v3 k) (bankL S k) = .pointer none → leastF (mtS hsC e H) (·.order) (bankL S k) = none := ptrL_none
      have Q3 : ptrL (mtS hsC e H) (bankV v1 v2 v3 k) (bankL S k) ≠ .pointer none → ∃ a, ptrL (mtS hsC e H) (bankV v1 v2 v3 k) (bankL S k) = .pointer (some a) := ptrL_some
      obtain ⟨pv, hpv⟩ : ∃ pv, pv = ptrL (mtS hsC e H) (bankV v1 v2 v3 k) (bankL S k) := ⟨_, rfl⟩
      rw [← hpv] at CL Q1 Q2 Q3
      obtain ⟨vb, hvb⟩ : ∃ vb, vb = bankV v1 v2 v3 k := ⟨_, rfl⟩
      rw [← hvb] at CL d1
      clear hpv hvb
      by_cases hnil : pv = .pointer none
      · have HQ : Hid (leastF (mtS hsC e H) (·.order) (bankL S k) = none) := Q2 hnil
        subst hnil
        clear Q1 Q2 Q3
        go_wp2_with fail
        refine wp_region_later (by kernel_rfl) (by kernel_rfl) ?_
        go_big_quiet_step (rfl)
        go_big_quiet_step (rfl)
        refine q_nilT rfl _ rfl _ rfl ?_
        simp only [Act.put, List.setIfInBounds_toArray, List.set_cons_succ, List.set_cons_zero]
        go_big_quiet_step (rfl)
        go_big_quiet_step (rfl)
        go_big_quiet_step (rfl)
        go_big_quiet_step (rfl)
        refine qlH rfl _ rfl w.heap.size rfl H HH.out HHl ?_
        simp only [Act.put, List.setIfInBounds_toArray, List.set_cons_succ, List.set_cons_zero]
        go_big_quiet_want; go_big_quiet_op
        refine ⟨_, fun u => Calls.later_of (CL.out u), ?_⟩
        go_big_quiet_on
        go_big_quiet_step (rfl)
        refine wpQuiet_nil ?_
        rintro w' ⟨u, rfl⟩
        go_wp2_with fail
        go_roundw
        case rel =>
          refine ⟨k + 1, by omega, by go_num, fun b hb => ?_, later_block HH.out _ ⟨u, rfl⟩, below_step HB.out HB.out.size u.below⟩
          by_cases hbk : b = k
          · subst hbk; exact HQ.out
          · exact HP.out b (by omega)
        case measure => simp [intOf]; omega
      · have HQ : Hid (findP S (mtS hsC e H) v1 v2 v3 = pv) := Q1 hnil
        obtain ⟨a, rfl⟩ := Q3 hnil
        clear Q1 Q2 Q3 hnil
        go_wp2_with fail
        refine wp_region_later (by kernel_rfl) (by kernel_rfl) ?_
        go_big_quiet_step (rfl)
        go_big_quiet_step (rfl)
        refine q_nilT rfl _ rfl _ rfl ?_
        simp only [Act.put, List.setIfInBounds_toArray, List.set_cons_succ, List.set_cons_zero]
        go_big_quiet_step (rfl)
        go_big_quiet_step (rfl)
        go_big_quiet_step (rfl)
        go_big_quiet_step (rfl)
        refine qlH rfl _ rfl w.heap.size rfl H HH.out HHl ?_
        simp only [Act.put, List.setIfInBounds_toArray, List.set_cons_succ, List.set_cons_zero]
        go_big_quiet_want; go_big_quiet_op
        refine ⟨_, fun u => Calls.later_of (CL.out u), ?_⟩
        go_big_quiet_on
        go_big_quiet_step (rfl)
        refine wpQuiet_nil ?_
        rintro w' ⟨u, rfl⟩
        go_wp2_with fail
        go_ret
        exact ⟨by rw [HQ.out]; rfl, below_step HB.out HB.out.size u.below⟩
    · have hlt' : ¬ (k : Int) < 4 := by omega
      have HK : Hid (k = 4) := by show _ = _; omega
      go_wp2_with fail
      go_ret
      exact ⟨by rw [HS2.out (fun b hb => HP.out b (by have := HK.out; omega))]; rfl, HB.out⟩
end Go.Proofs.Ytojhckjdkafpmab
