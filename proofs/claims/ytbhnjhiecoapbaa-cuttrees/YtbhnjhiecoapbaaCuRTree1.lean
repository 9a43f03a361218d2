import Derived.Test.YtbhnjhiecoapbaaCuRTree0
import Derived.Test.YtbhnjhiecoapbaaScMem
namespace Go.Proofs.Ytbhnjhiecoapbaa
open Go Go.Lib Go.RowKit Ieee
set_option maxRecDepth 20000

/-! What the reference's Tree holds in its loops. -/
abbrev bvT (b : Nat) (G : Int) (x : LeafM) : Value := .int .i64 (bitI b G x)
structure TrS (b : Nat) (G : Int) (B : Nat) (w : World) (v10 v11 v16 v17 : Value) (out nx : List LeafM) (mx : List Value) : Prop where
  o : LeavesOwn B w v10 out
  bits : VOwn 3 B w v11 (out.map (bvT b G))
  n : LeavesOwn B w v16 nx
  m : VOwn 3 B w v17 mx
  ap : ∀ g, v16.ownBlock = some g → v10.ownBlock ≠ some g
  ap2 : ∀ g, v17.ownBlock = some g → v11.ownBlock ≠ some g
theorem TrS.below {b : Nat} {G : Int} {B : Nat} {w w' : World} {v10 v11 v16 v17 : Value} {out nx : List LeafM} {mx : List Value} (h : TrS b G B w v10 v11 v16 v17 out nx mx) (hb : Below w.heap.size w w') : TrS b G B w' v10 v11 v16 v17 out nx mx :=
  ⟨NOwn.below LfR.below h.o hb, h.bits.below hb, NOwn.below LfR.below h.n hb, h.m.below hb, h.ap, h.ap2⟩
theorem int_ne_leaf : (3 : Nat) ≠ 45 := by decide
theorem int_ne_rule : (3 : Nat) ≠ 30 := by decide
theorem TrS.addN {b : Nat} {G : Int} {B : Nat} {w w' : World} {v10 v11 v16 v17 v' : Value} {out nx nx' : List LeafM} {mx : List Value} (h : TrS b G B w v10 v11 v16 v17 out nx mx) (hgr : w.grownBy w' v16.ownBlock) (h' : LeavesOwn B w' v' nx') (hob : v'.ownBlock = v16.ownBlock ∨ v'.ownBlock = some w.heap.size) : TrS b G B w' v10 v11 v' v17 out nx' mx := by
  obtain ⟨n, xs, hr⟩ := own_row12 h.n
  refine ⟨leaves_grown hr hgr h.ap h.o, h.bits.grown hgr (fun g hg => own_apart h.bits hr int_ne_leaf g hg), h', h.m.grown hgr (fun g hg => own_apart h.m hr int_ne_leaf g hg), fun g hg h2 => ?_, h.ap2⟩
  rcases hob with e | e
  · rw [e] at hg; exact h.ap g hg h2
  · rw [e] at hg
    obtain rfl : w.heap.size = g := by simpa using hg
    exact absurd (own_lt12 h.o _ h2) (Nat.lt_irrefl _)
theorem LfR.grownI {B B' : Nat} {w w' : World} {v : Value} {L : List Value} (hv : VOwn 3 B' w v L) (hgr : w.grownBy w' v.ownBlock) {x : LeafM} {u : Value} (h : LfR B w x u) : LfR B w' x u :=
  ⟨h.1, own_grown hgr h.2 (own_apart hv h.2 int_ne_rule)⟩
theorem TrS.addM {b : Nat} {G : Int} {B : Nat} {w w' : World} {v10 v11 v16 v17 v' : Value} {out nx : List LeafM} {mx mx' : List Value} (h : TrS b G B w v10 v11 v16 v17 out nx mx) (hgr : w.grownBy w' v17.ownBlock) (h' : VOwn 3 B w' v' mx') (hob : v'.ownBlock = v17.ownBlock ∨ v'.ownBlock = some w.heap.size) : TrS b G B w' v10 v11 v16 v' out nx mx' := by
  obtain ⟨n, xs, hr⟩ := own_row12 h.n
  obtain ⟨n2, xs2, hr2⟩ := own_row12 h.o
  refine ⟨NOwn.grown hgr h.o (own_apart h.m hr2 int_ne_leaf) fun _ _ hq => LfR.grownI h.m hgr hq, h.bits.grown hgr (fun g hg h2 => h.ap2 g h2 hg), NOwn.grown hgr h.n (own_apart h.m hr int_ne_leaf) fun _ _ hq => LfR.grownI h.m hgr hq, h', h.ap, fun g hg h2 => ?_⟩
  rcases hob with e | e
  · rw [e] at hg; exact h.ap2 g hg h2
  · rw [e] at hg
    obtain rfl : w.heap.size = g := by simpa using hg
    exact absurd (h.bits.ge _ h2).2 (Nat.lt_irrefl _)
theorem vown1 (w : World) (B : Nat) (hB : B ≤ w.heap.size) (u : Value) (ty : TypeId) : VOwn ty B (w.alloc (.cells #[u] ty)) (.slice (some ⟨w.heap.size, 0, none⟩) 1 1) [u] := by
  refine ⟨by simp, .inr ⟨_, 1, #[u], rfl, hB, heap_new _ _ _ rfl, Nat.le_refl _, by unfold maxLen; omega, by simp, ?_⟩⟩
  simp
/-- The leaves behind one round, so far. -/
def nxT (cuts : List LeafM) (p : Nat) (out : List LeafM) : Nat → List LeafM
  | 0 => []
  | k + 1 => nxT cuts p out k ++ (if k = p then cuts else (out[k]?).toList)
theorem nx_lo (cuts : List LeafM) (p : Nat) (out : List LeafM) : ∀ k, k ≤ p → nxT cuts p out k = out.take k
  | 0, _ => rfl
  | k + 1, h => by rw [nxT, nx_lo cuts p out k (by omega), if_neg (by omega), List.take_add_one]
theorem nx_hi (cuts : List LeafM) (p : Nat) (out : List LeafM) : ∀ j, nxT cuts p out (p + 1 + j) = out.take p ++ cuts ++ (out.drop (p + 1)).take j
  | 0 => by rw [Nat.add_zero, nxT, nx_lo cuts p out p (Nat.le_refl _), if_pos rfl]; simp
  | j + 1 => by rw [← Nat.add_assoc, nxT, nx_hi cuts p out j, if_neg (by omega), List.take_add_one, List.getElem?_drop, List.append_assoc, List.append_assoc]
theorem nx_all {cuts : List LeafM} {p : Nat} {out : List LeafM} (hp : p < out.length) : nxT cuts p out out.length = out.take p ++ cuts ++ out.drop (p + 1) := by
  have := nx_hi cuts p out (out.length - (p + 1))
  rw [show p + 1 + (out.length - (p + 1)) = out.length by omega] at this
  rw [this, List.take_of_length_le (l := out.drop (p + 1)) (by rw [List.length_drop]; omega)]
theorem nx_len (cuts : List LeafM) (p : Nat) (out : List LeafM) : ∀ k, (nxT cuts p out k).length ≤ k + cuts.length
  | 0 => by simp [nxT]
  | k + 1 => by
    by_cases h : k = p
    · subst h
      rw [nxT, nx_lo cuts k out k (Nat.le_refl _), if_pos rfl, List.length_append, List.length_take]
      omega
    · have ih := nx_len cuts p out k
      rw [nxT, if_neg h, List.length_append]
      have : (out[k]?).toList.length ≤ 1 := by cases out[k]? <;> simp
      omega
theorem nx_step {cuts : List LeafM} {p : Nat} {out : List LeafM} {k : Nat} {x : LeafM} (h : k ≠ p) (hx : out[k]? = some x) : nxT cuts p out (k + 1) = nxT cuts p out k ++ [x] := by
  rw [nxT, if_neg h, hx]; rfl
theorem nx_cut {cuts : List LeafM} {p : Nat} {out : List LeafM} : nxT cuts p out (p + 1) = nxT cuts p out p ++ cuts := by
  rw [nxT, if_pos rfl]
theorem cuts_of {b : Nat} {G : Int} {x : LeafM} {i : Nat} (h : bitO b G x = some i) : cutsT b G x = [halfL x i false, halfL x i true] := by unfold cutsT; rw [h]
theorem bitI_none {b : Nat} {G : Int} {x : LeafM} (h : bitO b G x = none) : bitI b G x = -1 := by unfold bitI; rw [h]
theorem bitI_some {b : Nat} {G : Int} {x : LeafM} {i : Nat} (h : bitO b G x = some i) : bitI b G x = (i : Int) := by unfold bitI; rw [h]
theorem bitO_low {b : Nat} {G : Int} {x : LeafM} (h : ¬ G < (x.rules.length : Int)) : bitO b G x = none := by unfold bitO; rw [if_neg h]
theorem bitO_no {b : Nat} {G : Int} {x : LeafM} (h : (bestO x.cube.1 x.cube.2 x.rules b 104).isSome = false) : bitO b G x = none := by
  unfold bitO
  cases hs : bestO x.cube.1 x.cube.2 x.rules b 104 with
  | none => simp
  | some p => rw [hs] at h; cases h
theorem bitO_yes {b : Nat} {G : Int} {x : LeafM} (hG : G < (x.rules.length : Int)) (h : (bestO x.cube.1 x.cube.2 x.rules b 104).isSome = true) : bitO b G x = some (bI (bestO x.cube.1 x.cube.2 x.rules b 104)) := by
  unfold bitO
  rw [if_pos hG]
  cases hs : bestO x.cube.1 x.cube.2 x.rules b 104 with
  | none => rw [hs] at h; cases h
  | some p => rfl
/-- A pick as the loop tells it. -/
def pkI (s : Option Nat) : Int := match s with | none => -1 | some i => (i : Int)
def sLen (v : Value) : Nat := match v with | .slice _ n _ => n | _ => 0
theorem pick_skip {q : LeafM → Bool} {l : List LeafM} {k : Nat} {x : LeafM} (hx : l[k]? = some x) (hq : q x = false) : pickS q l (k + 1) = pickS q l k := by
  rw [pickS, hx]
  dsimp only
  cases pickS q l k with
  | none => rw [hq]; rfl
  | some i =>
    dsimp only
    cases l[i]? with
    | none => rfl
    | some y => dsimp only; rw [hq]; simp
theorem pick_first {q : LeafM → Bool} {l : List LeafM} {k : Nat} {x : LeafM} (hx : l[k]? = some x) (hq : q x = true) (h : pickS q l k = none) : pickS q l (k + 1) = some k := by
  rw [pickS, hx, h]
  dsimp only
  rw [if_pos hq]
theorem pick_more {q : LeafM → Bool} {l : List LeafM} {k i : Nat} {x y : LeafM} (hx : l[k]? = some x) (hq : q x = true) (h : pickS q l k = some i) (hy : l[i]? = some y) (hl : y.rules.length < x.rules.length) : pickS q l (k + 1) = some k := by
  rw [pickS, hx, h]
  dsimp only
  rw [hy]
  dsimp only
  rw [if_pos ⟨hq, hl⟩]
theorem pick_stay {q : LeafM → Bool} {l : List LeafM} {k i : Nat} {x y : LeafM} (hx : l[k]? = some x) (h : pickS q l k = some i) (hy : l[i]? = some y) (hl : ¬ y.rules.length < x.rules.length) : pickS q l (k + 1) = some i := by
  rw [pickS, hx, h]
  dsimp only
  rw [hy]
  dsimp only
  rw [if_neg fun h => hl h.2]
end Go.Proofs.Ytbhnjhiecoapbaa
