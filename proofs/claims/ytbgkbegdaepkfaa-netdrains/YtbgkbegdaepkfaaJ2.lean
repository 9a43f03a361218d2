import Derived.Test.YtbgkbegdaepkfaaJ1
import Derived.Deep.RegionLaw
import Derived.Shelf.RegionOpenPlain
namespace Go.Proofs.Ytbgkbegdaepkfaa
open Go Go.RowKit
set_option maxRecDepth 20000

/-! Letters on their way, in memory. -/
def letV (x : LetM) : Array Value := #[.int .i64 (x.no : Int), .string ⟨x.data.toArray⟩]
def LetE : El := ⟨55, 49, 2, 24, #[.int .i64 0, .string ⟨#[]⟩]⟩
theorem LetOk : LetE.Ok := ⟨Try.underlying49, ⟨_, Try.underlying55, rfl⟩, by kernel_rfl, rfl, by decide, by decide, by decide⟩
theorem let_fits (x : LetM) : Fits LetE (letV x) := ⟨rfl, by simp [letV, Value.oneCell']⟩
def LetsAt (B : Nat) (w : World) (v : Value) (C : List LetM) : Prop := w.ownsRow B 55 2 v C.length (gcells letV C)
theorem LetsAt.sl {B : Nat} {w : World} {v : Value} {C : List LetM} (h : LetsAt B w v C) : GSl LetE letV w v C := gsl_of (E := LetE) h fun _ _ => rfl
theorem LetsAt.lt {B : Nat} {w : World} {v : Value} {C : List LetM} (h : LetsAt B w v C) : ∀ k, v.ownBlock = some k → B ≤ k ∧ k < w.heap.size := World.ownsRow.lt h
theorem LetsAt.nil (B : Nat) (w : World) : LetsAt B w (.slice none 0 0) [] := World.ownsRow_nil _ _ _ _
theorem LetsAt.kept {X : Nat → Prop} {B : Nat} {w w' : World} {v : Value} {C : List LetM} (h : LetsAt B w v C) (hk : Kept X w w') (hX : ∀ k, v.ownBlock = some k → ¬ X k) : LetsAt B w' v C := hk.own h hX
theorem LetsAt.below {B : Nat} {w w' : World} {v : Value} {C : List LetM} (h : LetsAt B w v C) (hb : Below w.heap.size w w') : LetsAt B w' v C := gown_below h hb
theorem LetsAt.slice {B : Nat} {w : World} {v : Value} {C : List LetM} (h : LetsAt B w v C) : ∃ o cap, v = .slice o C.length cap ∧ C.length ≤ cap ∧ cap ≤ maxLen := h.sl.slice
theorem own_ty {e : TypeId} {s : Nat} {B : Nat} {w : World} {v : Value} {m : Nat} {xs : List Value} (h : w.ownsRow B e s v m xs) {g : Nat} {cs : Array Value} {t : TypeId} {fr : Nat × Nat} (hg : w.heap[g]? = some (.cells cs t fr)) (ht : t ≠ e) : v.ownBlock ≠ some g := by
  intro q
  obtain ⟨_, ⟨rfl, _⟩ | ⟨g', cap, cur, rfl, _, h1, _⟩⟩ := h
  · cases q
  · simp only [Value.ownBlock, Option.some.injEq] at q
    subst q
    rw [hg] at h1
    simp only [Option.some.injEq, Obj.cells.injEq] at h1
    exact ht h1.2.1

/-- The letters of the link with that number. -/
def linkK (n : NetM) (k : Nat) : List LetM := linkL n ((k / 7 : Nat) : Int) ((k % 7 : Nat) : Int)
theorem linkK_at (n : NetM) (f t : Nat) (ht : t ≤ 6) : linkK n (f * 7 + t) = linkL n (f : Int) (t : Int) := by
  unfold linkK
  rw [show (f * 7 + t) / 7 = f by omega, show (f * 7 + t) % 7 = t by omega]
def netV (n : NetM) (vs : List Value) : Array Value := (Value.int .i64 n.nodes :: .int .i64 n.room :: .int .i64 (n.last : Int) :: vs).toArray
/-- A net in memory: its block, its rows. -/
structure NetV (B : Nat) (w : World) (g : Nat) (n : NetM) (vs : List Value) : Prop where
  blk : w.heap[g]? = some (.cells (netV n vs) 53 (0, 0))
  len : vs.length = 49
  own : ∀ k v, vs[k]? = some v → LetsAt B w v (linkK n k)
  apart : ∀ (j k : Nat) u v, j ≠ k → vs[j]? = some u → vs[k]? = some v → ApartR u.ownBlock v.ownBlock
  hB : B ≤ g
def footN (g : Nat) (vs : List Value) (k : Nat) : Prop := k = g ∨ ∃ (j : Nat) (v : Value), vs[j]? = some v ∧ v.ownBlock = some k
theorem NetV.foot_in {B : Nat} {w : World} {g : Nat} {n : NetM} {vs : List Value} (h : NetV B w g n vs) : ∀ k, footN g vs k → B ≤ k ∧ k < w.heap.size := by
  rintro k (rfl | ⟨j, v, h1, h2⟩)
  · exact ⟨h.hB, (Array.getElem?_eq_some_iff.1 h.blk).1⟩
  · exact (h.own j v h1).lt k h2
theorem NetV.kept {X : Nat → Prop} {B : Nat} {w w' : World} {g : Nat} {n : NetM} {vs : List Value} (h : NetV B w g n vs) (hk : Kept X w w') (hX : ∀ k, footN g vs k → ¬ X k) : NetV B w' g n vs :=
  ⟨hk.heap h.blk (hX _ (.inl rfl)), h.len, fun k v e => (h.own k v e).kept hk fun q hq => hX q (.inr ⟨k, v, e, hq⟩), h.apart, h.hB⟩
theorem NetV.below {B : Nat} {w w' : World} {g : Nat} {n : NetM} {vs : List Value} (h : NetV B w g n vs) (hb : Below w.heap.size w w') : NetV B w' g n vs := h.kept (X := fun _ => False) (Kept.of_below hb) fun _ _ e => e
theorem NetV.hw {B : Nat} {w : World} {g : Nat} {n : NetM} {vs : List Value} (h : NetV B w g n vs) : B ≤ w.heap.size := by have := h.foot_in g (.inl rfl); omega
theorem NetV.at {B : Nat} {w : World} {g : Nat} {n : NetM} {vs : List Value} (h : NetV B w g n vs) (k : Nat) (hk : k < 49) : ∃ v, vs[k]? = some v ∧ LetsAt B w v (linkK n k) := by
  have hk' : k < vs.length := by rw [h.len]; exact hk
  have e : vs[k]? = some vs[k] := List.getElem?_eq_getElem hk'
  exact ⟨_, e, h.own _ _ e⟩
/-- A net's fields. -/
structure NetF (w : World) (g : Nat) (n : NetM) (vs : List Value) : Prop where
  c0 : w.cell? ⟨g, 0, none⟩ = some (.int .i64 n.nodes)
  c1 : w.cell? ⟨g, 1, none⟩ = some (.int .i64 n.room)
  c2 : w.cell? ⟨g, 2, none⟩ = some (.int .i64 (n.last : Int))
  ck : ∀ k v, vs[k]? = some v → w.cell? ⟨g, 3 + k, none⟩ = some v
  fz : ∀ k, w.frozen? ⟨g, k, none⟩ = false
theorem netf_of {w : World} {g : Nat} {n : NetM} {vs : List Value} {t : TypeId} (h : w.heap[g]? = some (.cells (netV n vs) t (0, 0))) : NetF w g n vs :=
  ⟨by rw [cell_of_row w g _ _ _ _ h]; rfl, by rw [cell_of_row w g _ _ _ _ h]; rfl, by rw [cell_of_row w g _ _ _ _ h]; rfl, fun k v e => by
    rw [cell_of_row w g _ _ _ _ h, ← e]
    unfold netV
    rw [List.getElem?_toArray, show 3 + k = k + 1 + 1 + 1 by omega, List.getElem?_cons_succ, List.getElem?_cons_succ, List.getElem?_cons_succ], fun k => by simp [World.frozen?, h]⟩
theorem NetV.f {B : Nat} {w : World} {g : Nat} {n : NetM} {vs : List Value} (h : NetV B w g n vs) : NetF w g n vs := netf_of h.blk
/-- What a call that changes the net leaves. -/
def NetTo (B : Nat) (w w' : World) (g : Nat) (n' : NetM) (vs : List Value) : Prop := ∃ us, NetV B w' g n' us ∧ Kept (footN g vs) w w' ∧ ∀ k, footN g us k → footN g vs k ∨ w.heap.size ≤ k
theorem NetV.stay {B : Nat} {w w' : World} {g : Nat} {n : NetM} {vs : List Value} (h : NetV B w g n vs) (hb : Below w.heap.size w w') : NetTo B w w' g n vs := ⟨vs, h.below hb, Kept.of_below hb, fun _ e => .inl e⟩
theorem NetTo.trans {B : Nat} {w w1 w2 : World} {g : Nat} {n' : NetM} {vs us : List Value} (h : Kept (footN g vs) w w1) (hf : ∀ k, footN g us k → footN g vs k ∨ w.heap.size ≤ k) (h' : NetTo B w1 w2 g n' us) : NetTo B w w2 g n' vs := by
  obtain ⟨xs, h1, h2, h3⟩ := h'
  refine ⟨xs, h1, h.trans h2 hf, fun k e => ?_⟩
  rcases h3 k e with e | e
  · exact hf k e
  · exact .inr (Nat.le_trans h.size e)
theorem NetTo.pre {B : Nat} {w w1 w2 : World} {g : Nat} {n' : NetM} {vs : List Value} (hb : Below w.heap.size w w1) (h : NetTo B w1 w2 g n' vs) : NetTo B w w2 g n' vs := NetTo.trans (Kept.of_below hb) (fun _ e => .inl e) h
theorem NetTo.add {B : Nat} {w w1 w2 : World} {g : Nat} {n' : NetM} {vs : List Value} (h : NetTo B w w1 g n' vs) (hb : Below w1.heap.size w1 w2) : NetTo B w w2 g n' vs := by
  obtain ⟨us, h1, h2, h3⟩ := h
  exact ⟨us, h1.below hb, h2.add hb, h3⟩
/-- The number of letters that came to be, set. -/
theorem NetV.setLast {B : Nat} {w : World} {g : Nat} {n : NetM} {vs : List Value} (h : NetV B w g n vs) (m : Nat) : NetV B (w.setCell ⟨g, 2, none⟩ (.int .i64 (m : Int))) g { n with last := m } vs ∧ Kept (isB g) w (w.setCell ⟨g, 2, none⟩ (.int .i64 (m : Int))) := by
  have hK : Kept (isB g) w (w.setCell ⟨g, 2, none⟩ (.int .i64 (m : Int))) := ⟨rfl, rfl, rfl, by simp [World.setCell], fun k _ e => heap_setCell_other w ⟨g, 2, none⟩ k _ e⟩
  refine ⟨⟨heap_setCell_same w g 2 _ _ _ h.blk, h.len, fun k v e => (h.own k v e).kept hK fun q hq e' => ?_, h.apart, h.hB⟩, hK⟩
  unfold isB at e'
  subst e'
  exact own_ty (h.own k v e) h.blk (by decide) hq
/-- A link's row is put back. -/
theorem NetV.put {B : Nat} {w w' : World} {g : Nat} {n n' : NetM} {vs : List Value} (h : NetV B w g n vs) (j : Nat) (vj : Value) (hj : vs[j]? = some vj) (u : Value) (hk : Kept (rowX vj) w w') (hu : LetsAt B w' u (linkK n' j)) (ho : u.ownBlock = vj.ownBlock ∨ ∀ k, u.ownBlock = some k → w.heap.size ≤ k)
    (h0 : n'.nodes = n.nodes) (h1 : n'.room = n.room) (h2 : n'.last = n.last) (hl : ∀ k, k ≠ j → linkK n' k = linkK n k) :
    NetTo B w (w'.setCell ⟨g, 3 + j, none⟩ u) g n' vs := by
  have hjl : j < vs.length := (List.getElem?_eq_some_iff.1 hj).1
  have hgx : ¬ rowX vj g := own_ty (h.own j vj hj) h.blk (by decide)
  have hbk := hk.heap h.blk hgx
  have hset : (w'.setCell ⟨g, 3 + j, none⟩ u).heap[g]? = some (.cells (netV n' (vs.set j u)) 53 (0, 0)) := by
    rw [heap_setCell_same w' g (3 + j) _ _ u hbk]
    unfold netV
    rw [h0, h1, h2, List.setIfInBounds_toArray, show 3 + j = j + 1 + 1 + 1 by omega]
    rfl
  have hK2 : Kept (isB g) w' (w'.setCell ⟨g, 3 + j, none⟩ u) := ⟨rfl, rfl, rfl, by simp [World.setCell], fun k _ e => heap_setCell_other w' ⟨g, 3 + j, none⟩ k _ e⟩
  have hu' : LetsAt B (w'.setCell ⟨g, 3 + j, none⟩ u) u (linkK n' j) := hu.kept hK2 fun k e e' => by unfold isB at e'; subst e'; exact own_ty hu hbk (by decide) e
  have ho' : ∀ k, u.ownBlock = some k → vj.ownBlock = some k ∨ w.heap.size ≤ k := fun k e => by
    rcases ho with e' | e'
    · rw [e'] at e; exact .inl e
    · exact .inr (e' k e)
  have ap : ∀ (k : Nat) (v : Value), k ≠ j → vs[k]? = some v → ApartR v.ownBlock u.ownBlock := fun k v hkj hv => by
    rcases ho with e | e
    · rw [e]; exact h.apart k j v vj hkj hv hj
    · cases hvb : v.ownBlock with
      | none => exact .inl rfl
      | some q =>
        refine .inr (.inr fun e' => ?_)
        have := ((h.own k v hv).lt q hvb).2
        have := e q e'.symm
        omega
  have gs : ∀ k v, (vs.set j u)[k]? = some v → (k = j ∧ v = u) ∨ (k ≠ j ∧ vs[k]? = some v) := fun k v e => by
    by_cases hkj : k = j
    · subst hkj
      rw [List.getElem?_set_self hjl] at e
      exact .inl ⟨rfl, (Option.some.inj e).symm⟩
    · rw [List.getElem?_set_ne (fun q => hkj q.symm)] at e
      exact .inr ⟨hkj, e⟩
  refine ⟨vs.set j u, ⟨hset, by rw [List.length_set]; exact h.len, fun k v e => ?_, fun a b x y hab hx hy => ?_, h.hB⟩, (hk.mono (Y := footN g vs) fun k _ e => .inr ⟨j, vj, hj, e⟩).trans hK2 fun k e => .inl (.inl e), fun k e => ?_⟩
  · rcases gs k v e with ⟨rfl, rfl⟩ | ⟨hkj, hv⟩
    · exact hu'
    · rw [hl k hkj]
      refine ((h.own k v hv).kept hk fun q hq e' => (h.apart k j v vj hkj hv hj).ne q hq e').kept hK2 fun q hq e' => ?_
      unfold isB at e'
      subst e'
      exact own_ty (h.own k v hv) h.blk (by decide) hq
  · rcases gs a x hx with ⟨rfl, rfl⟩ | ⟨ha, hx'⟩
    · rcases gs b y hy with ⟨rfl, rfl⟩ | ⟨hb, hy'⟩
      · exact absurd rfl hab
      · exact (ap b y hb hy').symm
    · rcases gs b y hy with ⟨rfl, rfl⟩ | ⟨hb, hy'⟩
      · exact ap a x ha hx'
      · exact h.apart a b x y hab hx' hy'
  · rcases e with e | ⟨a, x, hx, hq⟩
    · exact .inl (.inl e)
    · rcases gs a x hx with ⟨rfl, rfl⟩ | ⟨ha, hx'⟩
      · rcases ho' k hq with e | e
        · exact .inl (.inr ⟨a, vj, hj, e⟩)
        · exact .inr e
      · exact .inl (.inr ⟨a, x, hx', hq⟩)

/-! What holds of a net besides. -/
structure NetIn (n : NetM) : Prop where
  ok : NetOk n
  n0 : 0 ≤ n.nodes
  n6 : n.nodes ≤ 6
  r5 : n.room ≤ 512
  pos : ∀ x ∈ n.row, 1 ≤ x.no
  dat : ∀ x ∈ n.row, x.data.length ≤ 281474976710656
theorem new_in {nodes room : Int} {n : NetM} (h : newN nodes room = some n) : NetIn n := by
  have hk := new_ok h
  unfold newN at h
  split at h
  · rename_i hc
    obtain rfl := Option.some.inj h
    exact ⟨hk, hc.1, hc.2.1, hc.2.2.2, fun x hx => absurd hx (List.not_mem_nil), fun x hx => absurd hx (List.not_mem_nil)⟩
  · cases h
theorem put_in {n : NetM} (h : NetIn n) {f t : Int} (hl : isL n f t = true) (hc : (countL n f t : Int) < n.room) {s : List UInt8} (hs : s.length ≤ 281474976710656) : NetIn (putNt n f t s) := by
  refine ⟨put_ok h.ok hl hc s, h.n0, h.n6, h.r5, fun x hx => ?_, fun x hx => ?_⟩
  · rcases List.mem_append.1 hx with hx | hx
    · exact h.pos x hx
    · obtain rfl : x = ⟨f, t, s, n.last + 1⟩ := by simpa using hx
      exact Nat.le_add_left _ _
  · rcases List.mem_append.1 hx with hx | hx
    · exact h.dat x hx
    · obtain rfl : x = ⟨f, t, s, n.last + 1⟩ := by simpa using hx
      exact hs
theorem send_in {n : NetM} (h : NetIn n) (f t : Int) {s : List UInt8} (hs : s.length ≤ 281474976710656) : NetIn (sendN n f t s).1 := by
  unfold sendN
  split
  · rename_i hl
    split
    · exact h
    · rename_i hc
      exact put_in h hl (by omega) hs
  · exact h
theorem erase_in {n : NetM} (h : NetIn n) (j : Nat) : NetIn { n with row := n.row.eraseIdx j } := by
  have hs : (n.row.eraseIdx j).Sublist n.row := List.eraseIdx_sublist _ _
  exact ⟨erase_ok h.ok j, h.n0, h.n6, h.r5, fun x hx => h.pos x (hs.subset hx), fun x hx => h.dat x (hs.subset hx)⟩
theorem take_in {n : NetM} (h : NetIn n) (f t i : Int) : NetIn (takeN n f t i).1 := by
  unfold takeN
  split
  · split
    · exact erase_in h _
    · exact h
  · exact h
theorem peek_len {n : NetM} (h : NetIn n) (f t i : Int) : (peekN n f t i).1.length ≤ 281474976710656 := by
  unfold peekN
  split
  · split
    · rename_i j hj
      dsimp only
      cases hx : n.row[j]? with
      | none => simp
      | some x => simpa using h.dat x (List.mem_of_getElem? hx)
    · simp
  · simp
theorem twice_in {n : NetM} (h : NetIn n) (f t i : Int) : NetIn (twiceN n f t i).1 := by
  unfold twiceN
  split
  · exact send_in h f t (peek_len h f t i)
  · exact h
/-- The addresses of a link. -/
theorem is_nat {n : NetM} (h : NetIn n) {f t : Int} (hl : isL n f t = true) : ∃ F T : Nat, f = (F : Int) ∧ t = (T : Int) ∧ F ≤ 6 ∧ T ≤ 6 := by
  unfold isL at hl
  simp only [Bool.and_eq_true, decide_eq_true_eq] at hl
  have := h.n6
  exact ⟨f.toNat, t.toNat, by omega, by omega, by omega, by omega⟩
/-- What the i-th letter of a link is. -/
theorem place_link {n : NetM} {f t : Int} {i : Nat} : placeL n f t (i : Int) = placeP (onL f t) n.row i := by
  unfold placeL
  rw [if_pos (by omega), Int.toNat_natCast]
theorem peek_some {n : NetM} {f t : Int} {i : Nat} {x : LetM} (hl : isL n f t = true) (hx : (linkL n f t)[i]? = some x) : peekN n f t (i : Int) = (x.data, 0) ∧ ∃ j, n.row[j]? = some x ∧ placeL n f t (i : Int) = some j ∧ takeN n f t (i : Int) = ({ n with row := n.row.eraseIdx j }, x.data, 0) := by
  have hp := place_link (n := n) (f := f) (t := t) (i := i)
  cases h : placeP (onL f t) n.row i with
  | none =>
    have := place_none.1 h
    unfold linkL at hx
    have := (List.getElem?_eq_some_iff.1 hx).1
    omega
  | some j =>
    obtain ⟨y, h1, _, h3, _⟩ := place_some h
    unfold linkL at hx
    rw [h3] at hx
    obtain rfl := Option.some.inj hx
    rw [h] at hp
    unfold peekN takeN
    rw [if_pos hl, if_pos hl, hp]
    simp only [h1, Option.map_some, Option.getD_some]
    exact ⟨by trivial, j, h1, rfl, rfl⟩
theorem peek_no {n : NetM} {f t i : Int} (hl : isL n f t = true) (hi : i < 0 ∨ ((linkL n f t).length : Int) ≤ i) : peekN n f t i = ([], 14) ∧ takeN n f t i = (n, [], 14) := by
  have : placeL n f t i = none := by
    unfold placeL
    split
    · rename_i h0
      rw [place_none]
      unfold linkL at hi
      omega
    · rfl
  unfold peekN takeN
  rw [if_pos hl, if_pos hl, this]
  exact ⟨rfl, rfl⟩
theorem peek_arg {n : NetM} {f t i : Int} (hl : isL n f t = false) : peekN n f t i = ([], 1) ∧ takeN n f t i = (n, [], 1) := by
  unfold peekN takeN
  rw [hl]
  exact ⟨rfl, rfl⟩
end Go.Proofs.Ytbgkbegdaepkfaa
namespace Go.Proofs.Ytbgkbegdaepkfaa
open Go Go.RowKit
set_option maxRecDepth 20000

theorem address_any (w : World) (g : Nat) (m : Int) (hc : w.cell? ⟨g, 0, none⟩ = some (.int .i64 m)) (a : Int) :
    Calls Try.prog 29 #[.pointer (some ⟨g, 0, none⟩), .int .i64 a] w fun e w' => e = .returned (.bool (decide (0 ≤ a) && decide (a ≤ m))) ∧ w' = w := by
  by_cases h0 : 0 ≤ a
  · have d0 : decide (0 ≤ a) = true := decide_eq_true h0
    go_enter Try.func29, Try.ntmps29
    go_wp2_with fail
    go_ret
    exact ⟨ret_bool (by rw [d0, Bool.true_and]), rfl⟩
  · have d0 : decide (0 ≤ a) = false := decide_eq_false h0
    go_enter Try.func29, Try.ntmps29
    go_wp2_with fail
    go_ret
    exact ⟨by simp, rfl⟩
set_option maxHeartbeats 1000000 in
theorem leads_any (w : World) (g : Nat) (n : NetM) (hc : w.cell? ⟨g, 0, none⟩ = some (.int .i64 n.nodes)) (f t : Int) :
    Calls Try.prog 24 #[.pointer (some ⟨g, 0, none⟩), .int .i64 f, .int .i64 t] w fun e w' => e = .returned (.bool (isL n f t)) ∧ w' = w := by
  have HA : Hid (∀ a, Calls Try.prog 29 #[.pointer (some ⟨g, 0, none⟩), .int .i64 a] w fun e w' => e = .returned (.bool (decide (0 ≤ a) && decide (a ≤ n.nodes))) ∧ w' = w) := fun a => address_any w g n.nodes hc a
  obtain ⟨b1, hb1⟩ : ∃ b, b = (decide (0 ≤ f) && decide (f ≤ n.nodes)) := ⟨_, rfl⟩
  obtain ⟨b2, hb2⟩ : ∃ b, b = (decide (0 ≤ t) && decide (t ≤ n.nodes)) := ⟨_, rfl⟩
  have A1 := HA.out f
  have A2 := HA.out t
  rw [← hb1] at A1
  rw [← hb2] at A2
  have hE : isL n f t = (b1 && b2) := by unfold isL; rw [hb1, hb2, Bool.and_assoc]
  rw [hE]
  clear hE hb1 hb2 HA hc
  cases b1
  · go_enter Try.func24, Try.ntmps24
    go_wp2_with (first | go_skip | (go_at_call 29; refine A1.mono ?_; rintro e w1 ⟨rfl, h1⟩; subst h1))
    go_ret
    exact ⟨by simp, rfl⟩
  · go_enter Try.func24, Try.ntmps24
    go_wp2_with (go_at_call 29; refine of_stopT ?_)
    unfold StopT
    refine A1.mono ?_
    rintro e w1 ⟨rfl, h1⟩
    subst h1
    go_wp2_with (go_at_call 29; refine of_stopT ?_)
    unfold StopT
    refine A2.mono ?_
    rintro e w1 ⟨rfl, h1⟩
    subst h1
    go_wp2_with fail
    go_ret
    exact ⟨by simp, rfl⟩
set_option maxHeartbeats 4000000 in
theorem count_any (B : Nat) (w : World) (g : Nat) (n : NetM) (vs : List Value) (h : NetV B w g n vs) (hn : NetIn n) (f t : Int) :
    Calls Try.prog 14 #[.pointer (some ⟨g, 0, none⟩), .int .i64 f, .int .i64 t] w fun e w' => e = .returned (.int .i64 ((if isL n f t then countL n f t else 0 : Nat) : Int)) ∧ w' = w := by
  have HL := leads_any w g n h.f.c0 f t
  cases hl : isL n f t with
  | false =>
    rw [hl] at HL
    go_enter Try.func14, Try.ntmps14
    go_wp2_with (go_at_call 24; refine HL.mono ?_; rintro e w1 ⟨rfl, h1⟩; subst h1)
    go_ret
    exact ⟨rfl, rfl⟩
  | true =>
    rw [hl] at HL
    obtain ⟨F, T, rfl, rfl, hF, hT⟩ := is_nat hn hl
    obtain ⟨v, hv, ho⟩ := h.at (F * 7 + T) (by omega)
    rw [linkK_at n F T hT] at ho
    obtain ⟨o, cap, rfl, _, _⟩ := ho.slice
    have cv := h.f.ck _ _ hv
    rw [show 3 + (F * 7 + T) = 3 + F * 7 + T by omega] at cv
    unfold countL
    obtain ⟨q, hq⟩ : ∃ q, q = (linkL n F T).length := ⟨_, rfl⟩
    rw [← hq] at cv ⊢
    have b1 : (F : Int) < 7 := by omega
    have b2 : (T : Int) < 7 := by omega
    clear hq ho hv h hl hn
    go_enter Try.func14, Try.ntmps14
    go_wp2_with (go_at_call 24; refine HL.mono ?_; rintro e w1 ⟨rfl, h1⟩; subst h1)
    go_ret
    exact ⟨rfl, rfl⟩
end Go.Proofs.Ytbgkbegdaepkfaa
namespace Go.Proofs.Ytbgkbegdaepkfaa
open Go Go.RowKit
set_option maxRecDepth 20000

set_option maxHeartbeats 8000000 in
theorem peek_any (B : Nat) (w : World) (g : Nat) (n : NetM) (vs : List Value) (h : NetV B w g n vs) (hn : NetIn n) (f t i : Int) :
    Calls Try.prog 19 #[.pointer (some ⟨g, 0, none⟩), .int .i64 f, .int .i64 t, .int .i64 i] w fun e w' => e = .returned (.tuple #[.string ⟨(peekN n f t i).1.toArray⟩, .int .i64 (peekN n f t i).2]) ∧ Below w.heap.size w w' := by
  have HL := leads_any w g n h.f.c0 f t
  cases hl : isL n f t with
  | false =>
    rw [hl] at HL
    rw [(peek_arg hl).1]
    clear hl h hn
    go_enter Try.func19, Try.ntmps19
    go_wp2_with (go_at_call 24; refine HL.mono ?_; rintro e w1 ⟨rfl, h1⟩; subst h1)
    go_ret2
    exact ⟨rfl, Below.refl _ _⟩
  | true =>
    rw [hl] at HL
    obtain ⟨F, T, rfl, rfl, hF, hT⟩ := is_nat hn hl
    obtain ⟨v, hv, ho⟩ := h.at (F * 7 + T) (by omega)
    rw [linkK_at n F T hT] at ho
    obtain ⟨o, cap, rfl, hc1, hc2⟩ := ho.slice
    have cv := h.f.ck _ _ hv
    rw [show 3 + (F * 7 + T) = 3 + F * 7 + T by omega] at cv
    have hgs := ho.sl
    obtain ⟨q, hq⟩ : ∃ q, q = (linkL n F T).length := ⟨_, rfl⟩
    rw [← hq] at cv hgs hc1
    unfold maxLen at hc2
    have b1 : (F : Int) < 7 := by omega
    have b2 : (T : Int) < 7 := by omega
    by_cases hi : i < 0 ∨ (q : Int) ≤ i
    · rw [(peek_no hl (by rw [← hq]; exact hi)).1]
      clear hq ho hv h hl hn hgs
      by_cases hi0 : i < 0
      · clear hi
        go_enter Try.func19, Try.ntmps19
        go_wp2_with (first | go_skip | (go_at_call 24; refine HL.mono ?_; rintro e w1 ⟨rfl, h1⟩; subst h1))
        go_ret2
        exact ⟨rfl, Below.refl _ _⟩
      · have hi1 : (q : Int) ≤ i := by omega
        clear hi
        go_enter Try.func19, Try.ntmps19
        go_wp2_with (go_at_call 24; refine HL.mono ?_; rintro e w1 ⟨rfl, h1⟩; subst h1)
        go_ret2
        exact ⟨rfl, Below.refl _ _⟩
    · obtain ⟨I, rfl⟩ : ∃ I : Nat, i = (I : Int) := ⟨i.toNat, by omega⟩
      have hI : I < q := by omega
      have hI' : (I : Int) < (q : Int) := by omega
      obtain ⟨g', off, cur, ty, fr, y, rfl, hg, hcc, hyI⟩ := hgs.at I hI
      rw [(peek_some hl hyI).1]
      have cy : w.cell? ⟨g', off + I * 2 + 1, none⟩ = some (.string ⟨y.data.toArray⟩) := by
        rw [cell_of_row _ _ _ _ _ _ hg]
        exact hcc 1 (by decide)
      obtain ⟨s, hs⟩ : ∃ s : ByteArray, s = ⟨y.data.toArray⟩ := ⟨_, rfl⟩
      have hsz : s.size ≤ 281474976710656 := by
        rw [hs]
        have := hn.dat y (List.mem_filter.1 (List.mem_of_getElem? hyI)).1
        simpa [ByteArray.size] using this
      rw [← hs] at cy
      rw [← hs]
      have HC : Hid (∀ W, Calls Try.prog 25 #[.string s] W fun e w' => e = .returned (.string s) ∧ Below W.heap.size W w') := fun W => clone_any s W hsz
      clear hs hsz hyI hcc hg hgs hi hq ho hv h hl hn
      go_enter Try.func19, Try.ntmps19
      go_wp2_with (go_at_call 24; refine HL.mono ?_; rintro e w1 ⟨rfl, h1⟩; subst h1; refine of_stopT ?_)
      unfold StopT
      clear HL
      go_wp2_with (go_at_call 25; refine (HC.out _).mono ?_; rintro e w1 ⟨rfl, hb1⟩)
      go_ret2
      exact ⟨rfl, hb1⟩
end Go.Proofs.Ytbgkbegdaepkfaa
namespace Go.Proofs.Ytbgkbegdaepkfaa
open Go Go.RowKit
set_option maxRecDepth 20000

/-! Steps of drawn regions, for go_region_law_o. -/
/-- A call, as a step of a drawn region. -/
theorem step_call {ops : Array Oper} {o : Oper} {a : Act} {w : World} {K : Act → World → Prop} {Q : Exit → Act → World → Prop} {R : Prop} (hgd : o.guard = none) (f : FuncId) (xs : Array Operand)
    (hf : ∀ (b : Act) (w : World), (execOp b.eval o).run Try.prog w = .ok (.enter f (xs.map b.eval)) w) (vs : Array Value) (hvs : xs.toList.map a.eval = vs.toList)
    (D : Ending → World → Prop) (h : Calls Try.prog f vs w D) (hD : ∀ e w', D e w' → ∃ v, e = .returned v) (hK : ∀ v w', D (.returned v) w' → K (a.put o.dst v) w') :
    if Region.wanted o (yielded ops a.tmps) = true then Oper.wp Try.prog o a w K Q else R := by
  have hw : Region.wanted o (yielded ops a.tmps) = true := by simp [Region.wanted, hgd]
  rw [if_pos hw]
  unfold Oper.wp
  rw [hf a w, show xs.map a.eval = vs from Array.ext' (by rw [Array.toList_map]; exact hvs)]
  refine h.mono ?_
  intro e w' hd
  obtain ⟨v, rfl⟩ := hD e w' hd
  exact hK v w' hd
/-- Elements appended where there is room, as a step of a drawn region. -/
theorem step_append_row {ops : Array Oper} {o : Oper} {a : Act} {w : World} {K : Act → World → Prop} {Q : Exit → Act → World → Prop} {R : Prop} {E : El} (H : E.Ok)
    (hgd : o.guard = none) (s x : Operand) (hop : o.op = Op.call { callee := Callee.builtin Builtin.append, args := #[s, x], argTypes := #[E.slice, E.slice] })
    (g n cap : Nat) (hs : a.eval s = .slice (some ⟨g, 0, none⟩) n cap) (cur : Array Value) (hg : w.heap[g]? = some (.cells cur E.elem (0, 0)))
    (ad : Addr) (m c : Nat) (news : List Value) (hx : a.eval x = .slice (some ad) m c) (hn : news.length = m * E.size) (hc : ∀ j u, news[j]? = some u → w.cell? (ad.add j) = some u) (h1c : ∀ u ∈ news, u.oneCell' = true)
    (hroom : n + m ≤ cap) (hfit : n * E.size + news.length ≤ cur.size)
    (hK : K (a.put o.dst (.slice (some ⟨g, 0, none⟩) (n + m) cap)) (w.setRow g (cur.toList.take (n * E.size) ++ news ++ cur.toList.drop (n * E.size + news.length)).toArray)) :
    if Region.wanted o (yielded ops a.tmps) = true then Oper.wp Try.prog o a w K Q else R := by
  have hw : Region.wanted o (yielded ops a.tmps) = true := by simp [Region.wanted, hgd]
  rw [if_pos hw]
  obtain ⟨i0, hi, hz0, hz1, hz2⟩ := H.info
  have hrun := run_append_room (P := Try.prog) w E.slice o.type E.elem i0 H.hs hi g n cap cur hg ad m c news (by rw [hz1]; exact hn) hc h1c hroom (by rw [hz1]; exact hfit)
  rw [hz1] at hrun
  unfold Oper.wp execOp
  simp only [hop, resolve, invoke, builtin, Sem.run_bind, Sem.run_pure, Result.andThen_ok, List.map_toArray, List.map_cons, List.map_nil, hs, hx, hrun]
  exact hK
/-- One element appended to one's own row of them. -/
theorem step_appE {E : El} (H : E.Ok) {α : Type} (enc : α → Array Value) {ops : Array Oper} {o : Oper} {a : Act} {w : World} {K : Act → World → Prop} {Q : Exit → Act → World → Prop} {R : Prop} (hgd : o.guard = none) (s x : Operand) (ho : o.op = .call { callee := .builtin .append, args := #[s, x], argTypes := #[E.slice, E.slice] })
    (B : Nat) (v : Value) (C : List α) (c : α) (hf : Fits E (enc c)) (hs : a.eval s = v) (hown : w.ownsRow B E.elem E.size v C.length (gcells enc C)) (g cap : Nat) (hx : a.eval x = .slice (some ⟨g, 0, none⟩) 1 cap) (hg : w.heap[g]? = some (.cells (enc c) E.elem (0, 0)))
    (hn : C.length ≤ 1000000) (hB : B ≤ w.heap.size)
    (hK : ∀ v' w', w'.ownsRow B E.elem E.size v' (C ++ [c]).length (gcells enc (C ++ [c])) → w.grownBy w' v.ownBlock → (v'.ownBlock = v.ownBlock ∨ v'.ownBlock = some w.heap.size) → K (a.put o.dst v') w') :
    if Region.wanted o (yielded ops a.tmps) = true then Oper.wp Try.prog o a w K Q else R := by
  have hw : Region.wanted o (yielded ops a.tmps) = true := by simp [Region.wanted, hgd]
  rw [if_pos hw]
  obtain ⟨i0, hi, hz0, hz1, hz2⟩ := H.info
  have hb := H.hb
  obtain ⟨v', w', h1, h2, h3, _, h5⟩ := run_append_own_at (P := Try.prog) w B E.slice o.type E.elem i0 (.agg E.zero) E.size E.bytes H.hs hi hz0 hz1 hz2 (by simpa [Value.cells] using H.hz) H.hp v _ _ hown ⟨g, 0, none⟩ 1 cap (enc c).toList (by rw [Array.length_toList, hf.1, Nat.one_mul]) (fun j y hy => by
    have hadd : (⟨g, 0, none⟩ : Addr).add j = ⟨g, j, none⟩ := by unfold Addr.add; split <;> simp_all
    rw [hadd, cell_of_row w g j _ _ _ hg, ← hy]
    simp) (fun u hu => (Array.all_eq_true_iff_forall_mem.1 hf.2) u (by simpa using hu)) (by unfold maxLen; omega) (Nat.le_trans (Nat.mul_le_mul (show C.length + 1 ≤ 1000001 by omega) hb) (by decide)) hB
  unfold Oper.wp execOp
  simp only [ho, resolve, invoke, builtin, Sem.run_bind, Sem.run_pure, Result.andThen_ok, List.map_toArray, List.map_cons, List.map_nil, hs, hx, h1]
  exact hK v' w' (by rw [List.length_append, gcells_append, gcells_one]; exact h2) h3 h5
end Go.Proofs.Ytbgkbegdaepkfaa
namespace Go.Proofs.Ytbgkbegdaepkfaa
open Go Go.RowKit
set_option maxRecDepth 20000

theorem step_append_let {ops : Array Oper} {o : Oper} {a : Act} {w : World} {K : Act → World → Prop} {Q : Exit → Act → World → Prop} {R : Prop}
    (hgd : o.guard = none) (s x : Operand) (hop : o.op = Op.call { callee := Callee.builtin Builtin.append, args := #[s, x], argTypes := #[49, 49] })
    (g n cap : Nat) (hs : a.eval s = .slice (some ⟨g, 0, none⟩) n cap) (cur : Array Value) (hg : w.heap[g]? = some (.cells cur 55 (0, 0)))
    (ad : Addr) (m c : Nat) (news : List Value) (hx : a.eval x = .slice (some ad) m c) (hn : news.length = m * 2) (hc : ∀ j u, news[j]? = some u → w.cell? (ad.add j) = some u) (h1c : ∀ u ∈ news, u.oneCell' = true)
    (hroom : n + m ≤ cap) (hfit : n * 2 + news.length ≤ cur.size) (k : Nat) (hk : n + m = k) (W : World) (hW : W = w.setRow g (cur.toList.take (n * 2) ++ news ++ cur.toList.drop (n * 2 + news.length)).toArray)
    (hK : K (a.put o.dst (.slice (some ⟨g, 0, none⟩) k cap)) W) :
    if Region.wanted o (yielded ops a.tmps) = true then Oper.wp Try.prog o a w K Q else R := by
  subst hk
  rw [hW] at hK
  exact step_append_row (E := LetE) LetOk hgd s x hop g n cap hs cur hg ad m c news hx hn hc h1c hroom hfit hK
/-- One element at the end is cleared. -/
theorem run_clear_one {E : El} (H : E.Ok) (hz : (Array.all E.zero (·.oneCell')) = true) (w : World) (ty : TypeId) (g m c : Nat) (cur : Array Value) (hg : w.heap[g]? = some (.cells cur E.elem (0, 0))) (hf : m * E.size + E.size ≤ cur.size) :
    (Builtin.clear_ #[E.slice] ty #[.slice (some ⟨g, m * E.size, none⟩) 1 c]).run Try.prog w = .ok (.tuple #[]) (w.setRow g (cur.toList.take (m * E.size) ++ E.zero.toList ++ cur.toList.drop (m * E.size + E.size)).toArray) := by
  obtain ⟨i0, hi, hz0, hz1, hz2⟩ := H.info
  have hzv : ∀ w, (zeroValue E.elem).run Try.prog w = .ok (.agg E.zero) w := fun w => by simp [zeroValue, typeInfo, hi, hz0, go_sem]
  have hzc : (Builtin.zeroCells E.zero 1).toList = E.zero.toList := by
    apply List.ext_getElem?
    intro k
    by_cases hk : k < E.zero.size
    · simp [Builtin.zeroCells, hk, Nat.mod_eq_of_lt hk]
    · rw [List.getElem?_eq_none (by simp [Builtin.zeroCells]; omega), List.getElem?_eq_none (by simp; omega)]
  have hst := run_storeCells_at Try.prog g (m * E.size) E.elem E.zero.toList 0 cur w hg (by simp [H.hz]; omega) (fun u hu => (Array.all_eq_true_iff_forall_mem.1 hz) u (by simpa using hu))
  simp only [Nat.add_zero, Array.length_toList, H.hz] at hst
  simp [Builtin.clear_, run_underlying H.hs, hzv, hzc, hst, Value.cells]
theorem let_len (C : List LetM) : (gcells letV C).length = C.length * 2 := by
  induction C with
  | nil => rfl
  | cons x C ih => rw [gcells_cons, List.length_append, ih, List.length_cons]; show 2 + _ = _; omega
theorem let_drop : ∀ (C : List LetM) (k : Nat), (gcells letV C).drop (k * 2) = gcells letV (C.drop k)
  | [], k => by simp [gcells]
  | x :: C, 0 => by simp
  | x :: C, k + 1 => by
    rw [gcells_cons, List.drop_succ_cons, ← let_drop C k, show (k + 1) * 2 = 2 + k * 2 by omega, ← List.drop_drop]
    rfl
theorem let_take : ∀ (C : List LetM) (k : Nat), (gcells letV C).take (k * 2) = gcells letV (C.take k)
  | [], k => by simp [gcells]
  | x :: C, 0 => by simp [gcells]
  | x :: C, k + 1 => by
    rw [List.take_succ_cons, gcells_cons, gcells_cons, ← let_take C k, show (k + 1) * 2 = k * 2 + 1 + 1 by omega]
    rfl
theorem let_one {C : List LetM} {u : Value} (h : u ∈ gcells letV C) : u.oneCell' = true := by
  unfold gcells at h
  obtain ⟨x, _, hu⟩ := List.mem_flatMap.1 h
  exact (Array.all_eq_true_iff_forall_mem.1 (let_fits x).2) u (by simpa using hu)
set_option maxHeartbeats 8000000 in
theorem delete_any (B : Nat) (w : World) (v : Value) (C : List LetM) (hv : LetsAt B w v C) (i : Nat) (hi : i < C.length) (hn : C.length ≤ 1000000) :
    Calls Try.prog 26 #[v, .int .i64 (i : Int), .int .i64 ((i + 1 : Nat) : Int)] w fun e w' => ∃ u, e = .returned u ∧ LetsAt B w' u (C.eraseIdx i) ∧ u.ownBlock = v.ownBlock ∧ Kept (rowX v) w w' := by
  obtain ⟨h1, ⟨rfl, h2⟩ | ⟨g, cap, cur, rfl, hB, hcur, h3, h4, h5, h6⟩⟩ := hv
  · omega
  obtain ⟨m, hm⟩ : ∃ m, C.length = m + 1 := ⟨C.length - 1, by omega⟩
  rw [hm] at h3 h6 hi
  rw [hm]
  unfold maxLen at h4
  have hic : i ≤ cap := by omega
  have hjc : i + 1 ≤ cap := by omega
  have hi0 : (0 : Int) ≤ (i : Int) + 1 := by omega
  have him : i ≤ m := by omega
  have mixed : Try.prog.follows Departure.mixedOrders = true := by kernel_rfl
  obtain ⟨news, hnews⟩ : ∃ news, news = gcells letV (C.drop (i + 1)) := ⟨_, rfl⟩
  have hlen : news.length = (m - i) * 2 := by rw [hnews, let_len, List.length_drop, hm]; congr 1; omega
  have hgl : (gcells letV C).length = (m + 1) * 2 := by rw [let_len, hm]
  have hnat : ∀ t u, news[t]? = some u → cur[(i + 1) * 2 + t]? = some u := fun t u hu => by
    have ht : t < (m - i) * 2 := by rw [← hlen]; exact (List.getElem?_eq_some_iff.1 hu).1
    rw [hnews, ← let_drop, List.getElem?_drop, ← h6, List.getElem?_take_of_lt (by omega), Array.getElem?_toList] at hu
    exact hu
  obtain ⟨A, hA, hsrc⟩ : ∃ A : Addr, (if cap = i + 1 then some (⟨g, 0, none⟩ : Addr) else some ⟨g, (i + 1) * 2, none⟩) = some A ∧ Hid (∀ t u, news[t]? = some u → w.drew.cell? (A.add t) = some u) := by
    by_cases h : cap = i + 1
    · refine ⟨⟨g, 0, none⟩, by simp [h], fun t u hu => ?_⟩
      have := (List.getElem?_eq_some_iff.1 hu).1
      omega
    · refine ⟨⟨g, (i + 1) * 2, none⟩, by simp [h], fun t u hu => ?_⟩
      rw [Addr.add_lit]
      show w.cell? _ = _
      rw [cell_of_row _ _ _ _ _ _ hcur]
      exact hnat t u hu
  have s1 : Hid (news.length = (m - i) * 2) := hlen
  have s2 : Hid (∀ u ∈ news, u.oneCell' = true) := fun u hu => let_one (by rw [hnews] at hu; exact hu)
  have s3 : Hid (w.drew.heap[g]? = some (.cells cur 55 (0, 0))) := hcur
  obtain ⟨W1, hW1⟩ : ∃ W1, W1 = w.drew.setRow g (cur.toList.take (i * 2) ++ news ++ cur.toList.drop (i * 2 + news.length)).toArray := ⟨_, rfl⟩
  have hW : Hid (W1 = w.drew.setRow g (cur.toList.take (i * 2) ++ news ++ cur.toList.drop (i * 2 + news.length)).toArray) := hW1
  have sz : Hid (i * 2 + news.length ≤ cur.size) := by show _ ≤ _; rw [hlen, h5]; omega
  obtain ⟨r1, hr1⟩ : ∃ r1, r1 = (cur.toList.take (i * 2) ++ news ++ cur.toList.drop (i * 2 + news.length)).toArray := ⟨_, rfl⟩
  have hcl : cur.toList.length = cap * 2 := by rw [Array.length_toList, h5]
  have hfr : (cur.toList.take (i * 2) ++ news).length = m * 2 := by rw [List.length_append, List.length_take, hcl, hlen]; omega
  have hs1 : r1.size = cap * 2 := by rw [hr1, List.size_toArray, List.length_append, hfr, List.length_drop, hcl, hlen]; omega
  have ht1 : r1.toList.take (m * 2) = gcells letV (C.eraseIdx i) := by
    rw [hr1, ← hfr, List.take_left, hnews, List.eraseIdx_eq_take_drop_succ, gcells_append, ← let_take, ← h6, List.take_take, show min (i * 2) ((m + 1) * 2) = i * 2 by omega]
  have hg1 : W1.heap[g]? = some (.cells r1 55 (0, 0)) := by rw [hW1, ← hr1]; exact setRow_heap _ _ _ _ _ _ s3.out
  obtain ⟨W2, hW2⟩ : ∃ W2, W2 = W1.setRow g (r1.toList.take (m * 2) ++ [Value.int .i64 0, .string ⟨#[]⟩] ++ r1.toList.drop (m * 2 + 2)).toArray := ⟨_, rfl⟩
  have hc2 : ∀ ty, (Builtin.clear_ #[49] ty #[.slice (some ⟨g, m * 2, none⟩) 1 (cap - m)]).run Try.prog W1 = .ok (.tuple #[]) W2 := fun ty => by
    rw [hW2]
    exact run_clear_one (E := LetE) LetOk (by simp [LetE, Value.oneCell']) W1 ty g m (cap - m) r1 hg1 (by rw [hs1]; show m * 2 + 2 ≤ _; omega)
  have HE : Hid (LetsAt B W2 (.slice (some ⟨g, 0, none⟩) m cap) (C.eraseIdx i) ∧ Kept (rowX (.slice (some ⟨g, 0, none⟩) (m + 1) cap)) w W2) := by
    have hlt : (r1.toList.take (m * 2)).length = m * 2 := by rw [List.length_take, Array.length_toList, hs1]; omega
    have hel : (C.eraseIdx i).length = m := by rw [List.length_eraseIdx_of_lt (by omega), hm]; rfl
    refine ⟨⟨by rw [let_len], .inr ⟨g, cap, _, by rw [hel], hB, by rw [hW2]; exact setRow_heap _ _ _ _ _ _ hg1, by omega, h4, ?_, ?_⟩⟩, ?_⟩
    · have hrl : r1.toList.length = cap * 2 := by rw [Array.length_toList, hs1]
      rw [List.size_toArray, List.length_append, List.length_append, hlt, List.length_drop, hrl]
      simp only [List.length_cons, List.length_nil]
      omega
    · rw [hel, List.append_assoc, List.take_append_of_le_length (by rw [hlt]; exact Nat.le_refl _), List.take_of_length_le (by rw [hlt]; exact Nat.le_refl _), ht1]
    · have k1 : Kept (isB g) w W1 := by rw [hW1]; exact ⟨rfl, rfl, rfl, by simp, fun k _ hk => setRow_other _ g k _ hk⟩
      have k2 : Kept (isB g) W1 W2 := by rw [hW2]; exact ⟨rfl, rfl, rfl, by simp, fun k _ hk => setRow_other _ g k _ hk⟩
      exact (k1.trans k2 fun k e => .inl e).mono fun k _ e => by unfold isB at e; unfold rowX Value.ownBlock; rw [e]
  have hcm : ¬ cap = m := by omega
  clear hn h1 hB hlen hgl hnat hnews hW1 h5 h6 hcur hm hr1 hcl hfr hs1 ht1 hg1 hW2
  go_enter Try.func26, Try.ntmps26
  go_wp2_with fail
  go_region_law_o (refine step_append_let rfl (.tmp 22) (.tmp 25) rfl g i cap (by simp [Act.eval, Act.put]) cur s3.out A (m - i) (cap - (i + 1)) news (by simp [Act.eval, Act.put]) s1.out hsrc.out s2.out (by omega) sz.out m (by omega) W1 hW.out ?_)
  go_wp2
  go_ret
  exact ⟨_, rfl, HE.out.1, rfl, HE.out.2⟩
end Go.Proofs.Ytbgkbegdaepkfaa
namespace Go.Proofs.Ytbgkbegdaepkfaa
open Go Go.RowKit
set_option maxRecDepth 20000

/-- What is taken out of a link. -/
theorem take_links {n : NetM} {F T : Nat} (hT : T ≤ 6) {i j : Nat} (hp : placeL n (F : Int) (T : Int) (i : Int) = some j) :
    linkK { n with row := n.row.eraseIdx j } (F * 7 + T) = (linkK n (F * 7 + T)).eraseIdx i ∧ ∀ k, k ≠ F * 7 + T → linkK { n with row := n.row.eraseIdx j } k = linkK n k := by
  rw [place_link] at hp
  obtain ⟨y, h1, h2, h3, h4, _⟩ := place_some hp
  refine ⟨by rw [linkK_at _ _ _ hT, linkK_at _ _ _ hT]; exact h4, fun k hk => ?_⟩
  refine filter_erase_other h1 ?_
  unfold onL at h2 ⊢
  simp only [Bool.and_eq_true, beq_iff_eq] at h2
  rw [h2.1, h2.2]
  rw [Bool.and_eq_false_iff]
  simp only [beq_eq_false_iff_ne, ne_eq]
  omega
set_option maxHeartbeats 8000000 in
theorem takeN_any (B : Nat) (w : World) (g : Nat) (n : NetM) (vs : List Value) (h : NetV B w g n vs) (hn : NetIn n) (f t i : Int) :
    Calls Try.prog 17 #[.pointer (some ⟨g, 0, none⟩), .int .i64 f, .int .i64 t, .int .i64 i] w fun e w' => e = .returned (.tuple #[.string ⟨(takeN n f t i).2.1.toArray⟩, .int .i64 (takeN n f t i).2.2]) ∧ NetTo B w w' g (takeN n f t i).1 vs := by
  have HP := peek_any B w g n vs h hn f t i
  have HV : Hid (NetV B w g n vs) := h
  by_cases h0 : ∃ c : Int, c ≠ 0 ∧ peekN n f t i = ([], c) ∧ takeN n f t i = (n, [], c)
  · obtain ⟨c, hc, h1, h2⟩ := h0
    rw [h1] at HP
    rw [h2]
    have hc' : (c != 0) = true := by simpa using hc
    clear h1 h2 h hn
    go_enter Try.func17, Try.ntmps17
    go_wp2_with (go_at_call 19; refine HP.mono ?_; rintro e w1 ⟨rfl, hb1⟩)
    go_ret2
    exact ⟨rfl, HV.out.stay hb1⟩
  · have hl : isL n f t = true := by
      cases hl : isL n f t with
      | true => rfl
      | false => exact absurd ⟨1, by decide, (peek_arg hl).1, (peek_arg hl).2⟩ h0
    have hi : ¬ (i < 0 ∨ ((linkL n f t).length : Int) ≤ i) := fun hi => h0 ⟨14, by decide, (peek_no hl hi).1, (peek_no hl hi).2⟩
    clear h0
    obtain ⟨F, T, rfl, rfl, hF, hT⟩ := is_nat hn hl
    obtain ⟨I, rfl⟩ : ∃ I : Nat, i = (I : Int) := ⟨i.toNat, by omega⟩
    have hI : I < (linkL n F T).length := by omega
    obtain ⟨e1, j, e2, e3, e4⟩ := peek_some hl (List.getElem?_eq_getElem hI)
    obtain ⟨l1, l2⟩ := take_links hT e3
    rw [e1] at HP
    rw [e4]
    obtain ⟨s, hs⟩ : ∃ s : ByteArray, s = ⟨(linkL n F T)[I].data.toArray⟩ := ⟨_, rfl⟩
    dsimp only at HP ⊢
    rw [← hs] at HP ⊢
    obtain ⟨v, hv, ho⟩ := h.at (F * 7 + T) (by omega)
    have HC : Hid (∀ W, Below w.heap.size w W → W.cell? ⟨g, 3 + F * 7 + T, none⟩ = some v) := fun W hb => by
      have := (h.below hb).f.ck _ _ hv
      rw [show 3 + (F * 7 + T) = 3 + F * 7 + T by omega] at this
      exact this
    have HD : Hid (∀ W, Below w.heap.size w W → Calls Try.prog 26 #[v, .int .i64 (I : Int), .int .i64 ((I : Int) + 1)] W fun e w' => ∃ u, e = .returned u ∧ LetsAt B w' u ((linkK n (F * 7 + T)).eraseIdx I) ∧ u.ownBlock = v.ownBlock ∧ Kept (rowX v) W w') := fun W hb =>
      delete_any B W v _ (ho.below hb) I (by rw [linkK_at _ _ _ hT]; exact hI) (by
        have h1 := hn.ok.count F T
        have h2 := hn.r5
        rw [linkK_at _ _ _ hT]
        unfold countL at h1
        omega)
    have HX : Hid (∀ W W' u, Below w.heap.size w W → LetsAt B W' u ((linkK n (F * 7 + T)).eraseIdx I) → u.ownBlock = v.ownBlock → Kept (rowX v) W W' → W'.cell? ⟨g, 3 + F * 7 + T, none⟩ = some v ∧ W'.frozen? ⟨g, 3 + F * 7 + T, none⟩ = false ∧ NetTo B w (W'.setCell ⟨g, 3 + F * 7 + T, none⟩ u) g { n with row := n.row.eraseIdx j } vs) := fun W W' u hb hu hq hk => by
      have hW := h.below hb
      have hgx : ¬ rowX v g := own_ty (hW.own _ v hv) hW.blk (by decide)
      have hf := netf_of (hk.heap hW.blk hgx)
      have c1 := hf.ck _ _ hv
      rw [show 3 + (F * 7 + T) = 3 + F * 7 + T by omega] at c1
      refine ⟨c1, hf.fz _, ?_⟩
      have := hW.put (n' := { n with row := n.row.eraseIdx j }) (F * 7 + T) v hv u hk (by rw [l1]; exact hu) (.inl hq) rfl rfl rfl l2
      rw [show 3 + (F * 7 + T) = 3 + F * 7 + T by omega] at this
      exact NetTo.pre hb this
    have HSL : Hid (∀ W' u, LetsAt B W' u ((linkK n (F * 7 + T)).eraseIdx I) → ∃ o q c, u = .slice o q c) := fun W' u hu => by
      obtain ⟨o, cap, e, _⟩ := hu.slice
      exact ⟨o, _, cap, e⟩
    have b1 : (F : Int) < 7 := by omega
    have b2 : (T : Int) < 7 := by omega
    have bI : (I : Int) + 1 ≤ 1000000 := by
      have h1 := hn.ok.count F T
      have h2 := hn.r5
      unfold countL at h1
      omega
    obtain ⟨o0, cap0, hv0, _, _⟩ := ho.slice
    obtain ⟨q0, hq0⟩ : ∃ q0, q0 = (linkK n (F * 7 + T)).length := ⟨_, rfl⟩
    rw [← hq0] at hv0
    have hwr : IntKind.i64.wrap ((I : Int) + 1) = (I : Int) + 1 := by rw [IntKind.wrap_i64]; omega
    have mixed : Try.prog.follows Departure.mixedOrders = true := by kernel_rfl
    clear h hn hl e1 e2 e3 e4 l1 l2 ho hv hs hI hi hq0
    subst hv0
    go_enter Try.func17, Try.ntmps17
    go_wp2_with (go_at_call 19; refine HP.mono ?_; rintro e w1 ⟨rfl, hb1⟩; refine of_stopT ?_)
    unfold StopT
    have HB1 : Hid (Below w.heap.size w w1.drew) := hb1.drew
    have c1 := HC.out w1 hb1
    have c1d := HC.out w1.drew HB1.out
    have hcall := HD.out w1.drew HB1.out
    clear HP hb1
    go_wp2_with fail
    go_region_law_o (refine step_call rfl 26 #[.tmp 33, .tmp 34, .tmp 36] (by intro b w; have hf := Try.func26; simp [go_sem]) #[.slice o0 q0 cap0, .int .i64 (I : Int), .int .i64 ((I : Int) + 1)] (by simp [Act.eval]) _ hcall (by rintro e w' ⟨u, h, _⟩; exact ⟨u, h⟩) ?_; rintro u0 w2 ⟨u, hu0, q1, q2, q3⟩; obtain rfl : u0 = u := (by simpa using hu0); obtain ⟨o2, n2, p2, rfl⟩ := HSL.out w2 u0 q1; obtain ⟨f1, f2, f3⟩ := HX.out _ w2 _ HB1.out q1 q2 q3; have F3 : Hid _ := f3; clear q1 q2 q3 f3 hu0)
    go_wp2_with fail
    go_ret2
    exact ⟨rfl, F3.out⟩
end Go.Proofs.Ytbgkbegdaepkfaa
