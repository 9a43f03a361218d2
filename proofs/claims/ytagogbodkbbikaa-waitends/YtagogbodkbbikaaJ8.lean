import Derived.Test.YtagogbodkbbikaaJ2
import Derived.Test.YtagogbodkbbikaaJ7
import Derived.Deep.QuietTactic
import Derived.Test.YtagogbodkbbikaaJ5
namespace Go.Proofs.Ytagogbodkbbikaa
open Go Go.RowKit
set_option maxRecDepth 20000

/-! The reference's object in memory. -/
theorem gcells_set {α : Type} (enc : α → Array Value) (n : Nat) : ∀ (C : List α), (∀ c ∈ C, (enc c).size = n) → ∀ (i : Nat) (x y : α) (j : Nat) (u : Value), C[i]? = some x → j < n → (enc x).setIfInBounds j u = enc y → (gcells enc C).set (i * n + j) u = gcells enc (C.set i y)
  | [], _, i, x, y, j, u, h, _, _ => by simp at h
  | c :: C, hC, 0, x, y, j, u, h, hj, he => by
    obtain rfl : c = x := by simpa using h
    have h1 := hC c (by simp)
    rw [List.set_cons_zero, gcells_cons, gcells_cons, Nat.zero_mul, Nat.zero_add, List.set_append_left _ _ (by rw [Array.length_toList, h1]; exact hj), ← he, Array.toList_setIfInBounds]
  | c :: C, hC, i + 1, x, y, j, u, h, hj, he => by
    have h1 := hC c (by simp)
    rw [List.getElem?_cons_succ] at h
    rw [List.set_cons_succ, gcells_cons, gcells_cons, ← gcells_set enc n C (fun d hd => hC d (by simp [hd])) i x y j u h hj he, List.set_append_right _ _ (by rw [Array.length_toList, h1, Nat.add_mul, Nat.one_mul]; omega), Array.length_toList, h1]
    congr 2
    rw [Nat.add_mul, Nat.one_mul]
    omega
/-- A number of one that lies in a row is set. -/
theorem AsksAt.set {B : Nat} {w : World} {g n cap : Nat} {C : List AskM} (h : AsksAt B w (.slice (some ⟨g, 0, none⟩) n cap) C) {i : Nat} {x y : AskM} (hx : C[i]? = some x) {j : Nat} {u : Value} (hj : j < 17) (he : (askV x).setIfInBounds j u = askV y) :
    AsksAt B (w.setCell ⟨g, i * 17 + j, none⟩ u) (.slice (some ⟨g, 0, none⟩) n cap) (C.set i y) ∧ w.grownBy (w.setCell ⟨g, i * 17 + j, none⟩ u) (some g) := by
  obtain ⟨o', cap', e, _, _⟩ := h.slice
  simp only [Value.slice.injEq] at e
  obtain ⟨_, rfl, _⟩ := e
  have hs := World.ownsRow.stored h (i * 17 + j) u
  refine ⟨?_, hs.2⟩
  unfold AsksAt
  rw [List.length_set, ← gcells_set askV 17 C (fun _ _ => rfl) i x y j u hx hj he]
  exact hs.1
theorem set_same {α : Type} {l : List α} {i : Nat} {a : α} (h : l[i]? = some a) : l.set i a = l := by
  apply List.ext_getElem?
  intro j
  by_cases hij : i = j
  · subst hij
    rw [List.getElem?_set_self (List.getElem?_eq_some_iff.1 h).1, h]
  · rw [List.getElem?_set_ne hij]
def boolsP (P : List AskP) : List Value := P.map fun p => Value.bool p.2
def rwV (m : WaitM) (va vd : Value) : Array Value := #[va, vd, .int .i64 m.room, .int .i64 m.tries, .int .i64 m.time]
structure RwO (B : Nat) (w : World) (r : Nat) (m : WaitM) (va vd : Value) (P : List AskP) : Prop where
  blk : w.heap[r]? = some (.cells (rwV m va vd) 55 (0, 0))
  all : AsksAt B w va (P.map Prod.fst)
  dn : VOwn 4 B w vd (boolsP P)
  hB : B ≤ r
def footR (r : Nat) (va vd : Value) (k : Nat) : Prop := k = r ∨ va.ownBlock = some k ∨ vd.ownBlock = some k
theorem VOwn.kept {ty : TypeId} {X : Nat → Prop} {B : Nat} {w w' : World} {v : Value} {L : List Value} (h : VOwn ty B w v L) (hk : Kept X w w') (hX : ∀ k, v.ownBlock = some k → ¬ X k) : VOwn ty B w' v L := hk.own h hX
theorem VOwn.lt {ty : TypeId} {B : Nat} {w : World} {v : Value} {L : List Value} (h : VOwn ty B w v L) : ∀ k, v.ownBlock = some k → B ≤ k ∧ k < w.heap.size := World.ownsRow.lt h
theorem RwO.foot_in {B : Nat} {w : World} {r : Nat} {m : WaitM} {va vd : Value} {P : List AskP} (h : RwO B w r m va vd P) : ∀ k, footR r va vd k → B ≤ k ∧ k < w.heap.size := by
  rintro k (rfl | e | e)
  · exact ⟨h.hB, (Array.getElem?_eq_some_iff.1 h.blk).1⟩
  · exact h.all.lt k e
  · exact h.dn.lt k e
theorem RwO.kept {X : Nat → Prop} {B : Nat} {w w' : World} {r : Nat} {m : WaitM} {va vd : Value} {P : List AskP} (h : RwO B w r m va vd P) (hk : Kept X w w') (hX : ∀ k, footR r va vd k → ¬ X k) : RwO B w' r m va vd P :=
  ⟨hk.heap h.blk (hX _ (.inl rfl)), h.all.kept hk fun k e => hX k (.inr (.inl e)), h.dn.kept hk fun k e => hX k (.inr (.inr e)), h.hB⟩
theorem RwO.below {B : Nat} {w w' : World} {r : Nat} {m : WaitM} {va vd : Value} {P : List AskP} (h : RwO B w r m va vd P) (hb : Below w.heap.size w w') : RwO B w' r m va vd P := h.kept (X := fun _ => False) (Kept.of_below hb) fun _ _ e => e
theorem RwO.hw {B : Nat} {w : World} {r : Nat} {m : WaitM} {va vd : Value} {P : List AskP} (h : RwO B w r m va vd P) : B ≤ w.heap.size := by have := h.foot_in r (.inl rfl); omega
structure RwF (w : World) (r : Nat) (m : WaitM) (va vd : Value) : Prop where
  c0 : w.cell? ⟨r, 0, none⟩ = some va
  c1 : w.cell? ⟨r, 1, none⟩ = some vd
  c2 : w.cell? ⟨r, 2, none⟩ = some (.int .i64 m.room)
  c3 : w.cell? ⟨r, 3, none⟩ = some (.int .i64 m.tries)
  c4 : w.cell? ⟨r, 4, none⟩ = some (.int .i64 m.time)
  fz : ∀ k, w.frozen? ⟨r, k, none⟩ = false
theorem rwf_of {w : World} {r : Nat} {m : WaitM} {va vd : Value} {t : TypeId} (hg : w.heap[r]? = some (.cells (rwV m va vd) t (0, 0))) : RwF w r m va vd :=
  ⟨by rw [cell_of_row w r _ _ _ _ hg]; rfl, by rw [cell_of_row w r _ _ _ _ hg]; rfl, by rw [cell_of_row w r _ _ _ _ hg]; rfl, by rw [cell_of_row w r _ _ _ _ hg]; rfl, by rw [cell_of_row w r _ _ _ _ hg]; rfl, fun k => by simp [World.frozen?, hg]⟩
theorem RwO.f {B : Nat} {w : World} {r : Nat} {m : WaitM} {va vd : Value} {P : List AskP} (h : RwO B w r m va vd P) : RwF w r m va vd := rwf_of h.blk
theorem RwO.apA {B : Nat} {w : World} {r : Nat} {m : WaitM} {va vd : Value} {P : List AskP} (h : RwO B w r m va vd P) : ¬ rowX va r ∧ ¬ rowX vd r ∧ ApartR va.ownBlock vd.ownBlock := by
  refine ⟨own_tyK h.all h.blk (by decide), own_tyK h.dn h.blk (by decide), ?_⟩
  cases hva : va.ownBlock with
  | none => exact .inl rfl
  | some k =>
    refine .inr (.inr fun e => ?_)
    obtain ⟨_, ⟨rfl, _⟩ | ⟨g, cap, cur, rfl, _, h1, _⟩⟩ := h.all
    · cases hva
    · have hk : g = k := by simpa [Value.ownBlock] using hva
      exact own_tyK h.dn h1 (by decide) (by rw [hk]; exact e.symm)
/-- The row of all is put back. -/
theorem RwO.putA {B : Nat} {w w' : World} {r : Nat} {m : WaitM} {va vd ua : Value} {P : List AskP} {C : List AskM} (h : RwO B w r m va vd P) (hk : Kept (rowX va) w w') (hu : AsksAt B w' ua C) (ho : ua.ownBlock = va.ownBlock ∨ ∀ k, ua.ownBlock = some k → w.heap.size ≤ k) :
    (w'.setCell ⟨r, 0, none⟩ ua).heap[r]? = some (.cells (rwV m ua vd) 55 (0, 0)) ∧ AsksAt B (w'.setCell ⟨r, 0, none⟩ ua) ua C ∧ VOwn 4 B (w'.setCell ⟨r, 0, none⟩ ua) vd (boolsP P) ∧ Frm (footR r va vd) (footR r ua vd) w (w'.setCell ⟨r, 0, none⟩ ua) := by
  obtain ⟨n1, n2, n3⟩ := h.apA
  have hbk := hk.heap h.blk n1
  have hset : (w'.setCell ⟨r, 0, none⟩ ua).heap[r]? = some (.cells (rwV m ua vd) 55 (0, 0)) := by
    rw [heap_setCell_same w' r 0 _ _ ua hbk]
    rfl
  have hK2 : Kept (isB r) w' (w'.setCell ⟨r, 0, none⟩ ua) := ⟨rfl, rfl, rfl, by simp [World.setCell], fun k _ e => heap_setCell_other w' ⟨r, 0, none⟩ k _ e⟩
  refine ⟨hset, hu.kept hK2 fun k e e' => by unfold isB at e'; subst e'; exact own_tyK hu hbk (by decide) e, (h.dn.kept hk fun k e e' => n3.ne k e' e).kept hK2 fun k e e' => by unfold isB at e'; subst e'; exact n2 e, (hk.mono (Y := footR r va vd) fun k _ e => .inr (.inl e)).trans hK2 fun k e => .inl (.inl e), fun k e => ?_⟩
  rcases e with e | e | e
  · exact .inl (.inl e)
  · rcases ho with e' | e'
    · rw [e'] at e; exact .inl (.inr (.inl e))
    · exact .inr (e' k e)
  · exact .inl (.inr (.inr e))
/-- The row of who is done is put back. -/
theorem putD {B : Nat} {w w' : World} {r : Nat} {m : WaitM} {va vd ud : Value} {C : List AskM} {D D' : List Value} (hblk : w.heap[r]? = some (.cells (rwV m va vd) 55 (0, 0))) (hall : AsksAt B w va C) (hdn : VOwn 4 B w vd D) (hk : Kept (rowX vd) w w') (hu : VOwn 4 B w' ud D') (ho : ud.ownBlock = vd.ownBlock ∨ ∀ k, ud.ownBlock = some k → w.heap.size ≤ k) :
    (w'.setCell ⟨r, 1, none⟩ ud).heap[r]? = some (.cells (rwV m va ud) 55 (0, 0)) ∧ AsksAt B (w'.setCell ⟨r, 1, none⟩ ud) va C ∧ VOwn 4 B (w'.setCell ⟨r, 1, none⟩ ud) ud D' ∧ Frm (footR r va vd) (footR r va ud) w (w'.setCell ⟨r, 1, none⟩ ud) := by
  have n1 : ¬ rowX va r := own_tyK hall hblk (by decide)
  have n2 : ¬ rowX vd r := own_tyK hdn hblk (by decide)
  have n3 : ∀ k, va.ownBlock = some k → ¬ rowX vd k := fun k e e' => by
    obtain ⟨_, ⟨rfl, _⟩ | ⟨g, cap, cur, rfl, _, h1, _⟩⟩ := hall
    · cases e
    · have hk : g = k := by simpa [Value.ownBlock] using e
      exact own_tyK hdn h1 (by decide) (by rw [hk]; exact e')
  have hbk := hk.heap hblk n2
  have hset : (w'.setCell ⟨r, 1, none⟩ ud).heap[r]? = some (.cells (rwV m va ud) 55 (0, 0)) := by
    rw [heap_setCell_same w' r 1 _ _ ud hbk]
    rfl
  have hK2 : Kept (isB r) w' (w'.setCell ⟨r, 1, none⟩ ud) := ⟨rfl, rfl, rfl, by simp [World.setCell], fun k _ e => heap_setCell_other w' ⟨r, 1, none⟩ k _ e⟩
  refine ⟨hset, (hall.kept hk n3).kept hK2 fun k e e' => by unfold isB at e'; subst e'; exact n1 e, hu.kept hK2 fun k e e' => by unfold isB at e'; subst e'; exact own_tyK hu hbk (by decide) e, (hk.mono (Y := footR r va vd) fun k _ e => .inr (.inr e)).trans hK2 fun k e => .inl (.inl e), fun k e => ?_⟩
  rcases e with e | e | e
  · exact .inl (.inl e)
  · exact .inl (.inr (.inl e))
  · rcases ho with e' | e'
    · rw [e'] at e; exact .inl (.inr (.inr e))
    · exact .inr (e' k e)
/-- Somebody is done. -/
theorem RwO.done {B : Nat} {w : World} {r : Nat} {m : WaitM} {va : Value} {gd nd cd : Nat} {P : List AskP} (h : RwO B w r m va (.slice (some ⟨gd, 0, none⟩) nd cd) P) {i : Nat} {x : AskM} {b : Bool} (hx : P[i]? = some (x, b)) (b' : Bool) :
    RwO B (w.setCell ⟨gd, i, none⟩ (.bool b')) r m va (.slice (some ⟨gd, 0, none⟩) nd cd) (P.set i (x, b')) ∧ Frm (footR r va (.slice (some ⟨gd, 0, none⟩) nd cd)) (footR r va (.slice (some ⟨gd, 0, none⟩) nd cd)) w (w.setCell ⟨gd, i, none⟩ (.bool b')) := by
  obtain ⟨n1, n2, n3⟩ := h.apA
  have hg := h.dn.setBelow i (.bool b')
  have hk : Kept (rowX (.slice (some ⟨gd, 0, none⟩) nd cd)) w (w.setCell ⟨gd, i, none⟩ (.bool b')) := Kept.of_grown hg fun k e => e
  have hi := (List.getElem?_eq_some_iff.1 hx).1
  have e1 : (P.set i (x, b')).map Prod.fst = P.map Prod.fst := by
    rw [List.map_set]
    apply set_same
    rw [List.getElem?_map, hx]; rfl
  have e2 : boolsP (P.set i (x, b')) = (boolsP P).set i (.bool b') := by unfold boolsP; rw [List.map_set]
  refine ⟨⟨hk.heap h.blk n2, by rw [e1]; exact h.all.kept hk fun k e e' => n3.ne k e e', by rw [e2]; exact h.dn.set i (.bool b'), h.hB⟩, hk.mono fun k _ e => .inr (.inr e), fun k e => .inl e⟩
/-- A number of somebody is set. -/
theorem RwO.setA {B : Nat} {w : World} {r : Nat} {m : WaitM} {vd : Value} {ga na ca : Nat} {P : List AskP} (h : RwO B w r m (.slice (some ⟨ga, 0, none⟩) na ca) vd P) {i : Nat} {x y : AskM} {b : Bool} (hx : P[i]? = some (x, b)) {j : Nat} {u : Value} (hj : j < 17) (he : (askV x).setIfInBounds j u = askV y) :
    RwO B (w.setCell ⟨ga, i * 17 + j, none⟩ u) r m (.slice (some ⟨ga, 0, none⟩) na ca) vd (P.set i (y, b)) ∧ Frm (footR r (.slice (some ⟨ga, 0, none⟩) na ca) vd) (footR r (.slice (some ⟨ga, 0, none⟩) na ca) vd) w (w.setCell ⟨ga, i * 17 + j, none⟩ u) := by
  obtain ⟨n1, n2, n3⟩ := h.apA
  obtain ⟨h1, h2⟩ := h.all.set (i := i) (x := x) (y := y) (by rw [List.getElem?_map, hx]; rfl) hj he
  have hk : Kept (rowX (.slice (some ⟨ga, 0, none⟩) na ca)) w (w.setCell ⟨ga, i * 17 + j, none⟩ u) := Kept.of_grown h2 fun k e => e
  have e1 : (P.set i (y, b)).map Prod.fst = (P.map Prod.fst).set i y := by rw [List.map_set]
  have e2 : boolsP (P.set i (y, b)) = boolsP P := by
    unfold boolsP
    rw [List.map_set]
    apply set_same
    rw [List.getElem?_map, hx]; rfl
  refine ⟨⟨hk.heap h.blk n1, by rw [e1]; exact h1, by rw [e2]; exact h.dn.kept hk fun k e e' => n3.ne k e' e, h.hB⟩, hk.mono fun k _ e => .inr (.inl e), fun k e => .inl e⟩
/-- With what it stands for. -/
structure RwI (m : WaitM) (P : List AskP) : Prop where
  rest : restP P = m.l
  seqs : SeqP 0 P
  last : m.last = P.length
  sent : ∀ p ∈ P, 0 ≤ p.1.sent ∧ p.1.sent ≤ 9
def RwTo (B : Nat) (w w' : World) (r : Nat) (m' : WaitM) (va vd : Value) : Prop := ∃ ua ud P', RwO B w' r m' ua ud P' ∧ RwI m' P' ∧ Frm (footR r va vd) (footR r ua ud) w w'
end Go.Proofs.Ytagogbodkbbikaa
namespace Go.Proofs.Ytagogbodkbbikaa
open Go Go.RowKit
set_option maxRecDepth 20000

theorem rclock_any (now : Int) (w : World) : Calls Try.prog 23 #[.int .i64 now] w fun e w' => e = .returned (.int .i64 (clockW now)) ∧ w' = w := by
  unfold clockW
  obtain ⟨m, hm⟩ : ∃ m, m = max now 0 := ⟨_, rfl⟩
  obtain ⟨q, hq⟩ : ∃ q, q = min m 1099511627776 := ⟨_, rfl⟩
  rw [← hm, ← hq]
  have HM : Hid (m = max now 0) := hm
  have HQ : Hid (q = min m 1099511627776) := hq
  clear hm hq
  go_enter Try.func23, Try.ntmps23
  go_wp2_with (first
    | (refine wl_maxI rfl _ _ rfl now 0 m rfl rfl HM.out ?_)
    | (refine wl_minI rfl _ _ rfl m 1099511627776 q rfl rfl HQ.out ?_))
  go_ret
  exact ⟨rfl, rfl⟩
set_option maxHeartbeats 4000000 in
theorem rnewW_yes (room tries time : Int) (h : OkNew room tries time) (w : World) :
    Calls Try.prog 9 #[.int .i64 room, .int .i64 tries, .int .i64 time] w fun e w' => e = .returned (.tuple #[.pointer (some ⟨w.heap.size, 0, none⟩), .int .i64 0]) ∧ RwO w.heap.size w' w.heap.size ⟨room, tries, time, [], 0⟩ (.slice none 0 0) (.slice none 0 0) [] ∧ Below w.heap.size w w' := by
  have HN : Hid (RwO w.heap.size (w.alloc (.cells (rwV ⟨room, tries, time, [], 0⟩ (.slice none 0 0) (.slice none 0 0)) 55)) w.heap.size ⟨room, tries, time, [], 0⟩ (.slice none 0 0) (.slice none 0 0) []) := ⟨heap_new _ _ _ rfl, AsksAt.nil _ _, VOwn.nil _ _ _, Nat.le_refl _⟩
  obtain ⟨h1, h2, h3, h4, h5, h6⟩ := h
  have d1 : ¬ room < 1 := by omega
  have d2 : ¬ room > 64 := by omega
  have d3 : ¬ tries < 0 := by omega
  have d4 : ¬ tries > 8 := by omega
  have d5 : ¬ time < 1 := by omega
  have d6 : ¬ time > 1000 := by omega
  clear h1 h2 h3 h4 h5 h6
  go_enter Try.func9, Try.ntmps9
  go_wp2_with fail
  go_ret2
  exact ⟨rfl, HN.out, (Below.refl _ _).alloc (Nat.le_refl _) _⟩
set_option maxHeartbeats 4000000 in
theorem rnewW_no (room tries time : Int) (h : ¬ OkNew room tries time) (w : World) :
    Calls Try.prog 9 #[.int .i64 room, .int .i64 tries, .int .i64 time] w fun e w' => e = .returned (.tuple #[.pointer none, .int .i64 1]) ∧ w' = w := by
  by_cases h1 : room < 1
  · clear h
    go_enter Try.func9, Try.ntmps9
    go_wp2_with fail
    go_ret2
    exact ⟨rfl, rfl⟩
  by_cases h2 : room > 64
  · clear h
    go_enter Try.func9, Try.ntmps9
    go_wp2_with fail
    go_ret2
    exact ⟨rfl, rfl⟩
  by_cases h3 : tries < 0
  · clear h
    go_enter Try.func9, Try.ntmps9
    go_wp2_with fail
    go_ret2
    exact ⟨rfl, rfl⟩
  by_cases h4 : tries > 8
  · clear h
    go_enter Try.func9, Try.ntmps9
    go_wp2_with fail
    go_ret2
    exact ⟨rfl, rfl⟩
  by_cases h5 : time < 1
  · clear h
    go_enter Try.func9, Try.ntmps9
    go_wp2_with fail
    go_ret2
    exact ⟨rfl, rfl⟩
  by_cases h6 : time > 1000
  · clear h
    go_enter Try.func9, Try.ntmps9
    go_wp2_with fail
    go_ret2
    exact ⟨rfl, rfl⟩
  exact absurd ⟨by omega, by omega, by omega, by omega, by omega, by omega⟩ h
set_option maxHeartbeats 8000000 in
theorem rlistW_any (B : Nat) (w : World) (r : Nat) (m : WaitM) (va vd : Value) (P : List AskP) (h : RwO B w r m va vd P) (hn : P.length ≤ 100000) :
    Calls Try.prog 20 #[.pointer (some ⟨r, 0, none⟩)] w fun e w' => (∃ u, e = .returned u ∧ AsksAt w.heap.size w' u (restP P)) ∧ Below w.heap.size w w' := by
  obtain ⟨oa, ca, hva, hc1, hc2⟩ := h.all.slice
  obtain ⟨od, cd, hvd, hd1, hd2⟩ := h.dn.sl.slice
  have la : (P.map Prod.fst).length = P.length := List.length_map _
  have ld : (boolsP P).length = P.length := List.length_map _
  rw [la] at hva hc1
  rw [ld] at hvd hd1
  obtain ⟨q, hq⟩ : ∃ q, q = P.length := ⟨_, rfl⟩
  rw [← hq] at hva hvd hc1 hd1 hn
  have HQ : Hid (q = P.length) := hq
  have HF : Hid (∀ W, Below w.heap.size w W → W.cell? ⟨r, 0, none⟩ = some va ∧ W.cell? ⟨r, 1, none⟩ = some vd ∧ GSl AskE askV W va (P.map Prod.fst) ∧ VSl W vd (boolsP P)) := fun W hb => ⟨(h.below hb).f.c0, (h.below hb).f.c1, (h.below hb).all.sl, (h.below hb).dn.sl⟩
  unfold maxLen at hc2 hd2
  clear h hq la ld
  subst hva
  subst hvd
  go_enter Try.func20, Try.ntmps20
  go_wp2_with (first | ((with_reducible refine wl_geK rfl ?_); refine wl_build0K rfl rfl ?_; try rw [sz_allocK]))
  go_loopw [3, 4] (fun s3 s4 wr => ∃ (k : Nat) (T : List AskM), k ≤ q ∧ s4 = .int .i64 (k : Int) ∧ Hid (T = restP (P.take k)) ∧ T.length ≤ k ∧ AsksAt w.heap.size wr s3 T ∧ Below w.heap.size w wr) (fun _ s4 _ => q - (intOf s4).toNat)
  case atStart => exact ⟨0, [], Nat.zero_le _, rfl, by show _ = _; simp [restP], Nat.le_refl _, asks0 w, (Below.refl _ _).alloc (Nat.le_refl _) _⟩
  case round =>
    obtain ⟨k, T, hk, rfl, HT, hTk, hown, hb⟩ := hrel
    have HO : Hid (AsksAt w.heap.size wr u3 T) := hown
    have HB : Hid (Below w.heap.size w wr) := hb
    obtain ⟨c0, c1, hga, hgd⟩ := HF.out wr hb
    by_cases hlt : k < q
    · have hlt' : (k : Int) < (q : Int) := by omega
      obtain ⟨ga, offa, cura, tya, fra, x, rfl, hg, hcc, hxk⟩ := hga.at k hlt
      obtain ⟨gd, offd, c, rfl, hcd, hck⟩ := hgd.at k hlt
      obtain ⟨⟨y, b⟩, hpk⟩ : ∃ p, P[k]? = some p := ⟨_, List.getElem?_eq_getElem (by rw [← HQ.out]; exact hlt)⟩
      rw [List.getElem?_map, hpk] at hxk
      obtain rfl : y = x := by simpa using hxk
      unfold boolsP at hck
      rw [List.getElem?_map, hpk] at hck
      obtain rfl : Value.bool b = c := by simpa using hck
      have LD : (loadVar 38 ⟨ga, offa + k * 17, none⟩).run Try.prog wr = .ok (.agg (askV y)) wr := ldK_row hg hcc
      have HR := restP_take hpk
      have HP : Hid (restP (P.take (k + 1)) = if b = true then restP (P.take k) else restP (P.take k) ++ [y]) := HR
      clear hown hb hga hgd hg hcc hxk hck hpk HR
      cases b with
      | true =>
        go_wp2_with fail
        go_roundw
        case rel => exact ⟨k + 1, T, by omega, by go_num, by show _ = _; rw [HP.out, HT.out]; rfl, by omega, HO.out, HB.out⟩
        case measure => simp [intOf]; omega
      | false =>
        obtain ⟨w2, hw2⟩ : ∃ w2, w2 = wr.alloc (.cells (askV y) 38) := ⟨_, rfl⟩
        have b2 : Below wr.heap.size wr w2 := by rw [hw2]; exact (Below.refl _ _).alloc (Nat.le_refl _) _
        have B2 : Hid (Below w.heap.size w w2) := HB.out.trans (b2.mono HB.out.size)
        have O2 : Hid (AsksAt w.heap.size w2 u3 T) := HO.out.below b2
        have N2 : w2.heap[wr.heap.size]? = some (.cells (askV y) 38 (0, 0)) := by rw [hw2]; exact heap_new _ _ _ rfl
        have HW2 : Hid (w2 = wr.alloc (.cells (askV y) 38)) := hw2
        clear hw2 b2
        go_wp2_with (first
          | ((with_reducible refine wl_glK _ rfl ?_); refine wl_loadK rfl _ rfl ga (offa + k * 17) rfl y LD ?_)
          | ((with_reducible refine wl_gbK _ rfl ?_); refine wl_build1K rfl _ rfl y rfl ?_; try rw [sz_allocK])
          | (at_builtin; refine of_stopT ?_))
        unfold StopT
        rw [← HW2.out]
        refine wl_appK rfl _ _ rfl w.heap.size u3 T y rfl O2.out wr.heap.size 1 rfl N2 (by omega) B2.out.size ?_
        intro v' w3 hown hgr _
        have O3 : Hid (AsksAt w.heap.size w3 v' (T ++ [y])) := hown
        have B3 : Hid (Below w.heap.size w w3) := B2.out.trans ((Below.refl _ _).grown hgr B2.out.size fun _ hk => (O2.out.lt _ hk).1)
        clear hown hgr N2
        simp only [Act.put, List.setIfInBounds_toArray, List.set_cons_succ, List.set_cons_zero]
        go_wp2_with fail
        go_roundw
        case rel => exact ⟨k + 1, T ++ [y], by omega, by go_num, by show _ = _; rw [HP.out, HT.out]; rfl, by rw [List.length_append]; simp; omega, O3.out, B3.out⟩
        case measure => simp [intOf]; omega
    · have hlt' : ¬ (k : Int) < (q : Int) := by omega
      have HZ : Hid (AsksAt w.heap.size wr u3 (restP P)) := by
        have e : P.take k = P := List.take_of_length_le (by rw [← HQ.out]; omega)
        show AsksAt _ _ _ _
        rw [← e, ← HT.out]
        exact hown
      clear hown hb hga hgd HO
      go_wp2_with fail
      go_ret
      exact ⟨⟨_, rfl, HZ.out⟩, HB.out⟩
/-- One that waits is itself. -/
theorem partK (w : World) (x : AskM) : (part 32 (askV x) 2).run Try.prog w = .ok (.agg #[.int .u8 (x.head.getD 0 0), .int .u8 (x.head.getD 1 0), .int .u8 (x.head.getD 2 0), .int .u8 (x.head.getD 3 0), .int .u8 (x.head.getD 4 0), .int .u8 (x.head.getD 5 0), .int .u8 (x.head.getD 6 0), .int .u8 (x.head.getD 7 0), .int .u8 (x.head.getD 8 0), .int .u8 (x.head.getD 9 0), .int .u8 (x.head.getD 10 0), .int .u8 (x.head.getD 11 0), .int .u8 (x.head.getD 12 0)]) w := by
  kernel_rfl
def h13 (L : List Int) : List Int := [L.getD 0 0, L.getD 1 0, L.getD 2 0, L.getD 3 0, L.getD 4 0, L.getD 5 0, L.getD 6 0, L.getD 7 0, L.getD 8 0, L.getD 9 0, L.getD 10 0, L.getD 11 0, L.getD 12 0]
theorem eqHK (d : Nat) (A B : List Int) (hA : A.length = 13) (hB : B.length = 13) (w : World) : (Op.equalIn (d + 2) 32 (.agg (hv A)) (.agg (hv B))).run Try.prog w = .ok (A == B) w := by
  have z5 : (sizeOf 5).run Try.prog w = .ok 1 w := by kernel_rfl
  rw [show d + 2 = (d + 1) + 1 from rfl, Op.equalIn]
  simp only [Sem.run_bind, run_underlying Try.underlying32, Result.andThen_ok, z5]
  simp only [Std.Legacy.Range.forIn_eq_forIn_range', Std.Legacy.Range.size, Nat.sub_zero, Nat.add_sub_cancel, Nat.div_one]
  rw [← all_eq A B hA hB]
  exact loopN d A B hA hB w _ rfl rfl (List.range' 0 13) (fun i hi => by simp at hi; omega)
theorem eqK_same (x : AskM) (w : World) : (Op.equalIn 10000 38 (.agg (askV x)) (.agg (askV x))).run Try.prog w = .ok true w := by
  have a3 : (isAgg 3).run Try.prog w = .ok false w := by kernel_rfl
  have pk := partK w x
  have eH := eqHK 9997 (h13 x.head) (h13 x.head) rfl rfl w
  rw [beq_self_eq_true] at eH
  rw [run_equalIn_struct w 9999 38 _ _ Try.underlying38 (by kernel_rfl)]
  simp only [Program.fieldsOf, Try.underlying38]
  have key : (Op.eqFields 9999 (askV x) (askV x) (Try.prog.fieldsOf 38).toList).run Try.prog w = .ok ((x.seq == x.seq) && ((x.index == x.index) && (true && ((x.sent == x.sent) && ((x.due == x.due) && true))))) w := by
    simp only [Program.fieldsOf, Try.underlying38]
    refine eqFields_step w (by decide) (part_cell w a3 (show (askV x)[0]? = some (.int .i64 x.seq) from rfl)) (part_cell w a3 (show (askV x)[0]? = some (.int .i64 x.seq) from rfl)) (run_equalIn_int w _ 3 .i64 .i64 _ _ Try.underlying3) ?_
    refine eqFields_step w (by decide) (part_cell w a3 (show (askV x)[1]? = some (.int .i64 x.index) from rfl)) (part_cell w a3 (show (askV x)[1]? = some (.int .i64 x.index) from rfl)) (run_equalIn_int w _ 3 .i64 .i64 _ _ Try.underlying3) ?_
    refine eqFields_step w (by decide) pk pk eH ?_
    refine eqFields_step w (by decide) (part_cell w a3 (show (askV x)[15]? = some (.int .i64 x.sent) from rfl)) (part_cell w a3 (show (askV x)[15]? = some (.int .i64 x.sent) from rfl)) (run_equalIn_int w _ 3 .i64 .i64 _ _ Try.underlying3) ?_
    refine eqFields_step w (by decide) (part_cell w a3 (show (askV x)[16]? = some (.int .i64 x.due) from rfl)) (part_cell w a3 (show (askV x)[16]? = some (.int .i64 x.due) from rfl)) (run_equalIn_int w _ 3 .i64 .i64 _ _ Try.underlying3) ?_
    rfl
  simp only [beq_self_eq_true, Bool.and_true, Program.fieldsOf, Try.underlying38] at key
  exact key
theorem egK (op : BinOp) (x y : Operand) (xs ys : Array Value) (w : World) : (eqGuard op 38 x y (.agg xs) (.agg ys)).run Try.prog w = .ok () w :=
  run_eqGuard_agg w op 38 x y xs ys (by kernel_rfl)
set_option maxHeartbeats 8000000 in
theorem rsameK_any (C : List AskM) (va vb : Value) (w : World) (ha : GSl AskE askV w va C) (hb : GSl AskE askV w vb C) :
    Calls Try.prog 16 #[va, vb] w fun e w' => e = .returned (.bool true) ∧ Below w.heap.size w w' := by
  obtain ⟨oa, capa, rfl, hca, hma⟩ := GSl.slice ha
  obtain ⟨ob, capb, rfl, hcb, hmb⟩ := GSl.slice hb
  obtain ⟨n, hn⟩ : ∃ n, n = C.length := ⟨_, rfl⟩
  rw [← hn] at ha hb hca hcb ⊢
  have HA : Hid (GSl AskE askV w (.slice oa n capa) C) := ha
  have HBB : Hid (GSl AskE askV w (.slice ob n capb) C) := hb
  unfold maxLen at hma hmb
  clear ha hb hn
  go_enter Try.func16, Try.ntmps16
  go_wp2_with fail
  go_loopw [5] (fun i wr => ∃ k : Nat, k ≤ n ∧ i = .int .i64 (k : Int) ∧ Hid (Below w.heap.size w wr)) (fun i _ => n - (intOf i).toNat)
  case atStart => exact ⟨0, Nat.zero_le _, rfl, Below.refl _ _⟩
  case round =>
    obtain ⟨k, hk, rfl, HB⟩ := hrel
    by_cases hlt : k < n
    · have hlt' : (k : Int) < (n : Int) := by omega
      obtain ⟨g, off, cur, ty, fr, x, rfl, hg, hc, hxk⟩ := (GSl.below HA.out HB.out).at k hlt
      obtain ⟨g2, off2, cur2, ty2, fr2, y, rfl, hg2, hc2, hyk⟩ := (GSl.below HBB.out HB.out).at k hlt
      rw [hxk] at hyk
      obtain rfl := Option.some.inj hyk
      have e1 : ∀ w, (Op.equalIn 10000 38 (.agg (askV x)) (.agg (askV x))).run Try.prog w = .ok true w := eqK_same x
      have e2 : ∀ op p q w, (eqGuard op 38 p q (.agg (askV x)) (.agg (askV x))).run Try.prog w = .ok () w := fun op p q w => egK op p q _ _ w
      have K1 : Hid (wr.heap[g]? = some (.cells cur ty fr)) := hg
      have K2 : Hid (wr.heap[g2]? = some (.cells cur2 ty2 fr2)) := hg2
      have H1 : Hid (∀ i, i < 17 → cur[off + k * 17 + i]? = (askV x)[i]?) := hc
      have H2 : Hid (∀ i, i < 17 → cur2[off2 + k * 17 + i]? = (askV x)[i]?) := hc2
      clear hg hg2 hc hc2 hxk hyk
      go_wp2_with fail
      have ne1 := Later.ne wr
      refine wp_region_later (by kernel_rfl) (by kernel_rfl) ?_
      go_big_quiet_step (fail)
      go_big_quiet_step (fail)
      go_big_quiet_step (fail)
      refine qlE (E := AskE) AskOk rfl _ rfl g (off + k * 17) rfl cur ty fr (askV x) rfl (later_block K1.out) H1.out ?_
      simp only [Act.put, List.setIfInBounds_toArray, List.set_cons_succ, List.set_cons_zero]
      go_big_quiet_step (fail)
      go_big_quiet_step (fail)
      go_big_quiet_step (fail)
      refine qlE (E := AskE) AskOk rfl _ rfl g2 (off2 + k * 17) rfl cur2 ty2 fr2 (askV x) rfl (later_block K2.out) H2.out ?_
      simp only [Act.put, List.setIfInBounds_toArray, List.set_cons_succ, List.set_cons_zero]
      go_big_quiet_step (fail)
      refine wpQuiet_nil ?_
      rintro w1 ⟨v5, rfl⟩
      have B1 : Hid (Below w.heap.size w v5.world) := HB.out.trans (v5.below.mono HB.out.size)
      go_wp2_with fail
      go_roundw
      case rel => exact ⟨k + 1, by omega, by go_num, B1⟩
      case measure => simp [intOf]; omega
    · have hlt' : ¬ (k : Int) < (n : Int) := by omega
      go_wp2_with fail
      go_ret
      exact ⟨rfl, HB.out⟩
end Go.Proofs.Ytagogbodkbbikaa
namespace Go.Proofs.Ytagogbodkbbikaa
open Go Go.RowKit
set_option maxRecDepth 20000

set_option maxHeartbeats 16000000 in
theorem raddW_any (B : Nat) (w : World) (r : Nat) (m : WaitM) (va vd : Value) (P : List AskP) (h : RwO B w r m va vd P) (hI : RwI m P) (hm : WaitIn m) (i : Int) (L : List Int) (hL : L.length = 13) (now : Int) (hlast : m.last ≤ 99999) :
    Calls Try.prog 11 #[.pointer (some ⟨r, 0, none⟩), .int .i64 i, .agg (hv L), .int .i64 now] w fun e w' => e = .returned (.tuple #[.int .i64 (addW m i L now).2.1, .int .i64 (addW m i L now).2.2]) ∧ RwTo B w w' r (addW m i L now).1 va vd := by
  obtain ⟨w0, hw0⟩ : ∃ w0, w0 = w.alloc (.cells (hv L) 32) := ⟨_, rfl⟩
  have B0 : Below w.heap.size w w0 := by rw [hw0]; exact (Below.refl _ _).alloc (Nat.le_refl _) _
  have Z0 : w0.heap[w.heap.size]? = some (.cells (hv L) 32 (0, 0)) := by rw [hw0]; exact heap_new _ _ _ rfl
  have h0 := h.below (B0.drew)
  have hlen : P.length ≤ 99999 := by have := hI.last; omega
  have HLs := rlistW_any B w0.drew r m va vd P h0 (by omega)
  rw [hI.rest] at HLs
  have HF2 : Hid (∀ W, Below w0.drew.heap.size w0.drew W → W.cell? ⟨r, 2, none⟩ = some (.int .i64 m.room)) := fun W hb => (h0.below hb).f.c2
  have HSL : Hid (∀ W u, AsksAt w0.drew.heap.size W u m.l → ∃ o c, u = .slice o m.l.length c) := fun W u hu => by
    obtain ⟨o, cap, e, _⟩ := hu.slice
    exact ⟨o, cap, e⟩
  obtain ⟨q, hq⟩ : ∃ q, q = m.l.length := ⟨_, rfl⟩
  rw [← hq] at HSL
  have mixed : Try.prog.follows Departure.mixedOrders = true := by kernel_rfl
  have c2a := HF2.out w0.drew (Below.refl _ _)
  by_cases hfull : (q : Int) = m.room
  · have e : addW m i L now = (m, 0, 13) := by unfold addW; rw [if_pos (by rw [← hq]; exact hfull)]
    rw [e]
    have HS : Hid (∀ W, Below w0.drew.heap.size w0.drew W → RwTo B w W r m va vd) := fun W hb => ⟨va, vd, P, h0.below hb, hI, Frm.of_below (B0.drew.trans (hb.mono B0.drew.size))⟩
    obtain ⟨rm, hrm⟩ : ∃ rm, rm = m.room := ⟨_, rfl⟩
    rw [← hrm] at HF2 c2a hfull
    rw [hw0] at HLs HF2 HS HSL c2a
    clear e hq h h0 hI hm Z0 B0 hw0 hrm hlast hlen hL
    subst hfull
    go_enter Try.func11, Try.ntmps11
    go_wp2_with fail
    go_region_law_o (refine step_call rfl 20 #[.tmp 11] (by intro b w; have hf := Try.func20; simp [go_sem]) #[.pointer (some ⟨r, 0, none⟩)] (by simp [Act.eval, Act.put]) _ HLs (by rintro e w' ⟨⟨u, h, _⟩, _⟩; exact ⟨_, h⟩) ?_; rintro u0 w2 ⟨⟨u, hu0, hu1⟩, hb2⟩; obtain rfl : u0 = u := (by simpa using hu0); obtain ⟨o2, n2, rfl⟩ := HSL.out w2 u0 hu1; have F2 : Hid _ := HS.out w2 hb2; have c2b := HF2.out w2 hb2; clear hu0 hu1 hb2)
    all_goals
      go_wp2_with fail
      go_ret2
      exact ⟨rfl, F2.out⟩
  · have e : addW m i L now = (putW m i L now, (m.last : Int) + 1, 0) := by unfold addW; rw [if_neg (by rw [← hq]; exact hfull)]
    rw [e]
    clear e
    obtain ⟨c, hc⟩ : ∃ c : AskM, c = ⟨(m.last : Int) + 1, i, L, 1, clockW now + m.time⟩ := ⟨_, rfl⟩
    obtain ⟨cl, hcl⟩ : ∃ cl, cl = clockW now := ⟨_, rfl⟩
    have hcb := clock_in now
    have hti := hm.ti
    have hti1 := hm.ok.time1
    have HCk : Hid (∀ W, Calls Try.prog 23 #[.int .i64 now] W fun e w' => e = .returned (.int .i64 cl) ∧ w' = W) := fun W => by rw [hcl]; exact rclock_any now W
    have HRI : Hid (RwI (putW m i L now) (P ++ [(c, false)])) := by
      refine ⟨?_, seqP_snoc hI.seqs (by rw [hc, hI.last]) false, ?_, ?_⟩
      · rw [restP_snoc, hI.rest, hc]; rfl
      · rw [List.length_append, ← hI.last]; rfl
      · intro p hp
        rcases List.mem_append.1 hp with e | e
        · exact hI.sent p e
        · obtain rfl : p = (c, false) := by simpa using e
          rw [hc]
          show 0 ≤ (1 : Int) ∧ (1 : Int) ≤ 9
          exact ⟨by decide, by decide⟩
    have HV : Hid (∀ W, Below w0.drew.heap.size w0.drew W → RwO B W r m va vd P ∧ W.heap[w.heap.size]? = some (.cells (hv L) 32 (0, 0)) ∧ Below w.heap.size w W) := fun W hb => ⟨h0.below hb, (hb.block _ (by show w.heap.size < w0.heap.size; rw [hw0]; simp)).trans Z0, B0.drew.trans (hb.mono B0.drew.size)⟩
    have HBr : Hid (B ≤ r) := h.hB
    have HPL : Hid ((P.map Prod.fst).length ≤ 100000) := by show _ ≤ _; rw [List.length_map]; omega
    have HPD : Hid ((boolsP P).length ≤ 100000) := by show _ ≤ _; unfold boolsP; rw [List.length_map]; omega
    have hla : m.last = P.length := hI.last
    obtain ⟨oa, ca, hva, hca1, hca2⟩ := h.all.slice
    rw [List.length_map, ← hla] at hva hca1
    obtain ⟨od, cd, hvd, hcd1, hcd2⟩ := h.dn.sl.slice
    rw [show (boolsP P).length = P.length from List.length_map _, ← hla] at hvd hcd1
    rw [← hcl] at hc hcb
    obtain ⟨la, hlae⟩ : ∃ la, la = m.last := ⟨_, rfl⟩
    obtain ⟨ti, hti0⟩ : ∃ ti, ti = m.time := ⟨_, rfl⟩
    obtain ⟨rm, hrm⟩ : ∃ rm, rm = m.room := ⟨_, rfl⟩
    have hwr : IntKind.i64.wrap ((la : Int) + 1) = (la : Int) + 1 := by rw [IntKind.wrap_i64]; omega
    have hwt : IntKind.i64.wrap (cl + ti) = cl + ti := by rw [IntKind.wrap_i64]; omega
    have hd0 : ((q : Int) == rm) = false := by rw [hrm]; simpa using hfull
    have HCE : Hid (c = ⟨(la : Int) + 1, i, L, 1, cl + ti⟩) := by show _ = _; rw [hlae, hti0]; exact hc
    have HTI : Hid (ti = m.time) := hti0
    rw [← hlae] at hva hvd hca1 hcd1 ⊢
    rw [← hrm] at HF2 c2a
    rw [hw0] at HLs HF2 HV HSL c2a
    have HL : Hid (L.length = 13) := hL
    clear hc hq h h0 hI hm Z0 B0 hw0 hrm hlast hlen hcb hti hti1 hcl hfull hla hlae hti0 hL
    go_enter Try.func11, Try.ntmps11
    go_wp2_with fail
    go_region_law_o (refine step_call rfl 20 #[.tmp 11] (by intro b w; have hf := Try.func20; simp [go_sem]) #[.pointer (some ⟨r, 0, none⟩)] (by simp [Act.eval, Act.put]) _ HLs (by rintro e w' ⟨⟨u, h, _⟩, _⟩; exact ⟨_, h⟩) ?_; rintro u0 w2 ⟨⟨u, hu0, hu1⟩, hb2⟩; obtain rfl : u0 = u := (by simpa using hu0); obtain ⟨o2, n2, rfl⟩ := HSL.out w2 u0 hu1; have F2 : Hid _ := HV.out w2 hb2; have c2b := HF2.out w2 hb2; clear hu0 hu1 hb2)
    all_goals
      clear c2b c2a
      obtain ⟨hO, hZ, hbw⟩ := F2.out
      have HO : Hid _ := hO
      have HZ : Hid _ := hZ
      have HBW : Hid _ := hbw
      have c0 := hO.f.c0
      clear hO hZ hbw
      subst hva
      go_wp2_with fail
      refine ra4_region (by exact Nat.le_of_eq rfl) r w.heap.size B L HL.out ((la : Int) + 1) i ti now cl c HCE.out (.slice oa la ca) (P.map Prod.fst) (rwV m (.slice oa la ca) vd) rfl rfl rfl rfl rfl HO.out.blk rfl (by rw [HTI.out]; rfl) HZ.out HCk.out hwt HO.out.all HO.out.hw HPL.out ?_
      intro y w3 ua hk hr hf
      obtain ⟨p1, p2, p3, p4⟩ := HO.out.putA hk hr hf
      have HP1 : Hid _ := p1
      have HP2 : Hid _ := p2
      have HP3 : Hid _ := p3
      have HP4 : Hid _ := p4
      have c1 := (rwf_of p1).c1
      simp only [putsD, ra4_D, List.foldl_cons, List.foldl_nil, Act.put, List.setIfInBounds_toArray, List.set_cons_succ, List.set_cons_zero]
      obtain ⟨w4, hw4⟩ : ∃ w4, w4 = w3.setCell ⟨r, 0, none⟩ ua := ⟨_, rfl⟩
      rw [← hw4] at c1 HP1 HP2 HP3 HP4 ⊢
      clear hk hr hf p1 p2 p3 p4 hw4 c0
      obtain ⟨w5, hw5⟩ : ∃ w5, w5 = w4.alloc (.cells #[.bool false] 4) := ⟨_, rfl⟩
      have b5 : Below w4.heap.size w4 w5 := by rw [hw5]; exact (Below.refl _ _).alloc (Nat.le_refl _) _
      have D5 : Hid (VOwn 4 B w5 vd (boolsP P)) := VOwn.below HP3.out b5
      have A5 : Hid (AsksAt B w5 ua (P.map Prod.fst ++ [c])) := AsksAt.below HP2.out b5
      have K5 : Hid (w5.heap[r]? = some (.cells (rwV m ua vd) 55 (0, 0))) := (b5.block _ (Array.getElem?_eq_some_iff.1 HP1.out).1).trans HP1.out
      have F5 : Hid (Frm (footR r (.slice oa la ca) vd) (footR r ua vd) w w5) := ((Frm.of_below HBW.out).trans HP4.out).add b5
      have N5 : w5.heap[w4.heap.size]? = some (.cells #[.bool false] 4 (0, 0)) := by rw [hw5]; exact heap_new _ _ _ rfl
      have HW5 : Hid (w5 = w4.alloc (.cells #[.bool false] 4)) := hw5
      have HB5 : Hid (B ≤ w5.heap.size) := Nat.le_trans (Nat.le_trans HO.out.hw (by have := HP4.out.kept.size; exact this)) b5.size
      clear b5 hw5 HP1 HP2 HP3 HP4 F2 HO HZ HBW HV HLs HF2 HSL
      subst hvd
      go_wp2_with (first
        | (refine wl_build1V scB rfl _ rfl (.bool false) rfl rfl ?_)
        | (at_builtin; refine of_stopT ?_))
      unfold StopT
      rw [← HW5.out]
      refine wl_app1V scB rfl _ _ rfl B (.slice od la cd) (boolsP P) (.bool false) rfl rfl D5.out w4.heap.size 1 rfl N5 (by have := HPD.out; omega) HB5.out ?_
      intro ud w6 hown hgr hq3
      obtain ⟨p1, p2, p3, p4⟩ := putD K5.out A5.out D5.out (Kept.of_grown (X := rowX (.slice od la cd)) hgr fun _ e => e) hown (by
          rcases hq3 with e | e
          · exact .inl e
          · exact .inr fun k e' => by rw [e] at e'; have := Option.some.inj e'; omega)
      have F6 : Hid (RwTo B w (w6.setCell ⟨r, 1, none⟩ ud) r (putW m i L now) (.slice oa la ca) (.slice od la cd)) := ⟨ua, ud, P ++ [(c, false)], ⟨p1, by rw [List.map_append]; exact p2, by unfold boolsP; rw [List.map_append]; exact p3, HBr.out⟩, HRI.out, F5.out.trans p4⟩
      have hk6 : Kept (rowX (.slice od la cd)) w5 w6 := Kept.of_grown hgr fun _ e => e
      have hb6 := hk6.heap K5.out (own_tyK D5.out K5.out (by decide))
      have c1' := (rwf_of hb6).c1
      have fz' := (rwf_of hb6).fz 1
      obtain ⟨o6, n6, e6⟩ := gown_slice hown
      generalize (boolsP P ++ [Value.bool false]).length = q6 at e6
      clear p1 p2 p3 p4 hown hgr hq3 hk6 hb6 N5
      subst e6
      simp only [Act.put, List.setIfInBounds_toArray, List.set_cons_succ, List.set_cons_zero]
      go_wp2_with fail
      go_ret2
      exact ⟨rfl, F6.out⟩
end Go.Proofs.Ytagogbodkbbikaa
