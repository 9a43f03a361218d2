import Derived.Test.YtfamnloobmdhdaaDoorJ17
namespace Go.Proofs.YtfamnloobmdhdaaDoor
open Go Go.RowKit
set_option maxRecDepth 20000

set_option maxHeartbeats 2000000 in
theorem must_any (c : Cla) (u : Value) (hu : ∃ o n m, u = .slice o n m) (w : World) :
    Calls Tryd.prog 52 #[.agg (claV c u)] w fun x w' => x = .returned (.int .i64 (mustN c : Int)) ∧ Below w.heap.size w w' := by
  obtain ⟨o, n, m, rfl⟩ := hu
  have q := cla_f (cla_row w c (.slice o n m))
  obtain ⟨c0, -, -, c3, c4⟩ := q
  have HB : Hid (Below w.heap.size w (w.alloc (.cells (claV c (.slice o n m)) 54))) := (Below.refl _ _).alloc (Nat.le_refl _) _
  obtain ⟨word, pos, nums, slash, dash⟩ := c
  simp only at c0 c3 c4
  rcases word_cases word with rfl | rfl | rfl | rfl | rfl | ⟨e0, e1, e2, e3, e4⟩
  · cases slash
    · rw [show (mustN ⟨wSrc, pos, nums, false, dash⟩ : Int) = 4 from rfl]
      unfold wSrc at c0 c3 c4 HB ⊢
      go_enter Tryd.func52, Tryd.ntmps52
      go_wp2_with fail
      go_ret
      exact ⟨rfl, HB.out⟩
    · rw [show (mustN ⟨wSrc, pos, nums, true, dash⟩ : Int) = 5 from rfl]
      unfold wSrc at c0 c3 c4 HB ⊢
      go_enter Tryd.func52, Tryd.ntmps52
      go_wp2_with fail
      go_ret
      exact ⟨rfl, HB.out⟩
  · cases slash
    · rw [show (mustN ⟨wDst, pos, nums, false, dash⟩ : Int) = 4 from rfl]
      unfold wDst at c0 c3 c4 HB ⊢
      go_enter Tryd.func52, Tryd.ntmps52
      go_wp2_with fail
      go_ret
      exact ⟨rfl, HB.out⟩
    · rw [show (mustN ⟨wDst, pos, nums, true, dash⟩ : Int) = 5 from rfl]
      unfold wDst at c0 c3 c4 HB ⊢
      go_enter Tryd.func52, Tryd.ntmps52
      go_wp2_with fail
      go_ret
      exact ⟨rfl, HB.out⟩
  · cases dash
    · rw [show (mustN ⟨wSport, pos, nums, slash, false⟩ : Int) = 1 from rfl]
      unfold wSport at c0 c3 c4 HB ⊢
      go_enter Tryd.func52, Tryd.ntmps52
      go_wp2_with fail
      go_ret
      exact ⟨rfl, HB.out⟩
    · rw [show (mustN ⟨wSport, pos, nums, slash, true⟩ : Int) = 2 from rfl]
      unfold wSport at c0 c3 c4 HB ⊢
      go_enter Tryd.func52, Tryd.ntmps52
      go_wp2_with fail
      go_ret
      exact ⟨rfl, HB.out⟩
  · cases dash
    · rw [show (mustN ⟨wDport, pos, nums, slash, false⟩ : Int) = 1 from rfl]
      unfold wDport at c0 c3 c4 HB ⊢
      go_enter Tryd.func52, Tryd.ntmps52
      go_wp2_with fail
      go_ret
      exact ⟨rfl, HB.out⟩
    · rw [show (mustN ⟨wDport, pos, nums, slash, true⟩ : Int) = 2 from rfl]
      unfold wDport at c0 c3 c4 HB ⊢
      go_enter Tryd.func52, Tryd.ntmps52
      go_wp2_with fail
      go_ret
      exact ⟨rfl, HB.out⟩
  · rw [show (mustN ⟨wProto, pos, nums, slash, dash⟩ : Int) = 1 from rfl]
    unfold wProto at c0 c3 c4 HB ⊢
    go_enter Tryd.func52, Tryd.ntmps52
    go_wp2_with fail
    go_ret
    exact ⟨rfl, HB.out⟩
  · have hm : mustN ⟨word, pos, nums, slash, dash⟩ = 0 := by
      unfold mustN isAddrW isPortW wSrc wDst wSport wDport wProto
      simp only [e0, e1, e2, e3, e4]
      rfl
    rw [show (mustN ⟨word, pos, nums, slash, dash⟩ : Int) = 0 by rw [hm]; rfl]

    clear hm
    go_enter Tryd.func52, Tryd.ntmps52
    go_wp2_with fail
    go_ret
    exact ⟨rfl, HB.out⟩

set_option maxHeartbeats 2000000 in
theorem most_any (x : List UInt8) (k : Nat) (w : World) :
    Calls Tryd.prog 53 #[.string ⟨x.toArray⟩, .int .i64 (k : Int)] w fun e w' => e = .returned (.int .i64 (mostN x k)) ∧ w' = w := by
  rcases word_cases x with rfl | rfl | rfl | rfl | rfl | ⟨e0, e1, e2, e3, e4⟩
  · by_cases h4 : k = 4
    · subst h4
      rw [show mostN wSrc 4 = 32 from rfl]
      go_enter Tryd.func53, Tryd.ntmps53
      go_wp2_with fail
      go_ret
      exact ⟨rfl, rfl⟩
    · have h4' : ((k : Int) == 4) = false := by simp; omega
      rw [show mostN wSrc k = 255 by unfold mostN; simp [h4]; decide]
      clear h4
      go_enter Tryd.func53, Tryd.ntmps53
      go_wp2_with fail
      go_ret
      exact ⟨rfl, rfl⟩
  · by_cases h4 : k = 4
    · subst h4
      rw [show mostN wDst 4 = 32 from rfl]
      go_enter Tryd.func53, Tryd.ntmps53
      go_wp2_with fail
      go_ret
      exact ⟨rfl, rfl⟩
    · have h4' : ((k : Int) == 4) = false := by simp; omega
      rw [show mostN wDst k = 255 by unfold mostN; simp [h4]; decide]
      clear h4
      go_enter Tryd.func53, Tryd.ntmps53
      go_wp2_with fail
      go_ret
      exact ⟨rfl, rfl⟩
  · rw [show mostN wSport k = 65535 from rfl]
    go_enter Tryd.func53, Tryd.ntmps53
    go_wp2_with fail
    go_ret
    exact ⟨rfl, rfl⟩
  · rw [show mostN wDport k = 65535 from rfl]
    go_enter Tryd.func53, Tryd.ntmps53
    go_wp2_with fail
    go_ret
    exact ⟨rfl, rfl⟩
  · rw [show mostN wProto k = 255 from rfl]
    go_enter Tryd.func53, Tryd.ntmps53
    go_wp2_with fail
    go_ret
    exact ⟨rfl, rfl⟩
  · have hp : isPortW x = false := by unfold isPortW wSport wDport; rw [e2, e3]; rfl
    have ho : (x == wProto) = false := e4
    by_cases h4 : k = 4
    · subst h4
      rw [show mostN x 4 = 32 by unfold mostN; rw [hp, ho]; rfl]
      clear hp ho
      go_enter Tryd.func53, Tryd.ntmps53
      go_wp2_with fail
      go_ret
      exact ⟨rfl, rfl⟩
    · have h4' : ((k : Int) == 4) = false := by simp; omega
      rw [show mostN x k = 255 by unfold mostN; rw [hp, ho]; simp [h4]]
      clear hp ho h4
      go_enter Tryd.func53, Tryd.ntmps53
      go_wp2_with fail
      go_ret
      exact ⟨rfl, rfl⟩

theorem retEB {E : El} (H : E.Ok) {fn : Func} {R : Ending → World → Prop} {a : Act} {w : World} {u p : Tmp} (hr : fn.results = #[.cell p E.elem, .tmp u]) (hd : a.defers = []) (g : Nat) (hp : a.tmps.getD p undef = .pointer (some ⟨g, 0, none⟩)) (cs : Array Value) (hcs : cs.size = E.size)
    (hg : w.heap[g]? = some (.cells cs E.elem (0, 0))) (v : Value) (hu : a.tmps.getD u undef = v) (h : R (.returned (.tuple #[.agg cs, v])) w) : bodyPost Tryd.prog fn R .ret a w := by
  refine bodyPost_ret (v := .tuple #[.agg cs, v]) ?_ hd h
  rw [Array.getD_eq_getD_getElem?] at hp hu
  have hl := H.load w g 0 cs E.elem (0, 0) cs hcs hg (own_cells _ _)
  simp [results, hr, hp, hu, asAddr, hl]
theorem find_next {x : List UInt8} {l : List Cla} {k : Nat} {c : Cla} (h : l[k]? = some c) : findC x (l.drop k) = if c.word == x then some c else findC x (l.drop (k + 1)) := by
  obtain ⟨hk, rfl⟩ := List.getElem?_eq_some_iff.1 h
  rw [List.drop_eq_getElem_cons hk]
  unfold findC
  rw [List.find?_cons]
  cases hx : (l[k].word == x) <;> simp
/-- What Find comes to. -/
def Found (w' : World) (x : List UInt8) (l : List Cla) (cs : Array Value) (b : Bool) : Prop := match findC x l with
  | none => b = false ∧ cs = ClaE.zero
  | some c => b = true ∧ ∃ u, cs = claV c u ∧ FigsAt w' c u

def FindR (w w' : World) (t : List UInt8) (l : List Cla) (e : Ending) : Prop := ∃ cs b, e = .returned (.tuple #[.agg cs, .bool b]) ∧ Found w' t l cs b ∧ Below w.heap.size w w'
set_option maxHeartbeats 8000000 in
theorem find_any (x : Raw) (u : Value) (t : List UInt8) (w : World) (hu : ClasAt w x u) :
    Calls Tryd.prog 56 #[.agg (rawV x u), .string ⟨t.toArray⟩] w fun e w' => FindR w w' t x.clauses e := by
  obtain ⟨o, cap, rfl, hc1, hc2⟩ := NSl.slice hu
  obtain ⟨n, hn⟩ : ∃ n, n = x.clauses.length := ⟨_, rfl⟩
  have HN : Hid (n = x.clauses.length) := hn
  rw [← hn] at hu hc1 ⊢
  have HU : Hid (ClasAt w x (.slice o n cap)) := hu
  unfold maxLen at hc2
  have b1 : Hid (((w.alloc (.cells (rawV x (.slice o n cap)) 51)).alloc (.cells ClaE.zero 54)).heap[w.heap.size]? = some (.cells (rawV x (.slice o n cap)) 51 (0, 0))) := heap_past _ _ _ _ (heap_new _ _ _ rfl)
  have b2 : Hid (((w.alloc (.cells (rawV x (.slice o n cap)) 51)).alloc (.cells ClaE.zero 54)).heap[w.heap.size + 1]? = some (.cells ClaE.zero 54 (0, 0))) := heap_new _ _ _ (by simp)
  have B0 : Hid (Below w.heap.size w ((w.alloc (.cells (rawV x (.slice o n cap)) 51)).alloc (.cells ClaE.zero 54))) := below2 _ _ _
  clear hu hn
  go_enter Tryd.func56, Tryd.ntmps56
  go_wp2_with fail
  go_loopw [6] (fun i wr => ∃ k : Nat, k ≤ n ∧ i = .int .i64 (k : Int) ∧ Hid (findC t x.clauses = findC t (x.clauses.drop k)) ∧ wr.heap[w.heap.size]? = some (.cells (rawV x (.slice o n cap)) 51 (0, 0)) ∧ wr.heap[w.heap.size + 1]? = some (.cells ClaE.zero 54 (0, 0)) ∧ Below w.heap.size w wr) (fun i _ => n - (intOf i).toNat)
  case atStart => exact ⟨0, Nat.zero_le _, rfl, rfl, b1.out, b2.out, B0.out⟩
  case round =>
    clear b1 b2 B0
    obtain ⟨k, hk, rfl, HF, hr1, hr2, hb⟩ := hrel
    have R1 : Hid (wr.heap[w.heap.size]? = some (.cells (rawV x (.slice o n cap)) 51 (0, 0))) := hr1
    have R2 : Hid (wr.heap[w.heap.size + 1]? = some (.cells ClaE.zero 54 (0, 0))) := hr2
    have HB : Hid (Below w.heap.size w wr) := hb
    have f4 := (raw_f R1.out).2.2.2.1
    clear hr1 hr2 hb
    by_cases hlt : k < n
    · have hlt' : (k : Int) < (n : Int) := by omega
      obtain ⟨g, off, cur, ty, fr, c, u', rfl, hg0, hc, hCk, hcl⟩ := NSl.at HU.out k hlt
      have hg : wr.heap[g]? = some (.cells cur ty fr) := (HB.out.block g (Array.getElem?_eq_some_iff.1 hg0).1).trans hg0
      have K1 : Hid (wr.heap[g]? = some (.cells cur ty fr)) := hg
      have H1 : Hid (∀ i, i < 5 → cur[off + k * 5 + i]? = (claV c u')[i]?) := hc
      have c0 : wr.cell? ⟨g, off + k * 5, none⟩ = some (.string ⟨c.word.toArray⟩) := by rw [cell_of_row _ _ _ _ _ _ hg]; exact hc 0 (by decide)
      have hnx := find_next (x := t) hCk
      obtain ⟨o1, cap1, rfl, -, -⟩ := GSl.slice hcl
      have HCL : Hid (FigsAt w c (.slice o1 c.nums.length cap1)) := hcl
      clear hg hg0 hc hCk hcl
      cases hq : (c.word == t) with
      | true =>
        rw [hq] at hnx
        have HFD : Hid (findC t x.clauses = some c) := by rw [HF.out, hnx]; exact rfl
        clear hnx
        go_wp2_with (first
          | (refine wl_loadE (E := ClaE) ClaOk rfl _ rfl g (off + k * 5) rfl cur ty fr (claV c (.slice o1 c.nums.length cap1)) rfl K1.out H1.out ?_)
          | (refine wl_storeE (E := ClaE) ClaOk rfl _ _ rfl (w.heap.size + 1) (claV c (.slice o1 c.nums.length cap1)) ⟨rfl, by simp [claV, Value.oneCell']⟩ rfl rfl _ R2.out rfl _ rfl ?_))
        refine retEB (E := ClaE) ClaOk rfl rfl (w.heap.size + 1) rfl (claV c (.slice o1 c.nums.length cap1)) rfl (setRow_heap _ _ _ _ _ _ R2.out) _ rfl ?_
        have hBW : Below w.heap.size w (wr.setRow (w.heap.size + 1) (claV c (.slice o1 c.nums.length cap1))) := below_setRow HB.out (by omega) _
        refine ⟨_, true, rfl, ?_, hBW⟩
        unfold Found
        rw [HFD.out]
        exact ⟨rfl, _, rfl, figs_below _ _ _ _ hBW HCL.out⟩
      | false =>
        rw [hq] at hnx
        have HF2 : Hid (findC t x.clauses = findC t (x.clauses.drop (k + 1))) := by rw [HF.out, hnx]; exact rfl
        clear hnx
        go_wp2_with fail
        go_roundw
        case rel => exact ⟨k + 1, by omega, by go_num, HF2, R1.out, R2.out, HB.out⟩
        case measure => simp [intOf]; omega
    · have hlt' : ¬ (k : Int) < (n : Int) := by omega
      have HFD : Hid (findC t x.clauses = none) := by
        show _ = _
        rw [HF.out, List.drop_of_length_le (by have := HN.out; omega)]
        rfl
      clear hlt
      go_wp2_with (first
        | (refine wl_storeE (E := ClaE) ClaOk rfl _ _ rfl (w.heap.size + 1) ClaE.zero ⟨rfl, by simp [ClaE, Value.oneCell']⟩ rfl rfl _ R2.out rfl _ rfl ?_))
      refine retEB (E := ClaE) ClaOk rfl rfl (w.heap.size + 1) rfl ClaE.zero rfl (setRow_heap _ _ _ _ _ _ R2.out) _ rfl ?_
      refine ⟨_, false, rfl, ?_, below_setRow HB.out (by omega) _⟩
      unfold Found
      rw [HFD.out]
      exact ⟨rfl, rfl⟩
end Go.Proofs.YtfamnloobmdhdaaDoor
namespace Go.Proofs.YtfamnloobmdhdaaDoor
open Go Go.RowKit
set_option maxRecDepth 20000

theorem found_none {w' : World} {t : List UInt8} {l : List Cla} {cs : Array Value} {b : Bool} (h : Found w' t l cs b) (hf : findC t l = none) : b = false ∧ cs = ClaE.zero := by unfold Found at h; rw [hf] at h; exact h
theorem found_some {w' : World} {t : List UInt8} {l : List Cla} {cs : Array Value} {b : Bool} {c : Cla} (h : Found w' t l cs b) (hf : findC t l = some c) : b = true ∧ ∃ u, cs = claV c u ∧ FigsAt w' c u := by unfold Found at h; rw [hf] at h; exact h
theorem cla_fits7 (c : Cla) (o : Option Addr) (n m : Nat) : Fits ClaE (claV c (.slice o n m)) := ⟨rfl, by simp [claV, Value.oneCell']⟩
theorem zero_fits7 : Fits ClaE ClaE.zero := ⟨rfl, by simp [ClaE, Value.oneCell']⟩

set_option maxHeartbeats 8000000 in
theorem rprefix_any (x : Raw) (u : Value) (t : List UInt8) (w : World) (hu : ClasAt w x u) (hgd : ∀ c, findC t x.clauses = some c → (c.nums.length = if c.slash then 5 else 4) ∧ ∀ k, k < 4 → 0 ≤ nth c k ∧ nth c k ≤ 255) :
    Calls Tryd.prog 54 #[.agg (rawV x u), .string ⟨t.toArray⟩] w fun e w' => e = .returned (.tuple #[.int .u32 (preOf x.clauses t).1, .int .i64 (preOf x.clauses t).2]) ∧ Below w.heap.size w w' := by
  obtain ⟨o, cap, rfl, hc1, hc2⟩ := NSl.slice hu
  have FD : Hid (∀ W, Below w.heap.size w W → Calls Tryd.prog 56 #[.agg (rawV x (.slice o x.clauses.length cap)), .string ⟨t.toArray⟩] W fun e w' => FindR W w' t x.clauses e) := fun W hb => find_any x _ t W (clas_below _ _ _ _ hb hu)
  have KN : Hid ((w.alloc (.cells (rawV x (.slice o x.clauses.length cap)) 51)).heap[w.heap.size]? = some (.cells (rawV x (.slice o x.clauses.length cap)) 51 (0, 0)) ∧ Below w.heap.size w (w.alloc (.cells (rawV x (.slice o x.clauses.length cap)) 51))) := ⟨heap_new _ _ _ rfl, (Below.refl _ _).alloc (Nat.le_refl _) _⟩
  cases hf : findC t x.clauses with
  | none =>
    have HP : Hid (preOf x.clauses t = (0, 0)) := by show _ = _; unfold preOf; rw [hf]
    have HF : Hid (findC t x.clauses = none) := hf
    clear hf hu hgd
    go_enter Tryd.func54, Tryd.ntmps54
    go_wp2_with (first
      | (refine wl_loadE (E := RawE) RawOk rfl _ rfl w.heap.size 0 rfl _ _ _ (rawV x (.slice o x.clauses.length cap)) rfl KN.out.1 (own_cells _ _) ?_))
    refine (FD.out _ KN.out.2).mono ?_
    rintro e w1 ⟨cs, b, rfl, hfd, hb1⟩
    obtain ⟨rfl, rfl⟩ := found_none hfd HF.out
    have B1 : Hid (Below w.heap.size w w1) := KN.out.2.trans (hb1.mono KN.out.2.size)
    clear hfd hb1
    go_wp2_with (first
      | (refine wl_storeE (E := ClaE) ClaOk rfl _ _ rfl w1.heap.size ClaE.zero zero_fits7 rfl rfl _ (heap_new _ _ _ rfl) rfl _ (setRow_new _ _ _ _ _ rfl) ?_))
    go_ret2
    rw [HP.out]
    exact ⟨rfl, B1.out.alloc B1.out.size _⟩
  | some c =>
    obtain ⟨hl, hb4⟩ := hgd c hf
    have HP : Hid (preOf x.clauses t = preC c) := by show _ = _; unfold preOf preC; rw [hf]
    have HF : Hid (findC t x.clauses = some c) := hf
    have BD : Hid (∀ k, k ≤ 4 → 0 ≤ preN c k ∧ preN c k < 256 ^ k) := preN_bd c hb4
    have H4 : Hid (∀ k, k < 4 → 0 ≤ nth c k ∧ nth c k ≤ 255) := hb4
    have HE : Hid (preN c 4 = (preC c).1) := preN_four c
    have HS : Hid ((preC c).2 = if c.slash then nth c 4 else 32) := rfl
    have HNL : Hid (c.nums.length = if c.slash then 5 else 4) := hl
    clear hf hu hgd hl hb4
    go_enter Tryd.func54, Tryd.ntmps54
    go_wp2_with (first
      | (refine wl_loadE (E := RawE) RawOk rfl _ rfl w.heap.size 0 rfl _ _ _ (rawV x (.slice o x.clauses.length cap)) rfl KN.out.1 (own_cells _ _) ?_))
    refine (FD.out _ KN.out.2).mono ?_
    rintro e w1 ⟨cs, b, rfl, hfd, hb1⟩
    obtain ⟨rfl, u', rfl, hfig⟩ := found_some hfd HF.out
    have B1 : Hid (Below w.heap.size w w1) := KN.out.2.trans (hb1.mono KN.out.2.size)
    obtain ⟨o1, cap1, rfl, hca, hcb⟩ := GSl.slice hfig
    obtain ⟨n, hn⟩ : ∃ n, n = c.nums.length := ⟨_, rfl⟩
    rw [← hn] at hfig hca HNL ⊢
    have h4n : 4 ≤ n := by rw [HNL.out]; split <;> omega
    have HU : Hid (FigsAt w1 c (.slice o1 n cap1)) := hfig
    obtain ⟨g, off, cur, ty, fr, f0, rfl, -, -, -⟩ := hfig.at 0 (by omega)
    unfold maxLen at hcb
    have K2 : Hid ((w1.alloc (.cells (claV c (.slice (some ⟨g, off, none⟩) n cap1)) 54)).heap[w1.heap.size]? = some (.cells (claV c (.slice (some ⟨g, off, none⟩) n cap1)) 54 (0, 0))) := heap_new _ _ _ rfl
    have BA : Hid (Below w1.heap.size w1 (w1.alloc (.cells (claV c (.slice (some ⟨g, off, none⟩) n cap1)) 54))) := (Below.refl _ _).alloc (Nat.le_refl _) _
    clear hfd hb1 hfig hn
    go_wp2_with (first
      | (refine wl_storeE (E := ClaE) ClaOk rfl _ _ rfl w1.heap.size (claV c (.slice (some ⟨g, off, none⟩) n cap1)) (cla_fits7 _ _ _ _) rfl rfl _ (heap_new _ _ _ rfl) rfl _ (setRow_new _ _ _ _ _ rfl) ?_))
    go_loopw [8, 9] (fun v i wr => ∃ k : Nat, k ≤ 4 ∧ i = .int .i64 (k : Int) ∧ v = .int .u32 (preN c k) ∧ wr.heap[w1.heap.size]? = some (.cells (claV c (.slice (some ⟨g, off, none⟩) n cap1)) 54 (0, 0)) ∧ Below w1.heap.size w1 wr) (fun _ i _ => 4 - (intOf i).toNat)
    case atStart => exact ⟨0, Nat.zero_le _, rfl, rfl, K2.out, BA.out⟩
    case round =>
      clear K2 BA
      obtain ⟨k, hk, rfl, rfl, hr1, hb⟩ := hrel
      have R1 : Hid (wr.heap[w1.heap.size]? = some (.cells (claV c (.slice (some ⟨g, off, none⟩) n cap1)) 54 (0, 0))) := hr1
      have HB : Hid (Below w1.heap.size w1 wr) := hb
      have q2 := (cla_f R1.out).2.2.1
      clear hr1 hb
      by_cases hlt : k < 4
      · obtain ⟨g', off', cur', ty', fr', f, e0, hg, hc, hFj⟩ := (GSl.below HU.out HB.out).at k (by omega)
        simp only [Option.some.injEq, Addr.mk.injEq, and_true] at e0
        obtain ⟨rfl, rfl⟩ := e0
        have cg : wr.cell? ⟨g, off + k * 2, none⟩ = some (.int .i64 f.n) := by rw [cell_of_row _ _ _ _ _ _ hg]; exact hc 0 (by decide)
        have hnk := nth_q hFj
        have hx := H4.out k hlt
        rw [hnk] at hx
        have HST : Hid (preN c (k + 1) = preN c k * 256 + f.n) := by rw [← hnk]; exact rfl
        have hp := BD.out k (by omega)
        have hp24 : preN c k < 16777216 := by
          have : (256 : Int) ^ k ≤ 256 ^ 3 := by
            rcases (show k = 0 ∨ k = 1 ∨ k = 2 ∨ k = 3 by omega) with h | h | h | h <;> subst h <;> decide
          have h2 : (256 : Int) ^ 3 = 16777216 := by decide
          omega
        obtain ⟨pk, hpk⟩ : ∃ pk, pk = preN c k := ⟨_, rfl⟩
        rw [← hpk] at HST hp24 ⊢
        have hp0 : 0 ≤ pk := by rw [hpk]; exact hp.1
        have hlt' : (k : Int) < 4 := by omega
        have hkn : (k : Int) < (n : Int) := by omega
        have hkn' : k < n := by omega
        have hx0 := hx.1
        have hx1 : f.n < 256 := by omega
        clear hg hc hFj hnk hp hpk hx
        go_wp2_with fail
        go_roundw
        case rel =>
          refine ⟨k + 1, by omega, by go_num, ?_, R1.out, HB.out⟩
          rw [HST.out]
        case measure => simp [intOf]; omega
      · obtain rfl : k = 4 := by omega
        have hlt' : ¬ (4 : Int) < 4 := by omega
        have hend : ¬ (((4 : Nat) : Int) < 4) := by omega
        have c3 := (cla_f R1.out).2.2.2.1
        cases hs : c.slash with
        | false =>
          rw [hs] at c3 HS
          clear hlt
          go_wp2_with fail
          go_ret2
          refine ⟨?_, B1.out.trans (HB.out.mono B1.out.size)⟩
          rw [HP.out, HE.out, HS.out]
          rfl
        | true =>
          rw [hs] at c3 HS HNL
          have h5 : n = 5 := HNL.out
          obtain ⟨g', off', cur', ty', fr', f, e0, hg, hc, hFj⟩ := (GSl.below HU.out HB.out).at 4 (by omega)
          simp only [Option.some.injEq, Addr.mk.injEq, and_true] at e0
          obtain ⟨rfl, rfl⟩ := e0
          have l2 : ∀ u : Later wr, u.world.cell? ⟨w1.heap.size, 2, none⟩ = some (.slice (some ⟨g, off, none⟩) n cap1) := later_cell7 R1.out rfl
          have lg : ∀ u : Later wr, u.world.cell? ⟨g, off + 8, none⟩ = some (.int .i64 f.n) := later_cell7 hg (hc 0 (by decide))
          have hnk := nth_q hFj
          have HS2 : Hid ((preC c).2 = f.n) := by show _ = _; rw [HS.out, if_pos rfl, hnk]
          subst h5
          clear hlt hg hc hFj hnk
          go_wp2_with fail
          have ne1 := Later.ne wr
          refine wp_region_later (by kernel_rfl) (by kernel_rfl) ?_
          repeat go_big_quiet_step (rfl)
          refine wpQuiet_nil ?_
          rintro w' ⟨v, rfl⟩
          have hbv := HB.out.trans (v.below.mono HB.out.size)
          go_wp2_with fail
          go_ret2
          refine ⟨?_, B1.out.trans (hbv.mono B1.out.size)⟩
          rw [HP.out, HE.out, HS2.out]
          rfl

set_option maxHeartbeats 8000000 in
theorem rports_any (x : Raw) (u : Value) (t : List UInt8) (w : World) (hu : ClasAt w x u) (hgd : ∀ c, findC t x.clauses = some c → c.nums.length = if c.dash then 2 else 1) :
    Calls Tryd.prog 55 #[.agg (rawV x u), .string ⟨t.toArray⟩] w fun e w' => e = .returned (.tuple #[.int .i64 (porOf x.clauses t).1, .int .i64 (porOf x.clauses t).2]) ∧ Below w.heap.size w w' := by
  obtain ⟨o, cap, rfl, hc1, hc2⟩ := NSl.slice hu
  have FD : Hid (∀ W, Below w.heap.size w W → Calls Tryd.prog 56 #[.agg (rawV x (.slice o x.clauses.length cap)), .string ⟨t.toArray⟩] W fun e w' => FindR W w' t x.clauses e) := fun W hb => find_any x _ t W (clas_below _ _ _ _ hb hu)
  have KN : Hid ((w.alloc (.cells (rawV x (.slice o x.clauses.length cap)) 51)).heap[w.heap.size]? = some (.cells (rawV x (.slice o x.clauses.length cap)) 51 (0, 0)) ∧ Below w.heap.size w (w.alloc (.cells (rawV x (.slice o x.clauses.length cap)) 51))) := ⟨heap_new _ _ _ rfl, (Below.refl _ _).alloc (Nat.le_refl _) _⟩
  cases hf : findC t x.clauses with
  | none =>
    have HP : Hid (porOf x.clauses t = (0, 65535)) := by show _ = _; unfold porOf; rw [hf]
    have HF : Hid (findC t x.clauses = none) := hf
    clear hf hu hgd
    go_enter Tryd.func55, Tryd.ntmps55
    go_wp2_with (first
      | (refine wl_loadE (E := RawE) RawOk rfl _ rfl w.heap.size 0 rfl _ _ _ (rawV x (.slice o x.clauses.length cap)) rfl KN.out.1 (own_cells _ _) ?_))
    refine (FD.out _ KN.out.2).mono ?_
    rintro e w1 ⟨cs, b, rfl, hfd, hb1⟩
    obtain ⟨rfl, rfl⟩ := found_none hfd HF.out
    have B1 : Hid (Below w.heap.size w w1) := KN.out.2.trans (hb1.mono KN.out.2.size)
    clear hfd hb1
    go_wp2_with (first
      | (refine wl_storeE (E := ClaE) ClaOk rfl _ _ rfl w1.heap.size ClaE.zero zero_fits7 rfl rfl _ (heap_new _ _ _ rfl) rfl _ (setRow_new _ _ _ _ _ rfl) ?_))
    go_ret2
    rw [HP.out]
    exact ⟨rfl, B1.out.alloc B1.out.size _⟩
  | some c =>
    have hl := hgd c hf
    have HP : Hid (porOf x.clauses t = (nth c 0, if c.dash then nth c 1 else nth c 0)) := by show _ = _; unfold porOf; rw [hf]
    have HF : Hid (findC t x.clauses = some c) := hf
    have HNL : Hid (c.nums.length = if c.dash then 2 else 1) := hl
    clear hf hu hgd hl
    go_enter Tryd.func55, Tryd.ntmps55
    go_wp2_with (first
      | (refine wl_loadE (E := RawE) RawOk rfl _ rfl w.heap.size 0 rfl _ _ _ (rawV x (.slice o x.clauses.length cap)) rfl KN.out.1 (own_cells _ _) ?_))
    refine (FD.out _ KN.out.2).mono ?_
    rintro e w1 ⟨cs, b, rfl, hfd, hb1⟩
    obtain ⟨rfl, u', rfl, hfig⟩ := found_some hfd HF.out
    have B1 : Hid (Below w.heap.size w w1) := KN.out.2.trans (hb1.mono KN.out.2.size)
    obtain ⟨o1, cap1, rfl, hca, hcb⟩ := GSl.slice hfig
    obtain ⟨n, hn⟩ : ∃ n, n = c.nums.length := ⟨_, rfl⟩
    rw [← hn] at hfig hca HNL ⊢
    have h0n : 0 < n := by rw [HNL.out]; split <;> omega
    have HU : Hid (FigsAt w1 c (.slice o1 n cap1)) := hfig
    obtain ⟨g, off, cur, ty, fr, f0, rfl, hg, hc, hF0⟩ := hfig.at 0 h0n
    have hn0 := nth_q hF0
    unfold maxLen at hcb
    obtain ⟨WA, hWA⟩ : ∃ WA, WA = w1.alloc (.cells (claV c (.slice (some ⟨g, off, none⟩) n cap1)) 54) := ⟨_, rfl⟩
    have K2 : WA.heap[w1.heap.size]? = some (.cells (claV c (.slice (some ⟨g, off, none⟩) n cap1)) 54 (0, 0)) := by rw [hWA]; exact heap_new _ _ _ rfl
    have BA : Hid (Below w1.heap.size w1 WA) := by rw [hWA]; exact (Below.refl _ _).alloc (Nat.le_refl _) _
    have l2 : ∀ u : Later WA, u.world.cell? ⟨w1.heap.size, 2, none⟩ = some (.slice (some ⟨g, off, none⟩) n cap1) := later_cell7 K2 rfl
    have lg : ∀ u : Later WA, u.world.cell? ⟨g, off, none⟩ = some (.int .i64 f0.n) := later_cell7 ((BA.out.block g (Array.getElem?_eq_some_iff.1 hg).1).trans hg) (by
      have := hc 0 (by decide)
      rw [show off + 0 * FigE.size + 0 = off by simp] at this
      exact this)
    have c4 := (cla_f K2).2.2.2.2
    have hp0 : (0 : Int) < (n : Int) := by omega
    rw [hWA] at c4
    cases hs : c.dash with
    | true =>
      rw [hs] at c4 HP HNL
      have h5 : n = 2 := HNL.out
      obtain ⟨g', off', cur', ty', fr', f, e0, hg', hc', hFj⟩ := HU.out.at 1 (by omega)
      simp only [Option.some.injEq, Addr.mk.injEq, and_true] at e0
      obtain ⟨rfl, rfl⟩ := e0
      have lg2 : ∀ u : Later WA, u.world.cell? ⟨g, off + 2, none⟩ = some (.int .i64 f.n) := later_cell7 ((BA.out.block g (Array.getElem?_eq_some_iff.1 hg').1).trans hg') (hc' 0 (by decide))
      have HP2 : Hid (porOf x.clauses t = (f0.n, f.n)) := by show _ = _; rw [HP.out, if_pos rfl, hn0, nth_q hFj]
      subst h5
      clear hfd hb1 hfig hn hg hc hF0 hn0 hg' hc' hFj K2
      go_wp2_with (first
        | (refine wl_storeE (E := ClaE) ClaOk rfl _ _ rfl w1.heap.size (claV c (.slice (some ⟨g, off, none⟩) 2 cap1)) (cla_fits7 _ _ _ _) rfl rfl _ (heap_new _ _ _ rfl) rfl _ (setRow_new _ _ _ _ _ rfl) ?_))
      rw [← hWA]
      have ne1 := Later.ne WA
      refine wp_region_later (by kernel_rfl) (by kernel_rfl) ?_
      repeat go_big_quiet_step (rfl)
      refine wpQuiet_nil ?_
      rintro w' ⟨v, rfl⟩
      have hbv := BA.out.trans (v.below.mono BA.out.size)
      go_wp2_with fail
      go_ret2
      refine ⟨?_, B1.out.trans (hbv.mono B1.out.size)⟩
      rw [HP2.out]
      rfl
    | false =>
      rw [hs] at c4 HP HNL
      have HP2 : Hid (porOf x.clauses t = (f0.n, f0.n)) := by show _ = _; rw [HP.out, if_neg (by decide), hn0]
      clear hfd hb1 hfig hn hg hc hF0 hn0 K2
      go_wp2_with (first
        | (refine wl_storeE (E := ClaE) ClaOk rfl _ _ rfl w1.heap.size (claV c (.slice (some ⟨g, off, none⟩) n cap1)) (cla_fits7 _ _ _ _) rfl rfl _ (heap_new _ _ _ rfl) rfl _ (setRow_new _ _ _ _ _ rfl) ?_))
      rw [← hWA]
      have ne1 := Later.ne WA
      refine wp_region_later (by kernel_rfl) (by kernel_rfl) ?_
      repeat go_big_quiet_step (rfl)
      refine wpQuiet_nil ?_
      rintro w' ⟨v, rfl⟩
      have hbv := BA.out.trans (v.below.mono BA.out.size)
      go_wp2_with fail
      go_ret2
      refine ⟨?_, B1.out.trans (hbv.mono B1.out.size)⟩
      rw [HP2.out]
      rfl
end Go.Proofs.YtfamnloobmdhdaaDoor
namespace Go.Proofs.YtfamnloobmdhdaaDoor
open Go Go.RowKit
set_option maxRecDepth 20000

theorem good_addr {l : List Cla} (hl : ∀ c ∈ l, goodC c) {t : List UInt8} (h1 : isAddrW t = true) (h2 : isPortW t = false) (h3 : (t == wProto) = false) : ∀ c, findC t l = some c → (c.nums.length = if c.slash then 5 else 4) ∧ ∀ k, k < 4 → 0 ≤ nth c k ∧ nth c k ≤ 255 := fun c hc => by
  obtain ⟨m1, m2⟩ := find_in hc
  exact addr_facts (hl c m1) (by rw [m2]; exact h1) (by rw [m2]; exact h2) (by rw [m2]; exact h3)
theorem good_port {l : List Cla} (hl : ∀ c ∈ l, goodC c) {t : List UInt8} (h : isPortW t = true) : ∀ c, findC t l = some c → c.nums.length = if c.dash then 2 else 1 := fun c hc => by
  obtain ⟨m1, m2⟩ := find_in hc
  rw [(hl c m1).2.1, mustN_port (by rw [m2]; exact h)]
/-- A line's meaning but for its protocol. -/
def mean5 (r : Raw) : Ent := ⟨false, r.prio.n, actOf r, (preOf r.clauses wSrc).1, (preOf r.clauses wSrc).2, (preOf r.clauses wDst).1, (preOf r.clauses wDst).2, (porOf r.clauses wSport).1, (porOf r.clauses wSport).2, (porOf r.clauses wDport).1, (porOf r.clauses wDport).2, -1⟩
theorem mean5_none {r : Raw} (hd : r.dflt = false) (h : findC wProto r.clauses = none) : mean5 r = meaning r := by
  unfold mean5 meaning proOf; rw [hd, h]; rfl
theorem mean5_some {r : Raw} {c : Cla} (hd : r.dflt = false) (h : findC wProto r.clauses = some c) : entV (meaning r) = (entV (mean5 r)).setIfInBounds 10 (.int .i64 (nth c 0)) := by
  unfold mean5 meaning proOf; rw [hd, h]; rfl

set_option maxHeartbeats 16000000 in
set_option maxRecDepth 100000 in
theorem rmeaning_any (x : Raw) (u : Value) (w : World) (hu : ClasAt w x u) (hr : x.dflt = false → faultR x = .ok ()) :
    Calls Tryd.prog 31 #[.agg (rawV x u)] w fun e w' => e = .returned (.agg (entV (meaning x))) ∧ Below w.heap.size w w' := by
  obtain ⟨o, cap, rfl, hc1, hc2⟩ := NSl.slice hu
  have b1 : Hid (((w.alloc (.cells (rawV x (.slice o x.clauses.length cap)) 51)).alloc (.cells EntE.zero 35)).heap[w.heap.size]? = some (.cells (rawV x (.slice o x.clauses.length cap)) 51 (0, 0))) := heap_past _ _ _ _ (heap_new _ _ _ rfl)
  have b2 : Hid (((w.alloc (.cells (rawV x (.slice o x.clauses.length cap)) 51)).alloc (.cells EntE.zero 35)).heap[w.heap.size + 1]? = some (.cells EntE.zero 35 (0, 0))) := heap_new _ _ _ (by simp)
  have B0 : Hid (Below w.heap.size w ((w.alloc (.cells (rawV x (.slice o x.clauses.length cap)) 51)).alloc (.cells EntE.zero 35))) := below2 _ _ _
  obtain ⟨-, c1, -, -, c5, c6⟩ := raw_f b1.out
  unfold EntE at c1 c5 c6
  simp only at c1 c5 c6
  have HA : Hid (actOf x = if x.drop then 0 else x.port.n) := rfl
  cases hd : x.dflt with
  | true =>
    have hm : entV (meaning x) = #[.bool true, .int .i64 0, .int .u32 0, .int .i64 0, .int .u32 0, .int .i64 0, .int .i64 0, .int .i64 0, .int .i64 0, .int .i64 0, .int .i64 0, .int .i64 (actOf x)] := by unfold meaning; rw [hd]; rfl
    rw [hm]
    rw [hd] at c1
    clear hm hu hr
    cases hdr : x.drop with
    | true =>
      rw [hdr] at c5 HA
      rw [show actOf x = 0 from HA.out]
      clear HA
      go_enter Tryd.func31, Tryd.ntmps31
      go_wp2_with (first
        | (refine wl_storeE (E := EntE) EntOk rfl _ _ rfl (w.heap.size + 1) #[.bool true, .int .i64 0, .int .u32 0, .int .i64 0, .int .u32 0, .int .i64 0, .int .i64 0, .int .i64 0, .int .i64 0, .int .i64 0, .int .i64 0, .int .i64 (0)] ⟨rfl, by simp [Value.oneCell']⟩ rfl rfl _ b2.out rfl _ rfl ?_))
      refine retE (E := EntE) EntOk rfl rfl (w.heap.size + 1) rfl _ rfl (setRow_heap _ _ _ _ _ _ b2.out) ?_
      exact ⟨rfl, below_setRow B0.out (by omega) _⟩
    | false =>
      rw [hdr] at c5 HA
      rw [show actOf x = x.port.n from HA.out]
      clear HA
      go_enter Tryd.func31, Tryd.ntmps31
      go_wp2_with (first
        | (refine wl_storeE (E := EntE) EntOk rfl _ _ rfl (w.heap.size + 1) #[.bool true, .int .i64 0, .int .u32 0, .int .i64 0, .int .u32 0, .int .i64 0, .int .i64 0, .int .i64 0, .int .i64 0, .int .i64 0, .int .i64 0, .int .i64 (x.port.n)] ⟨rfl, by simp [Value.oneCell']⟩ rfl rfl _ b2.out rfl _ rfl ?_))
      refine retE (E := EntE) EntOk rfl rfl (w.heap.size + 1) rfl _ rfl (setRow_heap _ _ _ _ _ _ b2.out) ?_
      exact ⟨rfl, below_setRow B0.out (by omega) _⟩
  | false =>
    have hf := hr hd
    have hcs : faultCs [] x.clauses = .ok () := by
      unfold faultR at hf
      split at hf
      · cases hf
      · exact hf
    have hgd := faultCs_in _ _ hcs
    have P1 : Hid (∀ W, Below w.heap.size w W → Calls Tryd.prog 54 #[.agg (rawV x (.slice o x.clauses.length cap)), .string ⟨#[115, 114, 99]⟩] W fun e w' => e = .returned (.tuple #[.int .u32 (preOf x.clauses wSrc).1, .int .i64 (preOf x.clauses wSrc).2]) ∧ Below W.heap.size W w') := fun W hb => rprefix_any x _ wSrc W (clas_below _ _ _ _ hb hu) (good_addr hgd (by decide) (by decide) (by decide))
    have P2 : Hid (∀ W, Below w.heap.size w W → Calls Tryd.prog 54 #[.agg (rawV x (.slice o x.clauses.length cap)), .string ⟨#[100, 115, 116]⟩] W fun e w' => e = .returned (.tuple #[.int .u32 (preOf x.clauses wDst).1, .int .i64 (preOf x.clauses wDst).2]) ∧ Below W.heap.size W w') := fun W hb => rprefix_any x _ wDst W (clas_below _ _ _ _ hb hu) (good_addr hgd (by decide) (by decide) (by decide))
    have P3 : Hid (∀ W, Below w.heap.size w W → Calls Tryd.prog 55 #[.agg (rawV x (.slice o x.clauses.length cap)), .string ⟨#[115, 112, 111, 114, 116]⟩] W fun e w' => e = .returned (.tuple #[.int .i64 (porOf x.clauses wSport).1, .int .i64 (porOf x.clauses wSport).2]) ∧ Below W.heap.size W w') := fun W hb => rports_any x _ wSport W (clas_below _ _ _ _ hb hu) (good_port hgd (by decide))
    have P4 : Hid (∀ W, Below w.heap.size w W → Calls Tryd.prog 55 #[.agg (rawV x (.slice o x.clauses.length cap)), .string ⟨#[100, 112, 111, 114, 116]⟩] W fun e w' => e = .returned (.tuple #[.int .i64 (porOf x.clauses wDport).1, .int .i64 (porOf x.clauses wDport).2]) ∧ Below W.heap.size W w') := fun W hb => rports_any x _ wDport W (clas_below _ _ _ _ hb hu) (good_port hgd (by decide))
    have P5 : Hid (∀ W, Below w.heap.size w W → Calls Tryd.prog 56 #[.agg (rawV x (.slice o x.clauses.length cap)), .string ⟨#[112, 114, 111, 116, 111]⟩] W fun e w' => FindR W w' wProto x.clauses e) := fun W hb => find_any x _ wProto W (clas_below _ _ _ _ hb hu)
    have HGP : Hid (∀ c, findC wProto x.clauses = some c → 0 < c.nums.length) := fun c hc => good_pos (hgd c (find_in hc).1)
    have HM5 : Hid (mean5 x = ⟨false, x.prio.n, actOf x, (preOf x.clauses wSrc).1, (preOf x.clauses wSrc).2, (preOf x.clauses wDst).1, (preOf x.clauses wDst).2, (porOf x.clauses wSport).1, (porOf x.clauses wSport).2, (porOf x.clauses wDport).1, (porOf x.clauses wDport).2, -1⟩) := rfl
    obtain ⟨⟨s1, s2⟩, hs⟩ : ∃ s, s = preOf x.clauses wSrc := ⟨_, rfl⟩
    obtain ⟨⟨d1, d2⟩, hdd⟩ : ∃ s, s = preOf x.clauses wDst := ⟨_, rfl⟩
    obtain ⟨⟨p1, p2⟩, hpp⟩ : ∃ s, s = porOf x.clauses wSport := ⟨_, rfl⟩
    obtain ⟨⟨q1, q2⟩, hqq⟩ : ∃ s, s = porOf x.clauses wDport := ⟨_, rfl⟩
    rw [← hs] at P1 HM5
    rw [← hdd] at P2 HM5
    rw [← hpp] at P3 HM5
    rw [← hqq] at P4 HM5
    simp only at P1 P2 P3 P4 HM5
    have HD : Hid (x.dflt = false) := hd
    have HNO : Hid (findC wProto x.clauses = none → mean5 x = meaning x) := fun h => mean5_none hd h
    have HYE : Hid (∀ c, findC wProto x.clauses = some c → entV (meaning x) = (entV (mean5 x)).setIfInBounds 10 (.int .i64 (nth c 0))) := fun c h => mean5_some hd h
    rw [hd] at c1
    clear hs hdd hpp hqq hf hcs hgd hu hr hd
    cases hdr : x.drop with
    | true =>
      rw [hdr] at c5 HA
      have HAV : Hid (actOf x = 0) := HA.out
      clear HA
      go_enter Tryd.func31, Tryd.ntmps31
      go_wp2_with (first
        | (refine wl_loadE (E := RawE) RawOk rfl _ rfl w.heap.size 0 rfl _ _ _ (rawV x (.slice o x.clauses.length cap)) rfl b1.out (own_cells _ _) ?_))
      refine (P1.out _ B0.out).mono ?_
      rintro e w1 ⟨rfl, hb1⟩
      have x1 : Hid (w1.heap[w.heap.size]? = some (.cells (rawV x (.slice o x.clauses.length cap)) 51 (0, 0))) := (hb1.block _ (by simp; omega)).trans b1.out
      have y1 : Hid (w1.heap[w.heap.size + 1]? = some (.cells EntE.zero 35 (0, 0))) := (hb1.block _ (by simp)).trans b2.out
      have B1 : Hid (Below w.heap.size w w1) := B0.out.trans (hb1.mono (by simp; omega))
      clear hb1 c1 c5 c6 b1 b2 B0
      go_wp2_with (first
        | (refine wl_loadE (E := RawE) RawOk rfl _ rfl w.heap.size 0 rfl _ _ _ (rawV x (.slice o x.clauses.length cap)) rfl x1.out (own_cells _ _) ?_))
      refine (P2.out _ B1.out).mono ?_
      rintro e w2 ⟨rfl, hb2⟩
      have zz := (Array.getElem?_eq_some_iff.1 y1.out).1
      have x2 : Hid (w2.heap[w.heap.size]? = some (.cells (rawV x (.slice o x.clauses.length cap)) 51 (0, 0))) := (hb2.block _ (by omega)).trans x1.out
      have y2 : Hid (w2.heap[w.heap.size + 1]? = some (.cells EntE.zero 35 (0, 0))) := (hb2.block _ zz).trans y1.out
      have B2 : Hid (Below w.heap.size w w2) := B1.out.trans (hb2.mono B1.out.size)
      clear hb2 x1 y1 B1 zz
      go_wp2_with (first
        | (refine wl_loadE (E := RawE) RawOk rfl _ rfl w.heap.size 0 rfl _ _ _ (rawV x (.slice o x.clauses.length cap)) rfl x2.out (own_cells _ _) ?_))
      refine (P3.out _ B2.out).mono ?_
      rintro e w3 ⟨rfl, hb3⟩
      have zz := (Array.getElem?_eq_some_iff.1 y2.out).1
      have x3 : Hid (w3.heap[w.heap.size]? = some (.cells (rawV x (.slice o x.clauses.length cap)) 51 (0, 0))) := (hb3.block _ (by omega)).trans x2.out
      have y3 : Hid (w3.heap[w.heap.size + 1]? = some (.cells EntE.zero 35 (0, 0))) := (hb3.block _ zz).trans y2.out
      have B3 : Hid (Below w.heap.size w w3) := B2.out.trans (hb3.mono B2.out.size)
      clear hb3 x2 y2 B2 zz
      go_wp2_with (first
        | (refine wl_loadE (E := RawE) RawOk rfl _ rfl w.heap.size 0 rfl _ _ _ (rawV x (.slice o x.clauses.length cap)) rfl x3.out (own_cells _ _) ?_))
      refine (P4.out _ B3.out).mono ?_
      rintro e w4 ⟨rfl, hb4⟩
      have zz := (Array.getElem?_eq_some_iff.1 y3.out).1
      have x4 : Hid (w4.heap[w.heap.size]? = some (.cells (rawV x (.slice o x.clauses.length cap)) 51 (0, 0))) := (hb4.block _ (by omega)).trans x3.out
      have y4 : Hid (w4.heap[w.heap.size + 1]? = some (.cells EntE.zero 35 (0, 0))) := (hb4.block _ zz).trans y3.out
      have B4 : Hid (Below w.heap.size w w4) := B3.out.trans (hb4.mono B3.out.size)
      clear hb4 x3 y3 B3 zz
      have c2 := (raw_f x4.out).2.2.1
      have HEV : Hid (entV (mean5 x) = #[.bool false, .int .i64 x.prio.n, .int .u32 s1, .int .i64 s2, .int .u32 d1, .int .i64 d2, .int .i64 p1, .int .i64 p2, .int .i64 q1, .int .i64 q2, .int .i64 (-1), .int .i64 (0)]) := by
        show _ = _
        rw [HM5.out, HAV.out]
        rfl
      have zz := (Array.getElem?_eq_some_iff.1 y4.out).1
      have x5 : Hid ((w4.alloc (.cells (entV (mean5 x)) 35)).heap[w.heap.size]? = some (.cells (rawV x (.slice o x.clauses.length cap)) 51 (0, 0))) := heap_past _ _ _ _ x4.out
      have B5 : Hid (Below w.heap.size w (w4.alloc (.cells (entV (mean5 x)) 35))) := B4.out.alloc B4.out.size _
      go_wp2_with (first
        | (refine wl_storeE (E := EntE) EntOk rfl _ _ rfl w4.heap.size (entV (mean5 x)) (ent_fits _) rfl (by rw [HEV.out]; rfl) _ (heap_new _ _ _ rfl) rfl _ (setRow_new _ _ _ _ _ rfl) ?_)
        | (refine wl_loadE (E := RawE) RawOk rfl _ rfl w.heap.size 0 rfl _ _ _ (rawV x (.slice o x.clauses.length cap)) rfl x5.out (own_cells _ _) ?_))
      refine (P5.out _ B5.out).mono ?_
      rintro e w6 ⟨cs, b, rfl, hfd, hb6⟩
      have g6 : w6.heap[w4.heap.size]? = some (.cells (entV (mean5 x)) 35 (0, 0)) := (hb6.block _ (by simp)).trans (heap_new _ _ _ rfl)
      have y6 : w6.heap[w.heap.size + 1]? = some (.cells EntE.zero 35 (0, 0)) := (hb6.block _ (by simp; omega)).trans (heap_past _ _ _ _ y4.out)
      have B6 : Hid (Below w.heap.size w w6) := B5.out.trans (hb6.mono B5.out.size)
      have z6 : w4.heap.size < w6.heap.size := (Array.getElem?_eq_some_iff.1 g6).1
      clear hb6 c2 x4 x5 B4 B5
      cases hfi : findC wProto x.clauses with
      | none =>
        obtain ⟨rfl, rfl⟩ := found_none hfd hfi
        have HME : Hid (mean5 x = meaning x) := HNO.out hfi
        have G6 : Hid ((w6.alloc (.cells ClaE.zero 54)).heap[w4.heap.size]? = some (.cells (entV (mean5 x)) 35 (0, 0))) := heap_past _ _ _ _ g6
        have Y6 : Hid ((w6.alloc (.cells ClaE.zero 54)).heap[w.heap.size + 1]? = some (.cells EntE.zero 35 (0, 0))) := heap_past _ _ _ _ y6
        have B7 : Hid (Below w.heap.size w (w6.alloc (.cells ClaE.zero 54))) := B6.out.alloc B6.out.size _
        clear hfd hfi g6 y6
        go_wp2_with (first
          | (refine wl_storeE (E := ClaE) ClaOk rfl _ _ rfl w6.heap.size ClaE.zero zero_fits7 rfl rfl _ (heap_new _ _ _ rfl) rfl _ (setRow_new _ _ _ _ _ rfl) ?_)
          | (refine wl_loadE (E := EntE) EntOk rfl _ rfl w4.heap.size 0 rfl _ _ _ (entV (mean5 x)) rfl G6.out (own_cells _ _) ?_)
          | (refine wl_storeE (E := EntE) EntOk rfl _ _ rfl (w.heap.size + 1) (entV (mean5 x)) (ent_fits _) rfl rfl _ Y6.out rfl _ rfl ?_))
        refine retE (E := EntE) EntOk rfl rfl (w.heap.size + 1) rfl (entV (mean5 x)) rfl (setRow_heap _ _ _ _ _ _ Y6.out) ?_
        exact ⟨by rw [HME.out], below_setRow B7.out (by omega) _⟩
      | some c =>
        obtain ⟨rfl, u', rfl, hfig⟩ := found_some hfd hfi
        have HME : Hid (entV (meaning x) = (entV (mean5 x)).setIfInBounds 10 (.int .i64 (nth c 0))) := HYE.out c hfi
        obtain ⟨o1, cap1, rfl, hca, hcb⟩ := GSl.slice hfig
        have hn0 := HGP.out c hfi
        obtain ⟨g, off, cur, ty, fr, f0, rfl, hg, hc, hF0⟩ := hfig.at 0 hn0
        have hnf := nth_q hF0
        rw [hnf] at HME
        obtain ⟨n, hn⟩ : ∃ n, n = c.nums.length := ⟨_, rfl⟩
        rw [← hn] at hn0 hca ⊢
        unfold maxLen at hcb
        obtain ⟨W7, hW7⟩ : ∃ W7, W7 = w6.alloc (.cells (claV c (.slice (some ⟨g, off, none⟩) n cap1)) 54) := ⟨_, rfl⟩
        have k2 : (w6.alloc (.cells (claV c (.slice (some ⟨g, off, none⟩) n cap1)) 54)).cell? ⟨w6.heap.size, 2, none⟩ = some (.slice (some ⟨g, off, none⟩) n cap1) := (cla_f (heap_new _ _ _ rfl)).2.2.1
        have cg : (w6.alloc (.cells (claV c (.slice (some ⟨g, off, none⟩) n cap1)) 54)).cell? ⟨g, off, none⟩ = some (.int .i64 f0.n) := by
          rw [cell_of_row _ _ _ _ _ _ (heap_past _ _ _ _ hg)]
          have := hc 0 (by decide)
          rw [show off + 0 * FigE.size + 0 = off by simp] at this
          exact this
        have q1' : (w6.alloc (.cells (claV c (.slice (some ⟨g, off, none⟩) n cap1)) 54)).cell? ⟨w4.heap.size, 10, none⟩ = some (.int .i64 (-1)) := by rw [cell_of_row _ _ _ _ _ _ (heap_past _ _ _ _ g6), HEV.out]; rfl
        have z1 : (w6.alloc (.cells (claV c (.slice (some ⟨g, off, none⟩) n cap1)) 54)).frozen? ⟨w4.heap.size, 10, none⟩ = false := tc_frozen (heap_past _ _ _ _ g6) rfl
        have hp0 : (0 : Int) < (n : Int) := by omega
        have G8 : Hid (((w6.setCell ⟨w4.heap.size, 10, none⟩ (.int .i64 f0.n)).alloc (.cells (claV c (.slice (some ⟨g, off, none⟩) n cap1)) 54)).heap[w4.heap.size]? = some (.cells (entV (meaning x)) 35 (0, 0))) := by show _ = _; rw [HME.out]; exact heap_past _ _ _ _ (tc_row g6 _)
        have Y8 : Hid (((w6.setCell ⟨w4.heap.size, 10, none⟩ (.int .i64 f0.n)).alloc (.cells (claV c (.slice (some ⟨g, off, none⟩) n cap1)) 54)).heap[w.heap.size + 1]? = some (.cells EntE.zero 35 (0, 0))) := heap_past _ _ _ _ ((tc_far (by omega) _).trans y6)
        have B8 : Hid (Below w.heap.size w ((w6.setCell ⟨w4.heap.size, 10, none⟩ (.int .i64 f0.n)).alloc (.cells (claV c (.slice (some ⟨g, off, none⟩) n cap1)) 54))) := (tc_below B6.out (by omega) _ _).alloc (tc_below B6.out (by omega) _ _).size _
        clear hfd hfi g6 y6 hfig hg hc hF0 hnf hn hW7
        go_wp2_with (first
          | (refine wl_storeE (E := ClaE) ClaOk rfl _ _ rfl w6.heap.size (claV c (.slice (some ⟨g, off, none⟩) n cap1)) (cla_fits7 _ _ _ _) rfl rfl _ (heap_new _ _ _ rfl) rfl _ (setRow_new _ _ _ _ _ rfl) ?_)
          | (refine wl_loadE (E := EntE) EntOk rfl _ rfl w4.heap.size 0 rfl _ _ _ (entV (meaning x)) rfl G8.out (own_cells _ _) ?_)
          | (refine wl_storeE (E := EntE) EntOk rfl _ _ rfl (w.heap.size + 1) (entV (meaning x)) (ent_fits _) rfl rfl _ Y8.out rfl _ rfl ?_))
        refine retE (E := EntE) EntOk rfl rfl (w.heap.size + 1) rfl (entV (meaning x)) rfl (setRow_heap _ _ _ _ _ _ Y8.out) ?_
        exact ⟨rfl, below_setRow B8.out (by omega) _⟩
    | false =>
      rw [hdr] at c5 HA
      have HAV : Hid (actOf x = x.port.n) := HA.out
      clear HA
      go_enter Tryd.func31, Tryd.ntmps31
      go_wp2_with (first
        | (refine wl_loadE (E := RawE) RawOk rfl _ rfl w.heap.size 0 rfl _ _ _ (rawV x (.slice o x.clauses.length cap)) rfl b1.out (own_cells _ _) ?_))
      refine (P1.out _ B0.out).mono ?_
      rintro e w1 ⟨rfl, hb1⟩
      have x1 : Hid (w1.heap[w.heap.size]? = some (.cells (rawV x (.slice o x.clauses.length cap)) 51 (0, 0))) := (hb1.block _ (by simp; omega)).trans b1.out
      have y1 : Hid (w1.heap[w.heap.size + 1]? = some (.cells EntE.zero 35 (0, 0))) := (hb1.block _ (by simp)).trans b2.out
      have B1 : Hid (Below w.heap.size w w1) := B0.out.trans (hb1.mono (by simp; omega))
      clear hb1 c1 c5 c6 b1 b2 B0
      go_wp2_with (first
        | (refine wl_loadE (E := RawE) RawOk rfl _ rfl w.heap.size 0 rfl _ _ _ (rawV x (.slice o x.clauses.length cap)) rfl x1.out (own_cells _ _) ?_))
      refine (P2.out _ B1.out).mono ?_
      rintro e w2 ⟨rfl, hb2⟩
      have zz := (Array.getElem?_eq_some_iff.1 y1.out).1
      have x2 : Hid (w2.heap[w.heap.size]? = some (.cells (rawV x (.slice o x.clauses.length cap)) 51 (0, 0))) := (hb2.block _ (by omega)).trans x1.out
      have y2 : Hid (w2.heap[w.heap.size + 1]? = some (.cells EntE.zero 35 (0, 0))) := (hb2.block _ zz).trans y1.out
      have B2 : Hid (Below w.heap.size w w2) := B1.out.trans (hb2.mono B1.out.size)
      clear hb2 x1 y1 B1 zz
      go_wp2_with (first
        | (refine wl_loadE (E := RawE) RawOk rfl _ rfl w.heap.size 0 rfl _ _ _ (rawV x (.slice o x.clauses.length cap)) rfl x2.out (own_cells _ _) ?_))
      refine (P3.out _ B2.out).mono ?_
      rintro e w3 ⟨rfl, hb3⟩
      have zz := (Array.getElem?_eq_some_iff.1 y2.out).1
      have x3 : Hid (w3.heap[w.heap.size]? = some (.cells (rawV x (.slice o x.clauses.length cap)) 51 (0, 0))) := (hb3.block _ (by omega)).trans x2.out
      have y3 : Hid (w3.heap[w.heap.size + 1]? = some (.cells EntE.zero 35 (0, 0))) := (hb3.block _ zz).trans y2.out
      have B3 : Hid (Below w.heap.size w w3) := B2.out.trans (hb3.mono B2.out.size)
      clear hb3 x2 y2 B2 zz
      go_wp2_with (first
        | (refine wl_loadE (E := RawE) RawOk rfl _ rfl w.heap.size 0 rfl _ _ _ (rawV x (.slice o x.clauses.length cap)) rfl x3.out (own_cells _ _) ?_))
      refine (P4.out _ B3.out).mono ?_
      rintro e w4 ⟨rfl, hb4⟩
      have zz := (Array.getElem?_eq_some_iff.1 y3.out).1
      have x4 : Hid (w4.heap[w.heap.size]? = some (.cells (rawV x (.slice o x.clauses.length cap)) 51 (0, 0))) := (hb4.block _ (by omega)).trans x3.out
      have y4 : Hid (w4.heap[w.heap.size + 1]? = some (.cells EntE.zero 35 (0, 0))) := (hb4.block _ zz).trans y3.out
      have B4 : Hid (Below w.heap.size w w4) := B3.out.trans (hb4.mono B3.out.size)
      clear hb4 x3 y3 B3 zz
      have c2 := (raw_f x4.out).2.2.1
      have HEV : Hid (entV (mean5 x) = #[.bool false, .int .i64 x.prio.n, .int .u32 s1, .int .i64 s2, .int .u32 d1, .int .i64 d2, .int .i64 p1, .int .i64 p2, .int .i64 q1, .int .i64 q2, .int .i64 (-1), .int .i64 (x.port.n)]) := by
        show _ = _
        rw [HM5.out, HAV.out]
        rfl
      have zz := (Array.getElem?_eq_some_iff.1 y4.out).1
      have x5 : Hid ((w4.alloc (.cells (entV (mean5 x)) 35)).heap[w.heap.size]? = some (.cells (rawV x (.slice o x.clauses.length cap)) 51 (0, 0))) := heap_past _ _ _ _ x4.out
      have B5 : Hid (Below w.heap.size w (w4.alloc (.cells (entV (mean5 x)) 35))) := B4.out.alloc B4.out.size _
      go_wp2_with (first
        | (refine wl_storeE (E := EntE) EntOk rfl _ _ rfl w4.heap.size (entV (mean5 x)) (ent_fits _) rfl (by rw [HEV.out]; rfl) _ (heap_new _ _ _ rfl) rfl _ (setRow_new _ _ _ _ _ rfl) ?_)
        | (refine wl_loadE (E := RawE) RawOk rfl _ rfl w.heap.size 0 rfl _ _ _ (rawV x (.slice o x.clauses.length cap)) rfl x5.out (own_cells _ _) ?_))
      refine (P5.out _ B5.out).mono ?_
      rintro e w6 ⟨cs, b, rfl, hfd, hb6⟩
      have g6 : w6.heap[w4.heap.size]? = some (.cells (entV (mean5 x)) 35 (0, 0)) := (hb6.block _ (by simp)).trans (heap_new _ _ _ rfl)
      have y6 : w6.heap[w.heap.size + 1]? = some (.cells EntE.zero 35 (0, 0)) := (hb6.block _ (by simp; omega)).trans (heap_past _ _ _ _ y4.out)
      have B6 : Hid (Below w.heap.size w w6) := B5.out.trans (hb6.mono B5.out.size)
      have z6 : w4.heap.size < w6.heap.size := (Array.getElem?_eq_some_iff.1 g6).1
      clear hb6 c2 x4 x5 B4 B5
      cases hfi : findC wProto x.clauses with
      | none =>
        obtain ⟨rfl, rfl⟩ := found_none hfd hfi
        have HME : Hid (mean5 x = meaning x) := HNO.out hfi
        have G6 : Hid ((w6.alloc (.cells ClaE.zero 54)).heap[w4.heap.size]? = some (.cells (entV (mean5 x)) 35 (0, 0))) := heap_past _ _ _ _ g6
        have Y6 : Hid ((w6.alloc (.cells ClaE.zero 54)).heap[w.heap.size + 1]? = some (.cells EntE.zero 35 (0, 0))) := heap_past _ _ _ _ y6
        have B7 : Hid (Below w.heap.size w (w6.alloc (.cells ClaE.zero 54))) := B6.out.alloc B6.out.size _
        clear hfd hfi g6 y6
        go_wp2_with (first
          | (refine wl_storeE (E := ClaE) ClaOk rfl _ _ rfl w6.heap.size ClaE.zero zero_fits7 rfl rfl _ (heap_new _ _ _ rfl) rfl _ (setRow_new _ _ _ _ _ rfl) ?_)
          | (refine wl_loadE (E := EntE) EntOk rfl _ rfl w4.heap.size 0 rfl _ _ _ (entV (mean5 x)) rfl G6.out (own_cells _ _) ?_)
          | (refine wl_storeE (E := EntE) EntOk rfl _ _ rfl (w.heap.size + 1) (entV (mean5 x)) (ent_fits _) rfl rfl _ Y6.out rfl _ rfl ?_))
        refine retE (E := EntE) EntOk rfl rfl (w.heap.size + 1) rfl (entV (mean5 x)) rfl (setRow_heap _ _ _ _ _ _ Y6.out) ?_
        exact ⟨by rw [HME.out], below_setRow B7.out (by omega) _⟩
      | some c =>
        obtain ⟨rfl, u', rfl, hfig⟩ := found_some hfd hfi
        have HME : Hid (entV (meaning x) = (entV (mean5 x)).setIfInBounds 10 (.int .i64 (nth c 0))) := HYE.out c hfi
        obtain ⟨o1, cap1, rfl, hca, hcb⟩ := GSl.slice hfig
        have hn0 := HGP.out c hfi
        obtain ⟨g, off, cur, ty, fr, f0, rfl, hg, hc, hF0⟩ := hfig.at 0 hn0
        have hnf := nth_q hF0
        rw [hnf] at HME
        obtain ⟨n, hn⟩ : ∃ n, n = c.nums.length := ⟨_, rfl⟩
        rw [← hn] at hn0 hca ⊢
        unfold maxLen at hcb
        obtain ⟨W7, hW7⟩ : ∃ W7, W7 = w6.alloc (.cells (claV c (.slice (some ⟨g, off, none⟩) n cap1)) 54) := ⟨_, rfl⟩
        have k2 : (w6.alloc (.cells (claV c (.slice (some ⟨g, off, none⟩) n cap1)) 54)).cell? ⟨w6.heap.size, 2, none⟩ = some (.slice (some ⟨g, off, none⟩) n cap1) := (cla_f (heap_new _ _ _ rfl)).2.2.1
        have cg : (w6.alloc (.cells (claV c (.slice (some ⟨g, off, none⟩) n cap1)) 54)).cell? ⟨g, off, none⟩ = some (.int .i64 f0.n) := by
          rw [cell_of_row _ _ _ _ _ _ (heap_past _ _ _ _ hg)]
          have := hc 0 (by decide)
          rw [show off + 0 * FigE.size + 0 = off by simp] at this
          exact this
        have q1' : (w6.alloc (.cells (claV c (.slice (some ⟨g, off, none⟩) n cap1)) 54)).cell? ⟨w4.heap.size, 10, none⟩ = some (.int .i64 (-1)) := by rw [cell_of_row _ _ _ _ _ _ (heap_past _ _ _ _ g6), HEV.out]; rfl
        have z1 : (w6.alloc (.cells (claV c (.slice (some ⟨g, off, none⟩) n cap1)) 54)).frozen? ⟨w4.heap.size, 10, none⟩ = false := tc_frozen (heap_past _ _ _ _ g6) rfl
        have hp0 : (0 : Int) < (n : Int) := by omega
        have G8 : Hid (((w6.setCell ⟨w4.heap.size, 10, none⟩ (.int .i64 f0.n)).alloc (.cells (claV c (.slice (some ⟨g, off, none⟩) n cap1)) 54)).heap[w4.heap.size]? = some (.cells (entV (meaning x)) 35 (0, 0))) := by show _ = _; rw [HME.out]; exact heap_past _ _ _ _ (tc_row g6 _)
        have Y8 : Hid (((w6.setCell ⟨w4.heap.size, 10, none⟩ (.int .i64 f0.n)).alloc (.cells (claV c (.slice (some ⟨g, off, none⟩) n cap1)) 54)).heap[w.heap.size + 1]? = some (.cells EntE.zero 35 (0, 0))) := heap_past _ _ _ _ ((tc_far (by omega) _).trans y6)
        have B8 : Hid (Below w.heap.size w ((w6.setCell ⟨w4.heap.size, 10, none⟩ (.int .i64 f0.n)).alloc (.cells (claV c (.slice (some ⟨g, off, none⟩) n cap1)) 54))) := (tc_below B6.out (by omega) _ _).alloc (tc_below B6.out (by omega) _ _).size _
        clear hfd hfi g6 y6 hfig hg hc hF0 hnf hn hW7
        go_wp2_with (first
          | (refine wl_storeE (E := ClaE) ClaOk rfl _ _ rfl w6.heap.size (claV c (.slice (some ⟨g, off, none⟩) n cap1)) (cla_fits7 _ _ _ _) rfl rfl _ (heap_new _ _ _ rfl) rfl _ (setRow_new _ _ _ _ _ rfl) ?_)
          | (refine wl_loadE (E := EntE) EntOk rfl _ rfl w4.heap.size 0 rfl _ _ _ (entV (meaning x)) rfl G8.out (own_cells _ _) ?_)
          | (refine wl_storeE (E := EntE) EntOk rfl _ _ rfl (w.heap.size + 1) (entV (meaning x)) (ent_fits _) rfl rfl _ Y8.out rfl _ rfl ?_))
        refine retE (E := EntE) EntOk rfl rfl (w.heap.size + 1) rfl (entV (meaning x)) rfl (setRow_heap _ _ _ _ _ _ Y8.out) ?_
        exact ⟨rfl, below_setRow B8.out (by omega) _⟩
end Go.Proofs.YtfamnloobmdhdaaDoor
