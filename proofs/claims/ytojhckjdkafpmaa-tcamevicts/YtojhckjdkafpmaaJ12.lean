import Derived.Test.YtojhckjdkafpmaaJ11
import Derived.Test.YtojhckjdkafpmaaJ10
namespace Go.Proofs.Ytojhckjdkafpmaa
open Go Go.RowKit
set_option maxRecDepth 20000

theorem TabTo.step {B : Nat} {w w1 w2 : World} {g : Nat} {R : Rm} {S2 : Bks} {v1 v2 v3 u1 u2 u3 : Value} (hk : Kept (footT g v1 v2 v3) w w1) (hf : ∀ k, footT g u1 u2 u3 k → footT g v1 v2 v3 k ∨ w.heap.size ≤ k) (h2 : TabTo B w1 w2 g R S2 u1 u2 u3) : TabTo B w w2 g R S2 v1 v2 v3 := by
  obtain ⟨t1, t2, t3, a1, a2, a3⟩ := h2
  refine ⟨t1, t2, t3, a1, hk.trans a2 hf, fun k hk' => ?_⟩
  rcases a3 k hk' with e | e
  · exact hf k e
  · exact .inr (Nat.le_trans hk.size e)
/-- The first banks have been gone through. -/
def keepK (S : Bks) (a b : Int) (k : Nat) : Bks := ⟨if 1 < k then S.c.filter (keptE a b) else S.c, if 2 < k then S.a.filter (keptE a b) else S.a, if 3 < k then S.p.filter (keptE a b) else S.p⟩
def goneN (S : Bks) (a b : Int) (k : Nat) : Nat := (if 1 < k then (S.c.filter fun x => !(keptE a b x)).length else 0) + (if 2 < k then (S.a.filter fun x => !(keptE a b x)).length else 0) + (if 3 < k then (S.p.filter fun x => !(keptE a b x)).length else 0)
theorem notnot (q : Slt → Bool) (C : List Slt) : (C.filter fun x => !(!(q x))) = C.filter q := by congr 1; funext x; simp
theorem keepK_step (S : Bks) (a b : Int) (k : Nat) (hk : k < 4) : setL (keepK S a b k) k ((bankL (keepK S a b k) k).filter fun x => !(!(keptE a b x))) = keepK S a b (k + 1) ∧ goneN S a b k + ((bankL (keepK S a b k) k).filter fun x => !(keptE a b x)).length = goneN S a b (k + 1) := by
  rw [notnot]
  rcases (show k = 0 ∨ k = 1 ∨ k = 2 ∨ k = 3 by omega) with rfl | rfl | rfl | rfl
  · exact ⟨rfl, rfl⟩
  · exact ⟨rfl, by simp [goneN, bankL, keepK]⟩
  · exact ⟨rfl, by simp [goneN, bankL, keepK]⟩
  · exact ⟨rfl, by simp [goneN, bankL, keepK]⟩
theorem keepK_len {S : Bks} {a b : Int} {k c : Nat} (h : ∀ c, (bankL S c).length ≤ 1000000) : (bankL (keepK S a b k) c).length ≤ 1000000 := by
  have h1 := h 1
  have h2 := h 2
  have h3 := h 3
  unfold bankL at h1 h2 h3 ⊢
  simp only [if_true, if_false, show ¬ (2 : Nat) = 1 by decide, show ¬ (3 : Nat) = 1 by decide, show ¬ (3 : Nat) = 2 by decide] at h1 h2 h3
  unfold keepK
  simp only
  have f : ∀ C : List Slt, (C.filter (keptE a b)).length ≤ C.length := fun C => List.length_filter_le _ _
  have f1 := f S.c
  have f2 := f S.a
  have f3 := f S.p
  split
  · split <;> omega
  · split
    · split <;> omega
    · split
      · split <;> omega
      · simp
theorem TabV.boxes {B : Nat} {w : World} {g : Nat} {R : Rm} {S : Bks} {v1 v2 v3 : Value} (h : TabV B w g R S v1 v2 v3) {q : Nat} {cs : Array Value} {t : TypeId} {fr : Nat × Nat} (hq : w.heap[q]? = some (.cells cs t fr)) (h1 : t ≠ 38) (h2 : t ≠ 72) : ¬ footT g v1 v2 v3 q := by
  rintro (rfl | e | e | e)
  · rw [h.blk] at hq
    simp only [Option.some.injEq, Obj.cells.injEq] at hq
    exact h2 hq.2.1.symm
  · exact h.o1.ty hq h1 e
  · exact h.o2.ty hq h1 e
  · exact h.o3.ty hq h1 e
theorem bank_foot {g : Nat} {v1 v2 v3 : Value} {b k : Nat} (h : rowX (bankV v1 v2 v3 b) k) : footT g v1 v2 v3 k := by
  unfold rowX bankV at h
  split at h
  · exact .inr (.inl h)
  · split at h
    · exact .inr (.inr (.inl h))
    · split at h
      · exact .inr (.inr (.inr h))
      · cases h
set_option maxHeartbeats 8000000 in
theorem keep_any (B : Nat) (w : World) (g : Nat) (R : Rm) (S : Bks) (v1 v2 v3 : Value) (h : TabV B w g R S v1 v2 v3) (a b : Int) (hn : ∀ c, (bankL S c).length ≤ 1000000) :
    Calls Try.prog 35 #[.pointer (some ⟨g, 0, none⟩), .int .i64 a, .int .i64 b] w fun e w' => e = .returned (.int .i64 (goneN S a b 4 : Nat)) ∧ TabTo B w w' g R (keepT S a b) v1 v2 v3 := by
  have B0 : Hid (Below w.heap.size w ((w.alloc (.cells #[.int .i64 a] 3)).alloc (.cells #[.int .i64 b] 3))) := ((Below.refl _ _).alloc (Nat.le_refl _) _).alloc (by simp) _
  have P0 : Hid (((w.alloc (.cells #[.int .i64 a] 3)).alloc (.cells #[.int .i64 b] 3)).heap[w.heap.size]? = some (.cells #[.int .i64 a] 3 (0, 0))) := heap_past _ _ _ _ (heap_new _ _ _ rfl)
  have P1 : Hid (((w.alloc (.cells #[.int .i64 a] 3)).alloc (.cells #[.int .i64 b] 3)).heap[w.heap.size + 1]? = some (.cells #[.int .i64 b] 3 (0, 0))) := heap_new _ _ _ (by simp)
  have DR : Hid (∀ (k : Nat) (W : World) (u1 u2 u3 : Value), k < 4 → TabV B W g R (keepK S a b k) u1 u2 u3 → W.heap[w.heap.size]? = some (.cells #[.int .i64 a] 3 (0, 0)) → W.heap[w.heap.size + 1]? = some (.cells #[.int .i64 b] 3 (0, 0)) → Calls Try.prog 52 #[.pointer (some ⟨g, 0, none⟩), .int .i64 (k : Int), .func (.func 63) #[] #[.pointer (some ⟨w.heap.size, 0, none⟩), .pointer (some ⟨w.heap.size + 1, 0, none⟩)]] W fun e w' => ∃ u, e = .returned u ∧ (∃ o n c, u = .slice o n c ∧ goneN S a b k + n = goneN S a b (k + 1) ∧ n ≤ 1000000) ∧ TabTo B W w' g R (keepK S a b (k + 1)) u1 u2 u3 ∧ w'.heap[w.heap.size]? = some (.cells #[.int .i64 a] 3 (0, 0)) ∧ w'.heap[w.heap.size + 1]? = some (.cells #[.int .i64 b] 3 (0, 0))) := by
    intro k W u1 u2 u3 hk hT hp0 hp1
    obtain ⟨e1, e2⟩ := keepK_step S a b k hk
    have n0 := hT.boxes hp0 (by decide) (by decide)
    have n1 := hT.boxes hp1 (by decide) (by decide)
    refine (drop_any B W g R _ u1 u2 u3 hT k hk (keepK_len hn) 63 #[.pointer (some ⟨w.heap.size, 0, none⟩), .pointer (some ⟨w.heap.size + 1, 0, none⟩)] (fun x => !(keptE a b x)) (fun vs W => by have hf := Try.func63; simp [go_sem]) (fun y W' hW' => ?_)).mono ?_
    · exact keep1_any y a b W' _ _ _ _ (hW'.heap hp0 fun e => n0 (bank_foot e)) (hW'.heap hp1 fun e => n1 (bank_foot e))
    · rintro e w' ⟨u, rfl, hu, ht⟩
      obtain ⟨o, cap, eu, _⟩ := hu.slice
      rw [e1] at ht
      obtain ⟨t1, t2, t3, a1, a2, a3⟩ := ht
      exact ⟨u, rfl, ⟨o, _, cap, eu, e2, Nat.le_trans (List.length_filter_le _ _) (keepK_len hn)⟩, ⟨t1, t2, t3, a1, a2, a3⟩, a2.heap hp0 n0, a2.heap hp1 n1⟩
  have ST : Hid (∃ u1 u2 u3, TabV B ((w.alloc (.cells #[.int .i64 a] 3)).alloc (.cells #[.int .i64 b] 3)) g R (keepK S a b 0) u1 u2 u3 ∧ Kept (footT g v1 v2 v3) w ((w.alloc (.cells #[.int .i64 a] 3)).alloc (.cells #[.int .i64 b] 3)) ∧ ∀ k, footT g u1 u2 u3 k → footT g v1 v2 v3 k ∨ w.heap.size ≤ k) := ⟨v1, v2, v3, h.below B0.out, Kept.of_below B0.out, fun k hk => .inl hk⟩
  have FE : Hid (keepK S a b 4 = keepT S a b) := rfl
  have GN : Hid (∀ k, goneN S a b k ≤ 3000000) := by
    intro k
    have h1 := hn 1
    have h2 := hn 2
    have h3 := hn 3
    have f : ∀ C : List Slt, (C.filter fun x => !(keptE a b x)).length ≤ C.length := fun C => List.length_filter_le _ _
    have f1 := f S.c
    have f2 := f S.a
    have f3 := f S.p
    unfold bankL at h1 h2 h3
    simp only [if_true, if_false, show ¬ (2 : Nat) = 1 by decide, show ¬ (3 : Nat) = 1 by decide, show ¬ (3 : Nat) = 2 by decide] at h1 h2 h3
    unfold goneN
    split <;> split <;> split <;> omega
  clear h hn
  go_enter Try.func35, Try.ntmps35
  go_wp2_with fail
  go_loopw [7, 12] (fun s7 i wr => ∃ k : Nat, k ≤ 4 ∧ i = .int .i64 (k : Int) ∧ s7 = .int .i64 (goneN S a b k : Nat) ∧ Hid (∃ u1 u2 u3, TabV B wr g R (keepK S a b k) u1 u2 u3 ∧ Kept (footT g v1 v2 v3) w wr ∧ ∀ k, footT g u1 u2 u3 k → footT g v1 v2 v3 k ∨ w.heap.size ≤ k) ∧ Hid (wr.heap[w.heap.size]? = some (.cells #[.int .i64 a] 3 (0, 0))) ∧ Hid (wr.heap[w.heap.size + 1]? = some (.cells #[.int .i64 b] 3 (0, 0)))) (fun _ i _ => 4 - (intOf i).toNat)
  case atStart => exact ⟨0, Nat.zero_le _, rfl, rfl, ST, P0, P1⟩
  case round =>
    obtain ⟨k, hk, rfl, rfl, HS, HP0, HP1⟩ := hrel
    by_cases hlt : k < 4
    · have hlt' : (k : Int) < 4 := by omega
      obtain ⟨u1, u2, u3, hT, hK, hF⟩ := HS.out
      have hdr := DR.out k wr u1 u2 u3 hlt hT HP0.out HP1.out
      have HK : Hid (Kept (footT g v1 v2 v3) w wr) := hK
      have HF : Hid (∀ k, footT g u1 u2 u3 k → footT g v1 v2 v3 k ∨ w.heap.size ≤ k) := hF
      have hgn := GN.out k
      clear hT hK hF
      go_wp2_with (go_at_call 52; refine hdr.mono ?_; rintro e w1 ⟨u, rfl, ⟨o, n, c, rfl, hgk, hnn⟩, ht, hp0, hp1⟩; have HT : Hid _ := ht; have Q0 : Hid _ := hp0; have Q1 : Hid _ := hp1; have HG : Hid (goneN S a b k + n = goneN S a b (k + 1)) := hgk; clear ht hp0 hp1 hgk; refine of_stopS ?_)
      unfold StopS
      go_wp2_with fail
      go_roundw
      case rel =>
        refine ⟨k + 1, by omega, by go_num, ?_, ?_, Q0, Q1⟩
        · rw [← HG.out]; go_num
        · exact TabTo.step HK.out HF.out HT.out
      case measure => simp [intOf]; omega
    · have hlt' : ¬ (k : Int) < 4 := by omega
      obtain rfl : k = 4 := by omega
      have HS2 := HS.out
      rw [FE.out] at HS2
      have HS3 : Hid _ := HS2
      clear HS2
      go_wp2_with fail
      go_ret
      exact ⟨rfl, HS3.out⟩
end Go.Proofs.Ytojhckjdkafpmaa
namespace Go.Proofs.Ytojhckjdkafpmaa
open Go Go.RowKit
set_option maxRecDepth 20000

/-- The reference's table: one list of all slots. -/
def rtabV (vl vr : Value) (R : Rm) : Array Value := #[vl, vr, .int .i64 R.idle, .int .i64 R.hard]
def roomV (R : Rm) : Array Value := #[.int .i64 0, .int .i64 R.cache, .int .i64 R.auth, .int .i64 R.part]
structure RTabV (B : Nat) (w : World) (r gr : Nat) (R : Rm) (L : List Slt) (vl : Value) : Prop where
  blk : w.heap[r]? = some (.cells (rtabV vl (.slice (some ⟨gr, 0, none⟩) 4 4) R) 89 (0, 0))
  room : w.heap[gr]? = some (.cells (roomV R) 3 (0, 0))
  own : SlotsAt B w vl L
  hB : B ≤ r
  hR : B ≤ gr
def footR (r gr : Nat) (vl : Value) (k : Nat) : Prop := k = r ∨ k = gr ∨ vl.ownBlock = some k
theorem RTabV.foot_in {B : Nat} {w : World} {r gr : Nat} {R : Rm} {L : List Slt} {vl : Value} (h : RTabV B w r gr R L vl) : ∀ k, footR r gr vl k → B ≤ k ∧ k < w.heap.size := by
  rintro k (rfl | rfl | e)
  · exact ⟨h.hB, (Array.getElem?_eq_some_iff.1 h.blk).1⟩
  · exact ⟨h.hR, (Array.getElem?_eq_some_iff.1 h.room).1⟩
  · exact h.own.lt k e
theorem RTabV.kept {X : Nat → Prop} {B : Nat} {w w' : World} {r gr : Nat} {R : Rm} {L : List Slt} {vl : Value} (h : RTabV B w r gr R L vl) (hk : Kept X w w') (hX : ∀ k, footR r gr vl k → ¬ X k) : RTabV B w' r gr R L vl :=
  ⟨hk.heap h.blk (hX _ (.inl rfl)), hk.heap h.room (hX _ (.inr (.inl rfl))), h.own.kept hk fun k e => hX k (.inr (.inr e)), h.hB, h.hR⟩
theorem RTabV.below {B : Nat} {w w' : World} {r gr : Nat} {R : Rm} {L : List Slt} {vl : Value} (h : RTabV B w r gr R L vl) (hb : Below w.heap.size w w') : RTabV B w' r gr R L vl := h.kept (X := fun _ => False) (Kept.of_below hb) fun _ _ e => e
structure RTabF (w : World) (r gr : Nat) (R : Rm) (vl : Value) : Prop where
  c0 : w.cell? ⟨r, 0, none⟩ = some vl
  c1 : w.cell? ⟨r, 1, none⟩ = some (.slice (some ⟨gr, 0, none⟩) 4 4)
  c2 : w.cell? ⟨r, 2, none⟩ = some (.int .i64 R.idle)
  c3 : w.cell? ⟨r, 3, none⟩ = some (.int .i64 R.hard)
  r1 : w.cell? ⟨gr, 1, none⟩ = some (.int .i64 R.cache)
  r2 : w.cell? ⟨gr, 2, none⟩ = some (.int .i64 R.auth)
  r3 : w.cell? ⟨gr, 3, none⟩ = some (.int .i64 R.part)
  fz : ∀ k, w.frozen? ⟨r, k, none⟩ = false
theorem RTabV.f {B : Nat} {w : World} {r gr : Nat} {R : Rm} {L : List Slt} {vl : Value} (h : RTabV B w r gr R L vl) : RTabF w r gr R vl :=
  ⟨by rw [cell_of_row _ _ _ _ _ _ h.blk]; rfl, by rw [cell_of_row _ _ _ _ _ _ h.blk]; rfl, by rw [cell_of_row _ _ _ _ _ _ h.blk]; rfl, by rw [cell_of_row _ _ _ _ _ _ h.blk]; rfl, by rw [cell_of_row _ _ _ _ _ _ h.room]; rfl, by rw [cell_of_row _ _ _ _ _ _ h.room]; rfl, by rw [cell_of_row _ _ _ _ _ _ h.room]; rfl, fun k => by simp [World.frozen?, h.blk]⟩
def RTabTo (B : Nat) (w w' : World) (r gr : Nat) (R : Rm) (L' : List Slt) (vl : Value) : Prop := ∃ u, RTabV B w' r gr R L' u ∧ Kept (footR r gr vl) w w' ∧ ∀ k, footR r gr u k → footR r gr vl k ∨ w.heap.size ≤ k
set_option maxHeartbeats 8000000 in
theorem rslots_any (B : Nat) (w : World) (r gr : Nat) (R : Rm) (L : List Slt) (vl : Value) (h : RTabV B w r gr R L vl) (b : Int) (hn : L.length ≤ 1000000) :
    Calls Try.prog 38 #[.pointer (some ⟨r, 0, none⟩), .int .i64 b] w fun e w' => (∃ u, e = .returned u ∧ SlotsAt w.heap.size w' u (bkOf L b)) ∧ Below w.heap.size w w' := by
  obtain ⟨o, cap, ev, hc1, hc2⟩ := h.own.slice
  have hl := h.own.sl
  rw [ev] at hl
  obtain ⟨n, hn0⟩ : ∃ n, n = L.length := ⟨_, rfl⟩
  have HN : Hid (n = L.length) := hn0
  have HF : Hid (∀ W, Below w.heap.size w W → W.cell? ⟨r, 0, none⟩ = some (.slice o n cap)) := by intro W hb; have h9 := (h.below hb).f.c0; rw [ev, ← hn0] at h9; exact h9
  rw [← hn0] at hl hc1 hn
  have HL : Hid (GSl SlotE slotV w (.slice o n cap) L) := hl
  unfold maxLen at hc2
  have S0 : Hid (SlotsAt w.heap.size (w.alloc (.cells #[] 38)) (.slice (some ⟨w.heap.size, 0, none⟩) 0 0) []) := slots0 w
  clear hl hn0 h ev
  go_enter Try.func38, Try.ntmps38
  go_wp2_with (first | ((with_reducible refine wl_gE rfl ?_); refine wl_build0S rfl rfl ?_; try rw [sz_alloc]))
  go_loopw [5, 6] (fun s5 i wr => ∃ k : Nat, k ≤ n ∧ i = .int .i64 (k : Int) ∧ Hid (SlotsAt w.heap.size wr s5 (bkOf (L.take k) b)) ∧ Hid (Below w.heap.size w wr)) (fun _ i _ => n - (intOf i).toNat)
  case atStart => exact ⟨0, Nat.zero_le _, rfl, S0.out, (Below.refl _ _).alloc (Nat.le_refl _) _⟩
  case round =>
    obtain ⟨k, hk, rfl, HO, HB⟩ := hrel
    have c0 := HF.out wr HB.out
    by_cases hlt : k < n
    · have hlt' : (k : Int) < (n : Int) := by omega
      obtain ⟨g', off, cur, ty, fr, x, rfl, hg, hcc, hxk⟩ := (GSl.below HL.out HB.out).at k hlt
      have K1 : Hid (wr.heap[g']? = some (.cells cur ty fr)) := hg
      have H1 : Hid (∀ j, j < 36 → cur[off + k * 36 + j]? = (slotV x)[j]?) := hcc
      have HX : Hid (L[k]? = some x) := hxk
      have cb := (slf_of K1.out H1.out).c0
      have ML : Hid ((bkOf (L.take k) b).length ≤ 1000000) := by show _ ≤ _; have := filt_len (l := L) k fun x => x.bank == b; unfold bkOf; omega
      have BW : Hid (Below w.heap.size w (wr.alloc (.cells (slotV x) 38))) := HB.out.alloc HB.out.size _
      have O2 : Hid (SlotsAt w.heap.size (wr.alloc (.cells (slotV x) 38)) u5 (bkOf (L.take k) b)) := HO.out.below ((Below.refl _ _).alloc (Nat.le_refl _) _)
      clear hg hcc hxk
      by_cases he : x.bank = b
      · have HE : Hid ((x.bank == b) = true) := by show _ = _; simpa using he
        go_wp2_with (first | ((with_reducible refine wl_gL _ rfl ?_); refine wl_loadS rfl _ rfl g' (off + k * 36) rfl x (ld_row K1.out H1.out) ?_) | ((with_reducible refine wl_gB _ rfl ?_); refine wl_build1S rfl _ rfl x rfl ?_; try rw [sz_alloc]) | (at_builtin; refine of_stopS ?_))
        unfold StopS
        refine wl_appendS rfl _ _ rfl w.heap.size u5 (bkOf (L.take k) b) x rfl O2.out wr.heap.size 1 rfl (heap_new _ _ _ rfl) ML.out BW.out.size ?_
        intro v' w3 hown3 hgr3 _
        have B3 : Hid (Below w.heap.size w w3) := BW.out.trans ((Below.refl _ _).grown hgr3 BW.out.size fun k hk => (O2.out.lt k hk).1)
        have O3 : Hid (SlotsAt w.heap.size w3 v' (bkOf (L.take (k + 1)) b)) := by show SlotsAt _ _ _ _; unfold bkOf at hown3 ⊢; rw [filt_yes HX.out HE.out]; exact hown3
        clear hown3 hgr3
        simp only [Act.put, List.setIfInBounds_toArray, List.set_cons_succ, List.set_cons_zero]
        go_wp2_with fail
        go_roundw
        case rel => exact ⟨k + 1, by omega, by go_num, O3, B3⟩
        case measure => simp [intOf]; omega
      · have HE : Hid ((x.bank == b) = false) := by show _ = _; simpa using he
        go_wp2_with fail
        go_roundw
        case rel =>
          refine ⟨k + 1, by omega, by go_num, ?_, HB⟩
          show SlotsAt _ _ _ _
          unfold bkOf
          rw [filt_no HX.out HE.out]
          exact HO.out
        case measure => simp [intOf]; omega
    · have hlt' : ¬ (k : Int) < (n : Int) := by omega
      have hkn : k = n := by omega
      have EL : Hid (SlotsAt w.heap.size wr u5 (bkOf L b)) := by
        have := HO.out
        rw [hkn, HN.out, List.take_length] at this
        exact this
      clear HO hkn
      go_wp2_with fail
      go_ret
      exact ⟨⟨_, rfl, EL.out⟩, HB.out⟩
end Go.Proofs.Ytojhckjdkafpmaa
namespace Go.Proofs.Ytojhckjdkafpmaa
open Go Go.RowKit
set_option maxRecDepth 20000

theorem RTabV.put {B : Nat} {w w' : World} {r gr : Nat} {R : Rm} {L L' : List Slt} {vl u : Value} (h : RTabV B w r gr R L vl) (hb : Below w.heap.size w w') (hu : SlotsAt w.heap.size w' u L') : RTabTo B w (w'.setCell ⟨r, 0, none⟩ u) r gr R L' vl := by
  have h' := h.below hb
  have hrs := (Array.getElem?_eq_some_iff.1 h.blk).1
  have hB : B ≤ w.heap.size := by have := h.hB; omega
  have hK : Kept (isB r) w' (w'.setCell ⟨r, 0, none⟩ u) := ⟨rfl, rfl, rfl, by simp [World.setCell], fun k _ e => heap_setCell_other w' ⟨r, 0, none⟩ k _ e⟩
  have hgr : ¬ isB r gr := fun e => by
    unfold isB at e
    subst e
    have h1 := h.room
    rw [h.blk] at h1
    simp only [Option.some.injEq, Obj.cells.injEq] at h1
    exact absurd h1.2.1 (by decide)
  refine ⟨u, ⟨heap_setCell_same w' r 0 _ _ u h'.blk, hK.heap h'.room hgr, (hu.base hB).kept hK fun k e e' => ?_, h.hB, h.hR⟩, (Kept.of_below hb).trans hK fun k e => .inl (.inl e), fun k hk => ?_⟩
  · have h1 := (hu.lt k e).1
    unfold isB at e'
    omega
  · rcases hk with e | e | e
    · exact .inl (.inl e)
    · exact .inl (.inr (.inl e))
    · exact .inr (hu.lt k e).1
set_option maxHeartbeats 8000000 in
theorem rkeep_any (B : Nat) (w : World) (r gr : Nat) (R : Rm) (L : List Slt) (vl : Value) (h : RTabV B w r gr R L vl) (a b : Int) (hn : L.length ≤ 1000000) :
    Calls Try.prog 36 #[.pointer (some ⟨r, 0, none⟩), .int .i64 a, .int .i64 b] w fun e w' => e = .returned (.int .i64 ((L.length : Int) - ((L.filter (keptE a b)).length : Nat))) ∧ RTabTo B w w' r gr R (L.filter (keptE a b)) vl := by
  obtain ⟨o, cap, ev, hc1, hc2⟩ := h.own.slice
  have hl := h.own.sl
  rw [ev] at hl
  obtain ⟨n, hn0⟩ : ∃ n, n = L.length := ⟨_, rfl⟩
  have HN : Hid (n = L.length) := hn0
  have HF : Hid (∀ W, Below w.heap.size w W → W.cell? ⟨r, 0, none⟩ = some (.slice o n cap) ∧ W.frozen? ⟨r, 0, none⟩ = false) := by intro W hb; have h9 := (h.below hb).f; have h8 := h9.c0; rw [ev, ← hn0] at h8; exact ⟨h8, h9.fz 0⟩
  have FT : Hid (∀ w' u, Below w.heap.size w w' → SlotsAt w.heap.size w' u (L.filter (keptE a b)) → RTabTo B w (w'.setCell ⟨r, 0, none⟩ u) r gr R (L.filter (keptE a b)) vl) := by
    intro w' u hb hu
    exact h.put hb hu
  rw [← hn0] at hl hc1 hn ⊢
  have HL : Hid (GSl SlotE slotV w (.slice o n cap) L) := hl
  unfold maxLen at hc2
  have S0 : Hid (SlotsAt w.heap.size (w.alloc (.cells #[] 38)) (.slice (some ⟨w.heap.size, 0, none⟩) 0 0) []) := slots0 w
  clear hl hn0 h ev
  go_enter Try.func36, Try.ntmps36
  go_wp2_with (first | ((with_reducible refine wl_gE rfl ?_); refine wl_build0S rfl rfl ?_; try rw [sz_alloc]))
  go_loopw [7, 8] (fun s5 i wr => ∃ k : Nat, k ≤ n ∧ i = .int .i64 (k : Int) ∧ Hid (SlotsAt w.heap.size wr s5 ((L.take k).filter (keptE a b))) ∧ Hid (Below w.heap.size w wr)) (fun _ i _ => n - (intOf i).toNat)
  case atStart => exact ⟨0, Nat.zero_le _, rfl, S0.out, (Below.refl _ _).alloc (Nat.le_refl _) _⟩
  case round =>
    obtain ⟨k, hk, rfl, HO, HB⟩ := hrel
    have c0 := (HF.out wr HB.out).1
    by_cases hlt : k < n
    · have hlt' : (k : Int) < (n : Int) := by omega
      obtain ⟨g', off, cur, ty, fr, x, rfl, hg, hcc, hxk⟩ := (GSl.below HL.out HB.out).at k hlt
      have K1 : Hid (wr.heap[g']? = some (.cells cur ty fr)) := hg
      have H1 : Hid (∀ j, j < 36 → cur[off + k * 36 + j]? = (slotV x)[j]?) := hcc
      have HX : Hid (L[k]? = some x) := hxk
      have cb := (slf_of K1.out H1.out).c1
      have ML : Hid (((L.take k).filter (keptE a b)).length ≤ 1000000) := by show _ ≤ _; have := filt_len (l := L) k (keptE a b); omega
      have BW : Hid (Below w.heap.size w (wr.alloc (.cells (slotV x) 38))) := HB.out.alloc HB.out.size _
      have O2 : Hid (SlotsAt w.heap.size (wr.alloc (.cells (slotV x) 38)) u7 ((L.take k).filter (keptE a b))) := HO.out.below ((Below.refl _ _).alloc (Nat.le_refl _) _)
      have HK : Hid (keptE a b x = ((x.epoch == a) || (x.epoch == b))) := rfl
      clear hg hcc hxk
      obtain ⟨xe, hxe⟩ : ∃ xe, xe = x.epoch := ⟨_, rfl⟩
      rw [← hxe] at HK cb
      clear hxe
      by_cases he1 : xe = a
      · have HE : Hid (keptE a b x = true) := by show _ = _; rw [HK.out]; simp [he1]
        subst he1
        go_wp2_with (first | ((with_reducible refine wl_gL _ rfl ?_); refine wl_loadS rfl _ rfl g' (off + k * 36) rfl x (ld_row K1.out H1.out) ?_) | ((with_reducible refine wl_gB _ rfl ?_); refine wl_build1S rfl _ rfl x rfl ?_; try rw [sz_alloc]) | (at_builtin; refine of_stopS ?_))
        unfold StopS
        refine wl_appendS rfl _ _ rfl w.heap.size u7 ((L.take k).filter (keptE xe b)) x rfl O2.out wr.heap.size 1 rfl (heap_new _ _ _ rfl) ML.out BW.out.size ?_
        intro v' w3 hown3 hgr3 _
        have B3 : Hid (Below w.heap.size w w3) := BW.out.trans ((Below.refl _ _).grown hgr3 BW.out.size fun k hk => (O2.out.lt k hk).1)
        have O3 : Hid (SlotsAt w.heap.size w3 v' ((L.take (k + 1)).filter (keptE xe b))) := by show SlotsAt _ _ _ _; rw [filt_yes HX.out HE.out]; exact hown3
        clear hown3 hgr3
        simp only [Act.put, List.setIfInBounds_toArray, List.set_cons_succ, List.set_cons_zero]
        go_wp2_with fail
        go_roundw
        case rel => exact ⟨k + 1, by omega, by go_num, O3, B3⟩
        case measure => simp [intOf]; omega
      · by_cases he2 : xe = b
        · have HE : Hid (keptE a b x = true) := by show _ = _; rw [HK.out]; simp [he2]
          subst he2
          go_wp2_with (first | ((with_reducible refine wl_gL _ rfl ?_); refine wl_loadS rfl _ rfl g' (off + k * 36) rfl x (ld_row K1.out H1.out) ?_) | ((with_reducible refine wl_gB _ rfl ?_); refine wl_build1S rfl _ rfl x rfl ?_; try rw [sz_alloc]) | (at_builtin; refine of_stopS ?_))
          unfold StopS
          refine wl_appendS rfl _ _ rfl w.heap.size u7 ((L.take k).filter (keptE a xe)) x rfl O2.out wr.heap.size 1 rfl (heap_new _ _ _ rfl) ML.out BW.out.size ?_
          intro v' w3 hown3 hgr3 _
          have B3 : Hid (Below w.heap.size w w3) := BW.out.trans ((Below.refl _ _).grown hgr3 BW.out.size fun k hk => (O2.out.lt k hk).1)
          have O3 : Hid (SlotsAt w.heap.size w3 v' ((L.take (k + 1)).filter (keptE a xe))) := by show SlotsAt _ _ _ _; rw [filt_yes HX.out HE.out]; exact hown3
          clear hown3 hgr3
          simp only [Act.put, List.setIfInBounds_toArray, List.set_cons_succ, List.set_cons_zero]
          go_wp2_with fail
          go_roundw
          case rel => exact ⟨k + 1, by omega, by go_num, O3, B3⟩
          case measure => simp [intOf]; omega
        · have HE : Hid (keptE a b x = false) := by show _ = _; rw [HK.out]; simp [he1, he2]
          have hd1 : (xe == a) = false := by simpa using he1
          have hd2 : (xe == b) = false := by simpa using he2
          go_wp2_with fail
          go_roundw
          case rel =>
            refine ⟨k + 1, by omega, by go_num, ?_, HB⟩
            show SlotsAt _ _ _ _
            rw [filt_no HX.out HE.out]
            exact HO.out
          case measure => simp [intOf]; omega
    · have hlt' : ¬ (k : Int) < (n : Int) := by omega
      have hkn : k = n := by omega
      have EL : Hid (SlotsAt w.heap.size wr u7 (L.filter (keptE a b))) := by
        have := HO.out
        rw [hkn, HN.out, List.take_length] at this
        exact this
      obtain ⟨o7, cap7, e7, _, _⟩ := EL.out.slice
      have FX : Hid _ := FT.out wr u7 HB.out EL.out
      have f0 := (HF.out wr HB.out).2
      have ML : (L.filter (keptE a b)).length ≤ 1000000 := by have := List.length_filter_le (keptE a b) L; have := HN.out; omega
      rw [e7] at FX
      clear HO hkn EL
      subst e7
      obtain ⟨m, hm⟩ : ∃ m, m = (L.filter (keptE a b)).length := ⟨_, rfl⟩
      have HM : Hid (m = (L.filter (keptE a b)).length) := hm
      rw [← hm] at FX ML ⊢
      clear hm
      go_wp2_with fail
      go_ret
      exact ⟨by rw [← HM.out]; first | rfl | simp, FX.out⟩
end Go.Proofs.Ytojhckjdkafpmaa
namespace Go.Proofs.Ytojhckjdkafpmaa
open Go Go.RowKit
set_option maxRecDepth 20000

theorem Calls.later_sameT {P : Program} {f : FuncId} {args : Array Value} {W : World} {u : Later W} {v : Value}
    (h : Calls P f args u.world fun e w' => e = .returned v ∧ w' = u.world) : Calls P f args u.world fun e w'' => e = .returned v ∧ ∃ u' : Later W, w'' = u'.world :=
  h.mono fun _ _ ⟨he, hb⟩ => ⟨he, u, hb⟩

set_option maxHeartbeats 400000 in
def overB (n top : Int) : Bool := decide (top ≠ 0) && decide (top ≤ n)
/-- Too old, as the machine reckons it. -/
def oldW (idle hard nw : Int) (x : Slt) : Bool := overB (wrap64 (nw - x.used)) idle || overB (wrap64 (nw - x.born)) hard
theorem oldW_eq {idle hard now : Int} {x : Slt} (h1 : 0 ≤ x.used) (h2 : x.used ≤ MAXT) (h3 : 0 ≤ x.born) (h4 : x.born ≤ MAXT) : oldW idle hard (timeT now) x = oldS idle hard now x := by
  have ht := timeT_in now
  unfold MAXT at h2 h4 ht
  unfold oldW oldS overB
  have e1 : wrap64 (timeT now - x.used) = timeT now - x.used := by unfold wrap64; omega
  have e2 : wrap64 (timeT now - x.born) = timeT now - x.born := by unfold wrap64; omega
  rw [e1, e2]
set_option maxHeartbeats 8000000 in
theorem tick1_any (x : Slt) (nw : Int) (w : World) (p q g : Nat) (R : Rm) (v1 v2 v3 : Value) (tp tq : TypeId) (hp : w.heap[p]? = some (.cells #[.int .i64 nw] tp (0, 0))) (hq : w.heap[q]? = some (.cells #[.pointer (some ⟨g, 0, none⟩)] tq (0, 0))) (hg : w.heap[g]? = some (.cells (tabV R v1 v2 v3) 72 (0, 0))) :
    Calls Try.prog 53 #[.agg (slotV x), .pointer (some ⟨p, 0, none⟩), .pointer (some ⟨q, 0, none⟩)] w fun r w' => r = .returned (.bool (oldW R.idle R.hard nw x)) ∧ Below w.heap.size w w' := by
  have c1 := (new_slf w x 38).c34
  have c2 := (new_slf w x 38).c33
  have c3 : (w.alloc (.cells (slotV x) 38)).cell? ⟨p, 0, none⟩ = some (.int .i64 nw) := by rw [cell_of_row _ _ _ _ _ _ (heap_past w (.cells (slotV x) 38) _ _ hp)]; rfl
  have c4 : (w.alloc (.cells (slotV x) 38)).cell? ⟨q, 0, none⟩ = some (.pointer (some ⟨g, 0, none⟩)) := by rw [cell_of_row _ _ _ _ _ _ (heap_past w (.cells (slotV x) 38) _ _ hq)]; rfl
  have hf := tabf_of (heap_past w (.cells (slotV x) 38) _ _ hg)
  have c5 := hf.c8
  have c6 := hf.c9
  have OV : Hid (∀ n top W, Calls Try.prog 54 #[.int .i64 n, .int .i64 top] W fun e w' => e = .returned (.bool (overB n top)) ∧ w' = W) := over_any
  have BW : Hid (∀ nq, Below w.heap.size w ((w.alloc (.cells (slotV x) 38)).drewN nq)) := fun nq => below_step ((Below.refl _ _).alloc (Nat.le_refl _) _) (by simp) (below_drewT _ _)
  have HR : Hid (oldW R.idle R.hard nw x = (overB (wrap64 (nw - x.used)) R.idle || overB (wrap64 (nw - x.born)) R.hard)) := rfl
  rw [HR.out]
  have hb0 := heap_new w (.cells (slotV x) 38) _ rfl
  have d1 : ∀ u : Later (w.alloc (.cells (slotV x) 38)), u.world.cell? ⟨w.heap.size, 34, none⟩ = some (.int .i64 x.used) := fun u => by have := (later_slf hb0 (new_slf w x 38) u).c34; rw [Nat.zero_add] at this; exact this
  have d2 : ∀ u : Later (w.alloc (.cells (slotV x) 38)), u.world.cell? ⟨w.heap.size, 33, none⟩ = some (.int .i64 x.born) := fun u => by have := (later_slf hb0 (new_slf w x 38) u).c33; rw [Nat.zero_add] at this; exact this
  have d3 := later_cell (W := w.alloc (.cells (slotV x) 38)) (k := 0) (v := .int .i64 nw) (heap_past w (.cells (slotV x) 38) _ _ hp) rfl
  have d4 := later_cell (W := w.alloc (.cells (slotV x) 38)) (k := 0) (v := .pointer (some ⟨g, 0, none⟩)) (heap_past w (.cells (slotV x) 38) _ _ hq) rfl
  have d5 := later_cell (W := w.alloc (.cells (slotV x) 38)) (k := 8) (v := .int .i64 R.idle) (heap_past w (.cells (slotV x) 38) _ _ hg) rfl
  have d6 := later_cell (W := w.alloc (.cells (slotV x) 38)) (k := 9) (v := .int .i64 R.hard) (heap_past w (.cells (slotV x) 38) _ _ hg) rfl
  clear HR hp hq hg hf c1 c2 c3 c4 c5 c6 hb0 BW
  generalize x.used = a1 at d1 ⊢
  generalize x.born = a2 at d2 ⊢
  generalize R.idle = i1 at d5 ⊢
  generalize R.hard = i2 at d6 ⊢
  have ne1 := Later.ne (w.alloc (.cells (slotV x) 38))
  rcases Bool.eq_false_or_eq_true (overB (wrap64 (nw - a1)) i1) with h1 | h1
  · have H1 : Hid (overB (wrap64 (nw - a1)) i1 = true) := h1
    have O1 : Hid (∀ W, Calls Try.prog 54 #[.int .i64 (wrap64 (nw - a1)), .int .i64 i1] W fun e w' => e = .returned (.bool true) ∧ w' = W) := by intro W; have h2 := OV.out (wrap64 (nw - a1)) i1 W; rw [h1] at h2; exact h2
    clear h1
    go_enter Try.func53, Try.ntmps53
    go_wp2_with fail
    refine wp_region_later (by kernel_rfl) (by kernel_rfl) ?_
    go_big_quiet_step (rfl)
    go_big_quiet_step (rfl)
    go_big_quiet_step (rfl)
    go_big_quiet_step (rfl)
    go_big_quiet_step (rfl)
    refine q_nilT rfl _ rfl _ rfl ?_
    simp only [Act.put, List.setIfInBounds_toArray, List.set_cons_succ, List.set_cons_zero]
    go_big_quiet_step (rfl)
    go_big_quiet_step (rfl)
    go_big_quiet_want; go_big_quiet_op
    refine ⟨_, fun u => Calls.later_sameT (O1.out u.world), ?_⟩
    go_big_quiet_on
    go_big_quiet_step (rfl)
    go_big_quiet_step (rfl)
    go_big_quiet_step (rfl)
    go_big_quiet_step (rfl)
    go_big_quiet_step (rfl)
    go_big_quiet_step (rfl)
    go_big_quiet_step (rfl)
    go_big_quiet_step (rfl)
    go_big_quiet_step (rfl)
    go_big_quiet_step (rfl)
    go_big_quiet_step (rfl)
    go_big_quiet_step (rfl)
    refine wpQuiet_nil ?_
    rintro w' ⟨u, rfl⟩
    go_wp2_with fail
    go_ret
    exact ⟨by rw [H1.out]; simp, below_step ((Below.refl _ _).alloc (Nat.le_refl _) _) (by simp) u.below⟩
  · have H1 : Hid (overB (wrap64 (nw - a1)) i1 = false) := h1
    have O1 : Hid (∀ W, Calls Try.prog 54 #[.int .i64 (wrap64 (nw - a1)), .int .i64 i1] W fun e w' => e = .returned (.bool false) ∧ w' = W) := by intro W; have h2 := OV.out (wrap64 (nw - a1)) i1 W; rw [h1] at h2; exact h2
    clear h1
    go_enter Try.func53, Try.ntmps53
    go_wp2_with fail
    refine wp_region_later (by kernel_rfl) (by kernel_rfl) ?_
    go_big_quiet_step (rfl)
    go_big_quiet_step (rfl)
    go_big_quiet_step (rfl)
    go_big_quiet_step (rfl)
    go_big_quiet_step (rfl)
    refine q_nilT rfl _ rfl _ rfl ?_
    simp only [Act.put, List.setIfInBounds_toArray, List.set_cons_succ, List.set_cons_zero]
    go_big_quiet_step (rfl)
    go_big_quiet_step (rfl)
    go_big_quiet_want; go_big_quiet_op
    refine ⟨_, fun u => Calls.later_sameT (O1.out u.world), ?_⟩
    go_big_quiet_on
    go_big_quiet_step (rfl)
    go_big_quiet_step (rfl)
    go_big_quiet_step (rfl)
    go_big_quiet_step (rfl)
    go_big_quiet_step (rfl)
    go_big_quiet_step (rfl)
    refine q_nilT rfl _ rfl _ rfl ?_
    simp only [Act.put, List.setIfInBounds_toArray, List.set_cons_succ, List.set_cons_zero]
    go_big_quiet_step (rfl)
    go_big_quiet_step (rfl)
    go_big_quiet_want; go_big_quiet_op
    refine ⟨_, fun u => Calls.later_sameT (OV.out _ _ u.world), ?_⟩
    go_big_quiet_on
    go_big_quiet_step (rfl)
    go_big_quiet_step (rfl)
    refine wpQuiet_nil ?_
    rintro w' ⟨u, rfl⟩
    go_wp2_with fail
    go_ret
    exact ⟨by rw [H1.out]; simp, below_step ((Below.refl _ _).alloc (Nat.le_refl _) _) (by simp) u.below⟩
set_option maxHeartbeats 8000000 in
theorem tick_any (B : Nat) (w : World) (g : Nat) (R : Rm) (S : Bks) (v1 v2 v3 : Value) (h : TabV B w g R S v1 v2 v3) (now : Int) (hn : S.c.length ≤ 1000000) (hok : ∀ x ∈ S.c, 0 ≤ x.used ∧ x.used ≤ MAXT ∧ 0 ≤ x.born ∧ x.born ≤ MAXT) :
    Calls Try.prog 24 #[.pointer (some ⟨g, 0, none⟩), .int .i64 now] w fun e w' => ∃ u, e = .returned u ∧ SlotsAt w.heap.size w' u (tickT R.idle R.hard now S).2 ∧ TabTo B w w' g R (tickT R.idle R.hard now S).1 v1 v2 v3 := by
  have TI : Hid (∀ W, Calls Try.prog 46 #[.int .i64 now] W fun r w' => r = .returned (.int .i64 (timeT now)) ∧ w' = W) := ticks_any now
  have DR : Hid (∀ W, Below w.heap.size w W → W.heap[w.heap.size]? = some (.cells #[.pointer (some ⟨g, 0, none⟩)] 26 (0, 0)) → W.heap[w.heap.size + 1]? = some (.cells #[.int .i64 (timeT now)] 3 (0, 0)) → Calls Try.prog 52 #[.pointer (some ⟨g, 0, none⟩), .int .i64 1, .func (.func 53) #[] #[.pointer (some ⟨w.heap.size + 1, 0, none⟩), .pointer (some ⟨w.heap.size, 0, none⟩)]] W fun e w' => ∃ u, e = .returned u ∧ SlotsAt w.heap.size w' u (tickT R.idle R.hard now S).2 ∧ TabTo B w w' g R (tickT R.idle R.hard now S).1 v1 v2 v3) := by
    intro W hb hp0 hp1
    have hT := h.below hb
    have n0 := hT.boxes hp0 (by decide) (by decide)
    have n1 := hT.boxes hp1 (by decide) (by decide)
    have cong : ∀ q : Bool → Bool, S.c.filter (fun x => q (oldW R.idle R.hard (timeT now) x)) = S.c.filter (fun x => q (oldS R.idle R.hard now x)) := fun q => by
      apply List.filter_congr
      intro x hx
      obtain ⟨h1, h2, h3, h4⟩ := hok x hx
      rw [oldW_eq h1 h2 h3 h4]
    refine (drop_any B W g R S v1 v2 v3 hT 1 (by decide) hn 53 #[.pointer (some ⟨w.heap.size + 1, 0, none⟩), .pointer (some ⟨w.heap.size, 0, none⟩)] (oldW R.idle R.hard (timeT now)) (fun vs W => by have hf := Try.func53; simp [go_sem]) (fun y W' hW' => ?_)).mono ?_
    · exact tick1_any y (timeT now) W' _ _ g R v1 v2 v3 _ _ (hW'.heap hp1 fun e => n1 (bank_foot e)) (hW'.heap hp0 fun e => n0 (bank_foot e)) (hW'.heap hT.blk ((hT.bank 1).ty hT.blk (by decide)))
    · rintro e w' ⟨u, rfl, hu, ht⟩
      refine ⟨u, rfl, ?_, ?_⟩
      · have e1 : S.c.filter (oldW R.idle R.hard (timeT now)) = S.c.filter (oldS R.idle R.hard now) := cong id
        have : bankL S 1 = S.c := rfl
        rw [this, e1] at hu
        exact hu.base hb.size
      · have e1 : S.c.filter (fun x => !(oldW R.idle R.hard (timeT now) x)) = S.c.filter (fun x => !(oldS R.idle R.hard now x)) := cong (fun b => !b)
        have : bankL S 1 = S.c := rfl
        rw [this, e1] at ht
        obtain ⟨t1, t2, t3, a1, a2, a3⟩ := ht
        exact ⟨t1, t2, t3, a1, Kept.pre hb a2, fun k hk => by
          rcases a3 k hk with e | e
          · exact .inl e
          · exact .inr (Nat.le_trans hb.size e)⟩
  have Bx : Hid (∀ z : Int, Below w.heap.size w ((w.alloc (.cells #[.pointer (some ⟨g, 0, none⟩)] 26)).alloc (.cells #[.int .i64 z] 3))) := fun z => ((Below.refl _ _).alloc (Nat.le_refl _) _).alloc (by simp) _
  clear h hn hok
  have c0 : ∀ z : Int, ((w.alloc (.cells #[.pointer (some ⟨g, 0, none⟩)] 26)).alloc (.cells #[.int .i64 z] 3)).cell? ⟨w.heap.size, 0, none⟩ = some (.pointer (some ⟨g, 0, none⟩)) := fun z => by rw [cell_of_row _ _ _ _ _ _ (heap_past _ _ _ _ (heap_new w _ _ rfl))]; rfl
  go_enter Try.func24, Try.ntmps24
  go_wp2_with (first | (go_at_call 46; refine (TI.out _).mono ?_; rintro r w2 ⟨rfl, rfl⟩) | (go_at_call 52; refine of_stopS ?_))
  unfold StopS
  refine (DR.out _ (Bx.out _) (heap_past _ _ _ _ (heap_new _ _ _ rfl)) (heap_new _ _ _ (by simp))).mono ?_
  rintro e w3 ⟨u, rfl, hu, ht⟩
  have HU : Hid _ := hu
  have HT : Hid _ := ht
  clear hu ht
  go_wp2_with fail
  go_ret
  exact ⟨_, rfl, HU.out, HT.out⟩
end Go.Proofs.Ytojhckjdkafpmaa
