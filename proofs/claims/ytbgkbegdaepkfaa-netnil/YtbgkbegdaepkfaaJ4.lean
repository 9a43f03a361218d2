import Derived.Test.YtbgkbegdaepkfaaJ3
import Derived.Test.YtbgkbegdaepkfaaJ1
import Derived.Test.YtbgkbegdaepkfaaJ2
import Derived.OrdersHeld
namespace Go.Proofs.Ytbgkbegdaepkfaa
open Go Go.RowKit
set_option maxRecDepth 20000

theorem place_row {n : NetM} {f t i : Int} {j : Nat} (h : placeL n f t i = some j) : ∃ x, n.row[j]? = some x := by
  unfold placeL at h
  split at h
  · obtain ⟨x, h1, _⟩ := place_some h
    exact ⟨x, h1⟩
  · cases h
theorem peek_at {n : NetM} {f t i : Int} {j : Nat} {x : LetM} (hl : isL n f t = true) (h : placeL n f t i = some j) (hx : n.row[j]? = some x) : peekN n f t i = (x.data, 0) ∧ takeN n f t i = ({ n with row := n.row.eraseIdx j }, x.data, 0) := by
  unfold peekN takeN
  rw [if_pos hl, if_pos hl, h]
  simp only [hx, Option.map_some, Option.getD_some]
  exact ⟨by trivial, by trivial⟩
theorem peek_none {n : NetM} {f t i : Int} (hl : isL n f t = true) (h : placeL n f t i = none) : peekN n f t i = ([], 14) ∧ takeN n f t i = (n, [], 14) := by
  unfold peekN takeN
  rw [if_pos hl, if_pos hl, h]
  exact ⟨rfl, rfl⟩
set_option maxHeartbeats 4000000 in
theorem rpeek_any (B : Nat) (w : World) (r : Nat) (n : NetM) (v : Value) (h : RNetV B w r n v) (hn : n.row.length ≤ 1000000) (f t i : Int) :
    Calls Try.prog 23 #[.pointer (some ⟨r, 0, none⟩), .int .i64 f, .int .i64 t, .int .i64 i] w fun e w' => e = .returned (.tuple #[.string ⟨(peekN n f t i).1.toArray⟩, .int .i64 (peekN n f t i).2]) ∧ w' = w := by
  have HI := ris_any w r n h.f.c0 f t
  have HP := rplace_any B w r n v h hn f t i
  cases hl : isL n f t with
  | false =>
    rw [hl] at HI
    rw [(peek_arg hl).1]
    clear HP hl h hn
    go_enter Try.func23, Try.ntmps23
    go_wp2_with (go_at_call 27; refine HI.mono ?_; rintro e w1 ⟨rfl, h1⟩; subst h1)
    go_ret2
    exact ⟨rfl, rfl⟩
  | true =>
    rw [hl] at HI
    cases hp : placeL n f t i with
    | none =>
      rw [hp, show plI none = -1 from rfl] at HP
      rw [(peek_none hl hp).1]
      have HP' : Hid (∀ W, W = w → Calls Try.prog 28 #[.pointer (some ⟨r, 0, none⟩), .int .i64 f, .int .i64 t, .int .i64 i] W fun e w' => e = .returned (.int .i64 (-1)) ∧ w' = W) := fun W hW => by rw [hW]; exact HP
      clear HP hp hl h hn
      go_enter Try.func23, Try.ntmps23
      go_wp2_with (first
        | (go_at_call 27; refine HI.mono ?_; rintro e w1 ⟨rfl, h1⟩; subst h1)
        | (go_at_call 28; refine (HP'.out _ rfl).mono ?_; rintro e w2 ⟨rfl, h2⟩; subst h2))
      go_ret2
      exact ⟨rfl, rfl⟩
    | some j =>
      rw [hp, show plI (some j) = (j : Int) from rfl] at HP
      obtain ⟨x, hx⟩ := place_row hp
      rw [(peek_at hl hp hx).1]
      have HP' : Hid (∀ W, W = w → Calls Try.prog 28 #[.pointer (some ⟨r, 0, none⟩), .int .i64 f, .int .i64 t, .int .i64 i] W fun e w' => e = .returned (.int .i64 (j : Int)) ∧ w' = W) := fun W hW => by rw [hW]; exact HP
      have c2 := h.f.c2
      obtain ⟨o, cap, hv, hc1, hc2⟩ := h.own.slice
      have hgs := h.own.sl
      have hj : j < n.row.length := (List.getElem?_eq_some_iff.1 hx).1
      rw [hv] at c2 hgs
      obtain ⟨q, hq⟩ : ∃ q, q = n.row.length := ⟨_, rfl⟩
      rw [← hq] at c2 hgs hn hj
      obtain ⟨g', off, cur, ty, fr, y, rfl, hg, hcc, hy0⟩ := hgs.at j hj
      obtain rfl : y = x := by rw [hx] at hy0; simpa using hy0.symm
      have f2 := (rlf_of (off := off + j * 3) hg hcc).c2
      have hj' : (j : Int) < (q : Int) := by omega
      have hj0 : ¬ (j : Int) < 0 := by omega
      obtain ⟨s, hs⟩ : ∃ s : ByteArray, s = ⟨y.data.toArray⟩ := ⟨_, rfl⟩
      dsimp only
      rw [← hs] at f2 ⊢
      clear HP hp hl h hn hx hc1 hc2 hv hgs hq hg hcc hy0 hs hj
      go_enter Try.func23, Try.ntmps23
      go_wp2_with (first
        | (go_at_call 27; refine HI.mono ?_; rintro e w1 ⟨rfl, h1⟩; subst h1)
        | (go_at_call 28; refine (HP'.out _ rfl).mono ?_; rintro e w2 ⟨rfl, h2⟩; subst h2))
      go_ret2
      exact ⟨rfl, rfl⟩
set_option maxHeartbeats 8000000 in
theorem rsend_any (B : Nat) (w : World) (r : Nat) (n : NetM) (v : Value) (h : RNetV B w r n v) (hn : n.row.length ≤ 900000) (f t : Int) (s : ByteArray) :
    Calls Try.prog 20 #[.pointer (some ⟨r, 0, none⟩), .int .i64 f, .int .i64 t, .string s] w fun e w' => e = .returned (.int .i64 (sendN n f t s.data.toList).2) ∧ RNetTo B w w' r (sendN n f t s.data.toList).1 v := by
  have HI := ris_any w r n h.f.c0 f t
  have HV : Hid (RNetV B w r n v) := h
  cases hl : isL n f t with
  | false =>
    rw [hl] at HI
    rw [send_arg hl]
    clear hl h hn
    go_enter Try.func20, Try.ntmps20
    go_wp2_with (go_at_call 27; refine HI.mono ?_; rintro e w1 ⟨rfl, h1⟩; subst h1)
    go_ret
    exact ⟨rfl, HV.out.stay (Below.refl _ _)⟩
  | true =>
    rw [hl] at HI
    have HC : Hid (∀ k, Calls Try.prog 15 #[.pointer (some ⟨r, 0, none⟩), .int .i64 f, .int .i64 t] (w.drewN k) fun e w' => e = .returned (.int .i64 (countL n f t : Int)) ∧ w' = w.drewN k) := fun k =>
      rcount_any B (w.drewN k) r n v (h.below (below_drewN (Below.refl _ _) _)) (by omega) f t
    have c1 : ∀ k, (w.drewN k).cell? ⟨r, 1, none⟩ = some (.int .i64 n.room) := fun k => (h.below (w' := w.drewN k) (below_drewN (Below.refl _ _) _)).f.c1
    have c10 := h.f.c1
    by_cases hfull : n.room ≤ (countL n f t : Int)
    · rw [send_full hl (by unfold countL at hfull; exact hfull)]
      obtain ⟨q, hq⟩ : ∃ q, q = countL n f t := ⟨_, rfl⟩
      obtain ⟨m, hm⟩ : ∃ m, m = n.room := ⟨_, rfl⟩
      rw [← hq] at HC hfull
      rw [← hm] at c1 c10 hfull
      clear hm hq hl h hn
      go_enter Try.func20, Try.ntmps20
      go_wp2_with (go_at_call 27; refine HI.mono ?_; rintro e w1 ⟨rfl, h1⟩; subst h1)
      go_quiet (first | (go_at_call 15; exact Calls.quiet_of_same (HC.out _)))
      go_wp2_with fail
      go_ret
      exact ⟨rfl, HV.out.stay (below_drewN (Below.refl _ _) _)⟩
    · rw [send_yes hl (by unfold countL at hfull; exact hfull)]
      have c2 : ∀ k, (w.drewN k).cell? ⟨r, 2, none⟩ = some v := fun k => (h.below (w' := w.drewN k) (below_drewN (Below.refl _ _) _)).f.c2
      obtain ⟨o, cap, hv, hc1, hc2⟩ := h.own.slice
      obtain ⟨c, hc⟩ : ∃ c : LetM, c = ⟨f, t, s.data.toList, n.last + 1⟩ := ⟨_, rfl⟩
      have hcV : rletV c = #[.int .i64 f, .int .i64 t, .string s] := by rw [hc]; rfl
      have HR : Hid ((putNt n f t s.data.toList).row = n.row ++ [c]) := by show _ = _; rw [hc]; rfl
      have HO : Hid (∀ k, RowAt B ((w.drewN k).alloc (.cells (rletV c) 47)) v n.row ∧ B ≤ ((w.drewN k).alloc (.cells (rletV c) 47)).heap.size) := fun k => by
        have := h.below (w' := (w.drewN k).alloc (.cells (rletV c) 47)) ((below_drewN (Below.refl _ _) _).alloc (Nat.le_refl _) _)
        exact ⟨this.own, this.hw⟩
      have HX : Hid (∀ k W' u, RowAt B W' u (n.row ++ [c]) → ((w.drewN k).alloc (.cells (rletV c) 47)).grownBy W' v.ownBlock → (u.ownBlock = v.ownBlock ∨ u.ownBlock = some ((w.drewN k).alloc (.cells (rletV c) 47)).heap.size) → W'.cell? ⟨r, 2, none⟩ = some v ∧ W'.frozen? ⟨r, 2, none⟩ = false ∧ RNetTo B w (W'.setCell ⟨r, 2, none⟩ u) r (putNt n f t s.data.toList) v) := fun k W' u hu hgr hq => by
        have hb : Below w.heap.size w ((w.drewN k).alloc (.cells (rletV c) 47)) := (below_drewN (Below.refl _ _) _).alloc (Nat.le_refl _) _
        have hW := h.below hb
        have hk : Kept (rowX v) ((w.drewN k).alloc (.cells (rletV c) 47)) W' := Kept.of_grown hgr fun k e => e
        have hgx : ¬ rowX v r := own_ty hW.own hW.blk (by decide)
        have hf := rnetf_of (hk.heap hW.blk hgx)
        refine ⟨hf.c2, hf.fz _, RNetTo.pre hb (hW.put (n' := putNt n f t s.data.toList) hk (by rw [HR.out]; exact hu) ?_ rfl rfl)⟩
        rcases hq with e | e
        · exact .inl e
        · exact .inr fun k e' => by rw [e] at e'; have := Option.some.inj e'; omega
      have HSL : Hid (∀ W' u, RowAt B W' u (n.row ++ [c]) → ∃ o q c, u = .slice o q c) := fun W' u hu => by
        obtain ⟨o, cap, e, _⟩ := hu.slice
        exact ⟨o, _, cap, e⟩
      have HN : Hid (n.row.length ≤ 1000000) := by show _ ≤ _; omega
      obtain ⟨q, hq⟩ : ∃ q, q = countL n f t := ⟨_, rfl⟩
      obtain ⟨m, hm⟩ : ∃ m, m = n.room := ⟨_, rfl⟩
      obtain ⟨l, hlq⟩ : ∃ l, l = n.row.length := ⟨_, rfl⟩
      rw [hcV] at HO HX
      rw [← hq] at HC hfull
      rw [← hm] at c1 c10 hfull
      rw [← hlq] at hv
      clear hm hq hl h hn hlq hc hc1 hc2
      subst hv
      go_enter Try.func20, Try.ntmps20
      go_wp2_with (go_at_call 27; refine HI.mono ?_; rintro e w1 ⟨rfl, h1⟩; subst h1)
      go_quiet (first | (go_at_call 15; exact Calls.quiet_of_same (HC.out _)))
      go_wp2_with (first
        | (refine wl_buildE (E := RLetE) RLetOk rfl _ rfl (rletV c) rfl (by rw [hcV]; rfl) ?_)
        | (at_builtin; refine of_stopT ?_))
      unfold StopT
      refine wl_appendE (E := RLetE) RLetOk rletV rfl _ _ rfl B (.slice o l cap) n.row c (rlet_fits c) rfl (HO.out _).1 _ 1 rfl (by rw [hcV]; exact heap_new _ _ _ rfl) HN.out (HO.out _).2 ?_
      intro u0 w3 q1 q2 q3
      obtain ⟨o2, n2, p2, rfl⟩ := HSL.out w3 u0 q1
      obtain ⟨f1, f2, f3⟩ := HX.out _ w3 _ q1 q2 q3
      have F3 : Hid _ := f3
      clear q1 q2 q3 f3
      simp only [Act.put, List.setIfInBounds_toArray, List.set_cons_succ, List.set_cons_zero]
      go_wp2_with fail
      go_ret
      exact ⟨rfl, F3.out⟩
set_option maxHeartbeats 8000000 in
theorem rtwice_any (B : Nat) (w : World) (r : Nat) (n : NetM) (v : Value) (h : RNetV B w r n v) (hn : n.row.length ≤ 900000) (f t i : Int) :
    Calls Try.prog 22 #[.pointer (some ⟨r, 0, none⟩), .int .i64 f, .int .i64 t, .int .i64 i] w fun e w' => e = .returned (.int .i64 (twiceN n f t i).2) ∧ RNetTo B w w' r (twiceN n f t i).1 v := by
  have HP := rpeek_any B w r n v h (by omega) f t i
  have HV : Hid (RNetV B w r n v) := h
  have HS : Hid (∀ W, W = w → Calls Try.prog 20 #[.pointer (some ⟨r, 0, none⟩), .int .i64 f, .int .i64 t, .string ⟨(peekN n f t i).1.toArray⟩] W fun e w' => e = .returned (.int .i64 (sendN n f t (peekN n f t i).1).2) ∧ RNetTo B W w' r (sendN n f t (peekN n f t i).1).1 v) := fun W hW => by
    subst hW
    exact rsend_any B W r n v h hn f t ⟨(peekN n f t i).1.toArray⟩
  have HE : Hid (twiceN n f t i = if (peekN n f t i).2 = 0 then sendN n f t (peekN n f t i).1 else (n, (peekN n f t i).2)) := rfl
  obtain ⟨c, hc⟩ : ∃ c, c = (peekN n f t i).2 := ⟨_, rfl⟩
  obtain ⟨s, hs⟩ : ∃ s : ByteArray, s = ⟨(peekN n f t i).1.toArray⟩ := ⟨_, rfl⟩
  rw [← hc, ← hs] at HP
  rw [← hs] at HS
  rw [← hc] at HE
  rw [HE.out]
  clear hc hs h hn HE
  by_cases h0 : c = 0
  · rw [if_pos h0]
    subst h0
    obtain ⟨y, hy⟩ : ∃ y, y = (sendN n f t (peekN n f t i).1) := ⟨_, rfl⟩
    rw [← hy]
    rw [← hy] at HS
    clear hy
    go_enter Try.func22, Try.ntmps22
    go_wp2_with (first
      | (go_at_call 23; refine HP.mono ?_; rintro e w1 ⟨rfl, h1⟩; subst h1)
      | (go_at_call 20; refine (HS.out _ rfl).mono ?_; rintro e w2 ⟨rfl, hb2⟩))
    go_ret
    exact ⟨rfl, hb2⟩
  · rw [if_neg h0]
    have h0' : (c != 0) = true := by simpa using h0
    go_enter Try.func22, Try.ntmps22
    go_wp2_with (go_at_call 23; refine HP.mono ?_; rintro e w1 ⟨rfl, h1⟩; subst h1)
    go_ret
    exact ⟨rfl, HV.out.stay (Below.refl _ _)⟩
end Go.Proofs.Ytbgkbegdaepkfaa
namespace Go.Proofs.Ytbgkbegdaepkfaa
open Go Go.RowKit
set_option maxRecDepth 20000

/-- An empty slice of structs. -/
theorem wl_build0N {ops : Array Oper} {rest : List Oper} {o : Oper} {a : Act} {w : World} {Q : Exit → Act → World → Prop} {E : El} (H : E.Ok) (hg : o.guard = none) (ho : o.op = .buildSlice E.slice 0 #[])
    (h : wpList Try.prog ops Q rest (a.put o.dst (.slice (some ⟨w.heap.size, 0, none⟩) 0 0)) (w.alloc (.cells #[] E.elem))) : wpList Try.prog ops Q (o :: rest) a w := by
  obtain ⟨ie, hie, hz, hs, _⟩ := H.info
  refine wpList_plain hg fun _ hK => ?_
  unfold Oper.wp execOp
  have hrun : (Instr.buildSlice E.slice 0 #[]).run Try.prog w = .ok (.slice (some ⟨w.heap.size, 0, none⟩) 0 0) (w.alloc (.cells #[] E.elem)) := by
    have h0 : Array.range 0 = #[] := Array.eq_empty_of_size_eq_zero (by simp)
    simp [Instr.buildSlice, run_underlying H.hs, sizeOf, typeInfo, hie, Instr.fill, newRow, h0]
  simp only [ho, Sem.run_bind, List.map_toArray, List.map_nil, hrun, Result.andThen_ok]
  exact hK _ _ h
theorem own0N (w : World) (e : TypeId) (s : Nat) : (w.alloc (.cells #[] e)).ownsRow w.heap.size e s (.slice (some ⟨w.heap.size, 0, none⟩) 0 0) 0 [] := ⟨by simp, .inr ⟨_, 0, #[], rfl, Nat.le_refl _, heap_new _ _ _ rfl, Nat.le_refl _, Nat.zero_le _, by simp, by simp⟩⟩
theorem erase_same {l : List LetM} {k : Nat} {x : LetM} (h : l[k]? = some x) : (l.take (k + 1)).eraseIdx k = (l.take k).eraseIdx k := by
  have hk : k < l.length := (List.getElem?_eq_some_iff.1 h).1
  have hl : (l.take k).length = k := by rw [List.length_take]; omega
  rw [List.take_add_one, h]
  show (l.take k ++ [x]).eraseIdx k = _
  rw [List.eraseIdx_append_of_length_le (by omega), hl, Nat.sub_self, List.eraseIdx_of_length_le (l := l.take k) (by omega)]
  exact List.append_nil _
theorem erase_more {l : List LetM} {k j : Nat} {x : LetM} (h : l[k]? = some x) (hj : k ≠ j) : (l.take (k + 1)).eraseIdx j = (l.take k).eraseIdx j ++ [x] := by
  have hk : k < l.length := (List.getElem?_eq_some_iff.1 h).1
  have hl : (l.take k).length = k := by rw [List.length_take]; omega
  rw [List.take_add_one, h]
  show (l.take k ++ [x]).eraseIdx j = _
  by_cases hlt : j < k
  · rw [List.eraseIdx_append_of_lt_length (by omega)]
  · rw [List.eraseIdx_append_of_length_le (by omega), hl, List.eraseIdx_of_length_le (l := l.take k) (by omega), List.eraseIdx_of_length_le (by simp; omega)]
set_option maxHeartbeats 8000000 in
theorem rtake_any (B : Nat) (w : World) (r : Nat) (n : NetM) (v : Value) (h : RNetV B w r n v) (hn : n.row.length ≤ 900000) (f t i : Int) :
    Calls Try.prog 21 #[.pointer (some ⟨r, 0, none⟩), .int .i64 f, .int .i64 t, .int .i64 i] w fun e w' => e = .returned (.tuple #[.string ⟨(takeN n f t i).2.1.toArray⟩, .int .i64 (takeN n f t i).2.2]) ∧ RNetTo B w w' r (takeN n f t i).1 v := by
  have HP := rpeek_any B w r n v h (by omega) f t i
  have HV : Hid (RNetV B w r n v) := h
  by_cases h0 : ∃ c : Int, c ≠ 0 ∧ peekN n f t i = ([], c) ∧ takeN n f t i = (n, [], c)
  · obtain ⟨c, hc, h1, h2⟩ := h0
    rw [h1] at HP
    rw [h2]
    have hc' : (c != 0) = true := by simpa using hc
    clear h1 h2 h hn
    go_enter Try.func21, Try.ntmps21
    go_wp2_with (go_at_call 23; refine HP.mono ?_; rintro e w1 ⟨rfl, h1⟩; subst h1)
    go_ret2
    exact ⟨rfl, HV.out.stay (Below.refl _ _)⟩
  · have hl : isL n f t = true := by
      cases hl : isL n f t with
      | true => rfl
      | false => exact absurd ⟨1, by decide, (peek_arg hl).1, (peek_arg hl).2⟩ h0
    obtain ⟨j, hj⟩ : ∃ j, placeL n f t i = some j := by
      cases hp : placeL n f t i with
      | some j => exact ⟨j, rfl⟩
      | none => exact absurd ⟨14, by decide, (peek_none hl hp).1, (peek_none hl hp).2⟩ h0
    clear h0
    obtain ⟨x, hx⟩ := place_row hj
    obtain ⟨e1, e2⟩ := peek_at hl hj hx
    rw [e1] at HP
    rw [e2]
    have HPL : Hid (∀ W, W = w → Calls Try.prog 28 #[.pointer (some ⟨r, 0, none⟩), .int .i64 f, .int .i64 t, .int .i64 i] W fun e w' => e = .returned (.int .i64 (j : Int)) ∧ w' = W) := fun W hW => by
      subst hW
      have := rplace_any B W r n v h (by omega) f t i
      rw [hj] at this
      exact this
    obtain ⟨s, hs⟩ : ∃ s : ByteArray, s = ⟨x.data.toArray⟩ := ⟨_, rfl⟩
    dsimp only at HP ⊢
    rw [← hs] at HP ⊢
    obtain ⟨o, cap, hv, hc1, hc2⟩ := h.own.slice
    have HF : Hid (∀ W, Below w.heap.size w W → W.cell? ⟨r, 2, none⟩ = some v ∧ GSl RLetE rletV W v n.row) := fun W hb => ⟨(h.below hb).f.c2, (h.below hb).own.sl⟩
    have HX : Hid (∀ W u, Below w.heap.size w W → RowAt w.heap.size W u (n.row.eraseIdx j) → W.frozen? ⟨r, 2, none⟩ = false ∧ RNetTo B w (W.setCell ⟨r, 2, none⟩ u) r { n with row := n.row.eraseIdx j } v) := fun W u hb hu =>
      ⟨(h.below hb).f.fz _, h.put (n' := { n with row := n.row.eraseIdx j }) (Kept.of_below hb) (gown_base hu h.hw) (.inr fun k e => (hu.lt k e).1) rfl rfl⟩
    obtain ⟨q, hq⟩ : ∃ q, q = n.row.length := ⟨_, rfl⟩
    have HQ : Hid (q = n.row.length) := hq
    rw [← hq] at hv hn
    unfold maxLen at hc2
    have hjq : (j : Int) ≤ 900000 := by have := (List.getElem?_eq_some_iff.1 hx).1; omega
    obtain ⟨C, hC⟩ : ∃ C, C = n.row := ⟨_, rfl⟩
    rw [← hC] at HF HX HQ
    have HT : Hid ({ n with row := n.row.eraseIdx j } = { n with row := C.eraseIdx j }) := by show _ = _; rw [hC]
    rw [HT.out]
    clear HT hC e1 e2 hx hj hl h hs hq hc1
    subst hv
    go_enter Try.func21, Try.ntmps21
    go_wp2_with (first
      | (go_at_call 23; refine HP.mono ?_; rintro e w1 ⟨rfl, h1⟩; subst h1)
      | (go_at_call 28; refine (HPL.out _ rfl).mono ?_; rintro e w2 ⟨rfl, h2⟩; subst h2)
      | (refine wl_build0N (E := RLetE) RLetOk rfl rfl ?_))
    go_loopw [13, 14] (fun s13 s14 wr => ∃ (k : Nat) (T : List LetM), k ≤ q ∧ s14 = .int .i64 (k : Int) ∧ Hid (T = (C.take k).eraseIdx j) ∧ T.length ≤ k ∧ RowAt w2.heap.size wr s13 T ∧ Below w2.heap.size w2 wr) (fun _ s14 _ => q - (intOf s14).toNat)
    case atStart => exact ⟨0, [], Nat.zero_le _, rfl, by show _ = _; simp, Nat.le_refl _, own0N _ _ _, (Below.refl _ _).alloc (Nat.le_refl _) _⟩
    case round =>
      obtain ⟨k, T, hk, rfl, HT, hTk, hown, hb⟩ := hrel
      have HO : Hid (RowAt w2.heap.size wr u13 T) := hown
      have HB : Hid (Below w2.heap.size w2 wr) := hb
      obtain ⟨c2, hgs⟩ := HF.out wr hb
      obtain ⟨o3, cap3, e3, _, _⟩ := hown.slice
      obtain ⟨q3, hq3⟩ : ∃ q3, q3 = T.length := ⟨_, rfl⟩
      rw [← hq3] at e3
      clear hown hb hq3
      by_cases hlt : k < q
      · have hlt' : (k : Int) < (q : Int) := by omega
        obtain ⟨g', off, cur, ty, fr, y, rfl, hg, hcc, hyk⟩ := hgs.at k hlt
        have KG : Hid (wr.heap[g']? = some (.cells cur ty fr)) := hg
        have H1 : Hid (∀ a, a < 3 → cur[off + k * 3 + a]? = (rletV y)[a]?) := hcc
        have HY : Hid (C[k]? = some y) := hyk
        clear hg hcc hyk hgs
        by_cases hkj : k = j
        · have hkj' : ((k : Int) != (j : Int)) = false := by simp [hkj]
          have HE : Hid (T = (C.take (k + 1)).eraseIdx j) := by
            show _ = _
            rw [HT.out, ← hkj]
            exact (erase_same HY.out).symm
          clear hkj
          subst e3
          go_wp2_with fail
          go_roundw
          case rel => exact ⟨k + 1, T, by omega, by go_num, HE, by omega, HO.out, HB.out⟩
          case measure => simp [intOf]; omega
        · have hkj' : ((k : Int) != (j : Int)) = true := by simp; omega
          have HE : Hid (T ++ [y] = (C.take (k + 1)).eraseIdx j) := by
            show _ = _
            rw [HT.out]
            exact (erase_more HY.out hkj).symm
          have ON2 : Hid (RowAt w2.heap.size (wr.alloc (.cells (rletV y) 47)) (.slice o3 q3 cap3) T) := by rw [← e3]; exact HO.out.alloc _
          clear hkj
          subst e3
          go_wp2_with (first
            | (refine wl_loadE (E := RLetE) RLetOk rfl _ rfl g' (off + k * 3) rfl cur ty fr (rletV y) rfl KG.out H1.out ?_)
            | (refine wl_buildE (E := RLetE) RLetOk rfl _ rfl (rletV y) rfl rfl ?_)
            | (at_builtin; refine of_stopT ?_))
          unfold StopT
          refine wl_appendE (E := RLetE) RLetOk rletV rfl _ _ rfl w2.heap.size (.slice o3 q3 cap3) T y (rlet_fits y) rfl ON2.out wr.heap.size 1 rfl (heap_new _ _ _ rfl) (by omega) (by have := HB.out.size; simp; omega) ?_
          intro v' w3 hown3 hgr3 _
          have B3 : Hid (Below w2.heap.size w2 w3) := (HB.out.alloc HB.out.size _).trans ((Below.refl _ _).grown hgr3 (HB.out.alloc HB.out.size _).size fun k hk => (ON2.out.lt k hk).1)
          have O3 : Hid (RowAt w2.heap.size w3 v' (T ++ [y])) := hown3
          clear hown3 hgr3
          simp only [Act.put, List.setIfInBounds_toArray, List.set_cons_succ, List.set_cons_zero]
          go_wp2_with fail
          go_roundw
          case rel => exact ⟨k + 1, T ++ [y], by omega, by go_num, HE, by simp; omega, O3.out, B3.out⟩
          case measure => simp [intOf]; omega
      · have hlt' : ¬ (k : Int) < (q : Int) := by omega
        have HE : Hid (T = C.eraseIdx j) := by
          have e := HQ.out
          show _ = _
          rw [HT.out, List.take_of_length_le (by omega)]
        obtain ⟨z1, z2⟩ := HX.out wr u13 HB.out (by rw [← HE.out]; exact HO.out)
        have Z2 : Hid _ := z2
        clear z2 hgs
        subst e3
        go_wp2_with fail
        go_ret2
        exact ⟨rfl, Z2.out⟩
end Go.Proofs.Ytbgkbegdaepkfaa
namespace Go.Proofs.Ytbgkbegdaepkfaa
open Go Go.RowKit
set_option maxRecDepth 20000

/-! The net and the reference's, side by side. -/
structure TwM (B : Nat) (w : World) (g r : Nat) (n m : NetM) (vs : List Value) (v : Value) : Prop where
  o : NetV B w g n vs
  f : RNetV B w r m v
  ap : ∀ k, footN g vs k → ¬ footRN r v k
def footTw (g r : Nat) (vs : List Value) (v : Value) : Nat → Prop := orF (footN g vs) (footRN r v)
def TwTo (B : Nat) (w w' : World) (g r : Nat) (n m : NetM) (vs : List Value) (v : Value) : Prop := ∃ us u, TwM B w' g r n m us u ∧ Frm (footTw g r vs v) (footTw g r us u) w w'
theorem TwM.below {B : Nat} {w w' : World} {g r : Nat} {n m : NetM} {vs : List Value} {v : Value} (h : TwM B w g r n m vs v) (hb : Below w.heap.size w w') : TwM B w' g r n m vs v := ⟨h.o.below hb, h.f.below hb, h.ap⟩
theorem TwM.stay {B : Nat} {w w' : World} {g r : Nat} {n m : NetM} {vs : List Value} {v : Value} (h : TwM B w g r n m vs v) (hb : Below w.heap.size w w') : TwTo B w w' g r n m vs v := ⟨vs, v, h.below hb, Frm.of_below hb⟩
theorem TwM.foot {B : Nat} {w : World} {g r : Nat} {n m : NetM} {vs : List Value} {v : Value} (h : TwM B w g r n m vs v) : ∀ k, footTw g r vs v k → B ≤ k ∧ k < w.heap.size := by
  rintro k (e | e)
  · exact h.o.foot_in k e
  · exact h.f.foot_in k e
theorem TwM.own {B : Nat} {w w' : World} {g r : Nat} {n m n' : NetM} {vs : List Value} {v : Value} (h : TwM B w g r n m vs v) (ht : NetTo B w w' g n' vs) : TwTo B w w' g r n' m vs v := by
  obtain ⟨us, h1, h2, h3⟩ := ht
  have hF : Frm (footN g vs) (footN g us) w w' := ⟨h2, h3⟩
  exact ⟨us, v, ⟨h1, h.f.kept h2 fun k e e' => h.ap k e' e, hF.apart (fun k e => (h.f.foot_in k e).2) h.ap⟩, hF.left _⟩
theorem TwM.ref {B : Nat} {w w' : World} {g r : Nat} {n m m' : NetM} {vs : List Value} {v : Value} (h : TwM B w g r n m vs v) (ht : RNetTo B w w' r m' v) : TwTo B w w' g r n m' vs v := by
  obtain ⟨u, h1, h2, h3⟩ := ht
  have hF : Frm (footRN r v) (footRN r u) w w' := ⟨h2, h3⟩
  exact ⟨vs, u, ⟨h.o.kept h2 fun k e e' => h.ap k e e', h1, fun k e e' => hF.apart (G := footN g vs) (fun k e => (h.o.foot_in k e).2) (fun k e e' => h.ap k e' e) k e' e⟩, hF.right _⟩
theorem TwTo.trans {B : Nat} {w w1 w2 : World} {g r : Nat} {n m n' m' : NetM} {vs : List Value} {v : Value} (h : TwTo B w w1 g r n m vs v) (h' : ∀ us u, TwM B w1 g r n m us u → TwTo B w1 w2 g r n' m' us u) : TwTo B w w2 g r n' m' vs v := by
  obtain ⟨us, u, h1, h2⟩ := h
  obtain ⟨xs, x, h3, h4⟩ := h' us u h1
  exact ⟨xs, x, h3, h2.trans h4⟩
theorem TwTo.add {B : Nat} {w w1 w2 : World} {g r : Nat} {n m : NetM} {vs : List Value} {v : Value} (h : TwTo B w w1 g r n m vs v) (hb : Below w1.heap.size w1 w2) : TwTo B w w2 g r n m vs v := h.trans fun _ _ e => e.stay hb
theorem TwTo.pre {B : Nat} {w w1 w2 : World} {g r : Nat} {n m : NetM} {vs : List Value} {v : Value} (hb : Below w.heap.size w w1) (h : TwTo B w1 w2 g r n m vs v) : TwTo B w w2 g r n m vs v := by
  obtain ⟨us, u, h1, h2⟩ := h
  exact ⟨us, u, h1, h2.pre hb⟩
theorem TwTo.heap {B : Nat} {w w' : World} {g r : Nat} {n m : NetM} {vs : List Value} {v : Value} (h : TwTo B w w' g r n m vs v) {k : Nat} {o : Obj} (hk : w.heap[k]? = some o) (hF : ¬ footTw g r vs v k) : w'.heap[k]? = some o := by
  obtain ⟨us, u, _, h2⟩ := h
  exact h2.heap hk hF

/-! Calls. -/
structure ActN where
  kind : Int
  src : Int
  dst : Int
  pl : Int
  data : ByteArray
def actN (x : ActN) : Array Value := #[.int .i64 x.kind, .int .i64 x.src, .int .i64 x.dst, .int .i64 x.pl, .string x.data]
def stepN (n : NetM) (x : ActN) : NetM := if x.kind = 1 then (sendN n x.src x.dst x.data.data.toList).1 else if x.kind = 2 then (takeN n x.src x.dst x.pl).1 else if x.kind = 3 then (twiceN n x.src x.dst x.pl).1 else n
def OkActN (x : ActN) : Prop := x.data.size ≤ 281474976710656
theorem step_in {n : NetM} (h : NetIn n) {x : ActN} (hx : OkActN x) : NetIn (stepN n x) := by
  unfold stepN
  split
  · exact send_in h _ _ (by rw [Array.length_toList]; exact hx)
  · split
    · exact take_in h _ _ _
    · split
      · exact twice_in h _ _ _
      · exact h
theorem send_last (n : NetM) (f t : Int) (s : List UInt8) : (sendN n f t s).1.last ≤ n.last + 1 := by
  unfold sendN
  split
  · split
    · exact Nat.le_succ _
    · exact Nat.le_refl _
  · exact Nat.le_succ _
theorem take_last (n : NetM) (f t i : Int) : (takeN n f t i).1.last = n.last := by
  unfold takeN
  split
  · split <;> rfl
  · rfl
theorem step_last (n : NetM) (x : ActN) : (stepN n x).last ≤ n.last + 1 := by
  unfold stepN
  split
  · exact send_last _ _ _ _
  · split
    · rw [take_last]; exact Nat.le_succ _
    · split
      · unfold twiceN
        split
        · exact send_last _ _ _ _
        · exact Nat.le_succ _
      · exact Nat.le_succ _
theorem step_rest (n : NetM) (x : ActN) : restL (stepN n x) x.src x.dst = restL n x.src x.dst := by
  unfold stepN
  split
  · exact send_rest _ _ _ _
  · split
    · exact take_rest _ _ _ _
    · split
      · exact twice_rest _ _ _ _
      · rfl
theorem count_out {n : NetM} (h : NetIn n) {f t : Int} (hl : isL n f t = false) : countL n f t = 0 := by
  unfold countL linkL
  rw [List.length_eq_zero_iff, List.filter_eq_nil_iff]
  intro x hx e
  have := h.ok.src x hx
  unfold onL at e
  simp only [Bool.and_eq_true, beq_iff_eq] at e
  rw [e.1, e.2, hl] at this
  cases this
theorem count_both {n : NetM} (h : NetIn n) (f t : Int) : (if isL n f t then countL n f t else 0) = countL n f t := by
  cases hl : isL n f t with
  | true => rfl
  | false => rw [count_out h hl]; rfl
/-- A call's fields. -/
structure ActF (w : World) (p off : Nat) (x : ActN) : Prop where
  c0 : w.cell? ⟨p, off, none⟩ = some (.int .i64 x.kind)
  c1 : w.cell? ⟨p, off + 1, none⟩ = some (.int .i64 x.src)
  c2 : w.cell? ⟨p, off + 2, none⟩ = some (.int .i64 x.dst)
  c3 : w.cell? ⟨p, off + 3, none⟩ = some (.int .i64 x.pl)
  c4 : w.cell? ⟨p, off + 4, none⟩ = some (.string x.data)
theorem actfn_of {w : World} {p off : Nat} {cur : Array Value} {ty : TypeId} {fr : Nat × Nat} {x : ActN} (hg : w.heap[p]? = some (.cells cur ty fr)) (hc : ∀ j, j < 5 → cur[off + j]? = (actN x)[j]?) : ActF w p off x :=
  ⟨by rw [cell_of_row w p off cur ty fr hg]; exact hc 0 (by decide), by rw [cell_of_row w p (off + 1) cur ty fr hg]; exact hc 1 (by decide), by rw [cell_of_row w p (off + 2) cur ty fr hg]; exact hc 2 (by decide), by rw [cell_of_row w p (off + 3) cur ty fr hg]; exact hc 3 (by decide), by rw [cell_of_row w p (off + 4) cur ty fr hg]; exact hc 4 (by decide)⟩
end Go.Proofs.Ytbgkbegdaepkfaa
namespace Go.Proofs.Ytbgkbegdaepkfaa
open Go Go.RowKit
set_option maxRecDepth 20000

/-! The links one behind the other. -/
def idxN (x : LetM) : Int := x.src * 7 + x.dst
def lowN (l : List LetM) (k : Nat) : List LetM := l.filter fun x => decide (idxN x < (k : Int))
/-- A letter between addresses that may be. -/
def InL7 (x : LetM) : Prop := 0 ≤ x.src ∧ x.src ≤ 6 ∧ 0 ≤ x.dst ∧ x.dst ≤ 6
theorem in7 {n : NetM} (h : NetIn n) : ∀ x ∈ n.row, InL7 x := fun x hx => by
  have h1 := h.ok.src x hx
  have h2 := h.n6
  unfold isL at h1
  simp only [Bool.and_eq_true, decide_eq_true_eq] at h1
  exact ⟨h1.1.1.1, by omega, h1.1.2, by omega⟩
theorem on_idx {x : LetM} (h : InL7 x) (k : Nat) : onL ((k / 7 : Nat) : Int) ((k % 7 : Nat) : Int) x = decide (idxN x = (k : Int)) := by
  obtain ⟨h1, h2, h3, h4⟩ := h
  unfold onL idxN
  rw [Bool.eq_iff_iff]
  simp only [Bool.and_eq_true, beq_iff_eq, decide_eq_true_eq]
  omega
theorem low_len : ∀ (l : List LetM), (∀ x ∈ l, InL7 x) → ∀ k : Nat, (lowN l (k + 1)).length = (lowN l k).length + (l.filter (onL ((k / 7 : Nat) : Int) ((k % 7 : Nat) : Int))).length
  | [], _, _ => rfl
  | x :: l, h, k => by
    have ih := low_len l (fun y hy => h y (List.mem_cons_of_mem _ hy)) k
    have hx := on_idx (h x List.mem_cons_self) k
    unfold lowN at ih ⊢
    by_cases h1 : idxN x < (k : Int)
    · rw [List.filter_cons_of_pos (by simp; omega), List.filter_cons_of_pos (by simpa using h1), List.filter_cons_of_neg (by rw [hx]; simp; omega), List.length_cons, List.length_cons, ih]; omega
    · by_cases h2 : idxN x = (k : Int)
      · rw [List.filter_cons_of_pos (by simp; omega), List.filter_cons_of_neg (by simpa using h1), List.filter_cons_of_pos (by rw [hx]; simpa using h2), List.length_cons, List.length_cons, ih]; omega
      · rw [List.filter_cons_of_neg (by simp; omega), List.filter_cons_of_neg (by simpa using h1), List.filter_cons_of_neg (by rw [hx]; simpa using h2), ih]
theorem low_all {l : List LetM} (h : ∀ x ∈ l, InL7 x) : lowN l 49 = l := by
  unfold lowN
  rw [List.filter_eq_self]
  intro x hx
  obtain ⟨h1, h2, h3, h4⟩ := h x hx
  unfold idxN
  simp only [decide_eq_true_eq]
  omega
theorem low_zero {l : List LetM} (h : ∀ x ∈ l, InL7 x) : lowN l 0 = [] := by
  unfold lowN
  rw [List.filter_eq_nil_iff]
  intro x hx
  obtain ⟨h1, h2, h3, h4⟩ := h x hx
  unfold idxN
  simp only [decide_eq_true_eq]
  omega
/-- The older of two. -/
def elder (a b : Option LetM) : Option LetM := match a, b with | none, b => b | a, none => a | some x, some y => if y.no < x.no then some y else some x
theorem low_head : ∀ (l : List LetM), (∀ x ∈ l, InL7 x) → l.Pairwise (fun x y => x.no < y.no) → ∀ k : Nat, (lowN l (k + 1)).head? = elder (lowN l k).head? (l.filter (onL ((k / 7 : Nat) : Int) ((k % 7 : Nat) : Int))).head?
  | [], _, _, _ => rfl
  | x :: l, h, hp, k => by
    rw [List.pairwise_cons] at hp
    have ih := low_head l (fun y hy => h y (List.mem_cons_of_mem _ hy)) hp.2 k
    have hx := on_idx (h x List.mem_cons_self) k
    have more : ∀ (q : LetM → Bool) y, (l.filter q).head? = some y → x.no < y.no := fun q y hy => hp.1 y (List.mem_filter.1 (List.mem_of_mem_head? hy)).1
    unfold lowN at ih ⊢
    by_cases h1 : idxN x < (k : Int)
    · rw [List.filter_cons_of_pos (by simp; omega), List.filter_cons_of_pos (by simpa using h1), List.filter_cons_of_neg (by rw [hx]; simp; omega), List.head?_cons, List.head?_cons]
      cases hy : (l.filter (onL ((k / 7 : Nat) : Int) ((k % 7 : Nat) : Int))).head? with
      | none => rfl
      | some y =>
        have := more _ y hy
        show some x = if y.no < x.no then some y else some x
        rw [if_neg (by omega)]
    · by_cases h2 : idxN x = (k : Int)
      · rw [List.filter_cons_of_pos (by simp; omega), List.filter_cons_of_neg (by simpa using h1), List.filter_cons_of_pos (by rw [hx]; simpa using h2), List.head?_cons, List.head?_cons]
        cases hy : (l.filter fun x => decide (idxN x < (k : Int))).head? with
        | none => rfl
        | some y =>
          have := more _ y hy
          show some x = if x.no < y.no then some x else some y
          rw [if_pos this]
      · rw [List.filter_cons_of_neg (by simp; omega), List.filter_cons_of_neg (by simpa using h1), List.filter_cons_of_neg (by rw [hx]; simpa using h2), ih]
theorem low_lenK {n : NetM} (h : NetIn n) (k : Nat) : (lowN n.row (k + 1)).length = (lowN n.row k).length + (linkK n k).length := low_len n.row (in7 h) k
theorem low_headK {n : NetM} (h : NetIn n) (k : Nat) : (lowN n.row (k + 1)).head? = elder (lowN n.row k).head? (linkK n k).head? := low_head n.row (in7 h) h.ok.rise k
theorem low_le (l : List LetM) (k : Nat) : (lowN l k).length ≤ l.length := List.length_filter_le _ _
/-- All letters: no more than room for each link. -/
theorem row_few {n : NetM} (h : NetIn n) : n.row.length ≤ 25088 := by
  have key : ∀ k, k ≤ 49 → (lowN n.row k).length ≤ k * 512 := by
    intro k
    induction k with
    | zero => intro _; rw [low_zero (in7 h)]; simp
    | succ k ih =>
      intro hk
      have h1 := ih (by omega)
      rw [low_lenK h k]
      have h2 := h.ok.count ((k / 7 : Nat) : Int) ((k % 7 : Nat) : Int)
      have h3 := h.r5
      have h4 : (linkK n k).length = countL n ((k / 7 : Nat) : Int) ((k % 7 : Nat) : Int) := rfl
      omega
  have := key 49 (Nat.le_refl _)
  rw [low_all (in7 h)] at this
  omega
/-- Where the oldest one stands, so far: its addresses and its number. -/
def oldT (a : Option LetM) : Int × Int × Int := match a with | none => (0, 0, 0) | some x => (x.src, x.dst, (x.no : Int))
theorem old_end {n : NetM} (h : NetIn n) : oldN n = ((oldT n.row.head?).1, (oldT n.row.head?).2.1, decide (0 < (oldT n.row.head?).2.2)) := by
  unfold oldN
  cases hr : n.row with
  | nil => rfl
  | cons x l =>
    have := h.pos x (by rw [hr]; exact List.mem_cons_self)
    show _ = (x.src, x.dst, decide (0 < (x.no : Int)))
    rw [decide_eq_true (by omega)]
end Go.Proofs.Ytbgkbegdaepkfaa
namespace Go.Proofs.Ytbgkbegdaepkfaa
open Go Go.RowKit
set_option maxRecDepth 20000

/-- An operation that only reckons or reads. -/
def isRead (o : Oper) : Bool :=
  match o.op with
  | .move _ | .load _ _ | .binOp _ _ _ _ _ | .indexAddr _ _ _ | .extract _ _ | .assign _ | .fieldAddr _ _ _ | .slice _ _ _ _ _ | .nilCheck _ => true
  | _ => false

theorem read_value {P : Program} {ρ : Operand → Value} {o : Oper} (h : isRead o = true) (w : World) (nx : Next) (w' : World) (hr : (execOp ρ o).run P w = .ok nx w') : ∃ u, nx = .value u := by
  unfold isRead at h
  unfold execOp at hr
  split at h
  · rename_i x e
    simp only [e, Sem.run_pure, Result.ok.injEq] at hr
    exact ⟨_, hr.1.symm⟩
  · rename_i t x e
    simp only [e, Sem.run_bind, Sem.run_pure] at hr
    revert hr
    generalize (Instr.loadAt t (ρ x)).run P w = r
    intro hr
    cases r with
    | ok a w1 => simp only [Result.andThen_ok, Result.ok.injEq] at hr; exact ⟨_, hr.1.symm⟩
    | halt x w1 => simp [Result.andThen] at hr
  · rename_i op t x y z e
    simp only [e, Sem.run_bind, Sem.run_pure] at hr
    revert hr
    generalize ((eqGuard op t x y (ρ x) (ρ y)).run P w).andThen (fun _ w' => (binOp op t (ρ x) (ρ y)).run P w') = r
    intro hr
    cases r with
    | ok a w1 => simp only [Result.andThen_ok, Result.ok.injEq] at hr; exact ⟨_, hr.1.symm⟩
    | halt x w1 => simp [Result.andThen] at hr
  · rename_i t x y e
    simp only [e, Sem.run_bind, Sem.run_pure] at hr
    revert hr
    generalize (Instr.indexAt t (ρ x) (ρ y)).run P w = r
    intro hr
    cases r with
    | ok a w1 => simp only [Result.andThen_ok, Result.ok.injEq] at hr; exact ⟨_, hr.1.symm⟩
    | halt x w1 => simp [Result.andThen] at hr
  · rename_i x i e
    simp only [e, Sem.run_bind, Sem.run_pure] at hr
    revert hr
    generalize (Instr.extract (ρ x) i).run P w = r
    intro hr
    cases r with
    | ok a w1 => simp only [Result.andThen_ok, Result.ok.injEq] at hr; exact ⟨_, hr.1.symm⟩
    | halt x w1 => simp [Result.andThen] at hr
  · rename_i x e
    simp only [e, Sem.run_pure, Result.ok.injEq] at hr
    exact ⟨_, hr.1.symm⟩
  · rename_i t x i e
    simp only [e, Sem.run_bind, Sem.run_pure] at hr
    revert hr
    generalize (Instr.fieldAt t (ρ x) i).run P w = r
    intro hr
    cases r with
    | ok a w1 => simp only [Result.andThen_ok, Result.ok.injEq] at hr; exact ⟨_, hr.1.symm⟩
    | halt x w1 => simp [Result.andThen] at hr
  · rename_i t x lo hi mx e
    simp only [e, Sem.run_bind, Sem.run_pure] at hr
    revert hr
    generalize (Instr.sliceAt t (ρ x) (lo.map ρ) (hi.map ρ) (mx.map ρ)).run P w = r
    intro hr
    cases r with
    | ok a w1 => simp only [Result.andThen_ok, Result.ok.injEq] at hr; exact ⟨_, hr.1.symm⟩
    | halt x w1 => simp [Result.andThen] at hr
  · rename_i x e
    simp only [e] at hr
    split at hr
    case h_4 =>
      split at hr
      case h_2 =>
        rename_i nm cap0 q t0 w0 _
        simp only [Sem.run_bind] at hr
        revert hr
        generalize (program.run P w : Result Program) = r0
        intro hr
        cases r0 with
        | halt x w1 => simp [Result.andThen] at hr
        | ok a w1 =>
          rw [Result.andThen_ok] at hr
          revert hr
          generalize (nilAhead (a.types.size + Made.depth) t0 w0 _).run P w1 = r1
          intro hr
          cases r1 with
          | halt x w2 => simp [Result.andThen] at hr
          | ok b w2 =>
            rw [Result.andThen_ok] at hr
            split at hr
            · simp [unsupported, go_sem] at hr
            · simp only [Sem.run_pure, Result.ok.injEq] at hr
              exact ⟨_, hr.1.symm⟩
      all_goals first
        | (simp only [Sem.run_pure, Result.ok.injEq] at hr; exact ⟨_, hr.1.symm⟩)
        | (simp [runtimePanic, go_sem] at hr; done)
    all_goals first
      | (simp only [Sem.run_pure, Result.ok.injEq] at hr; exact ⟨_, hr.1.symm⟩)
      | (simp [runtimePanic, go_sem] at hr; done)
  · cases h

theorem yieldsIf_of_in {P : Program} {ops : Array Oper} {S : World → Prop} {o : Oper} {v : Value} {a : Act} (h : isRead o = true) (hy : YieldsIn P ops S o v a) : YieldsIf P ops S o v a := by
  rcases hy with ⟨hw, hv⟩ | hn
  · refine .inl ⟨hw, fun w hS => ?_⟩
    have hq := hv w hS
    unfold Oper.quietAt at hq
    cases hr : (execOp a.eval o).run P w with
    | ok nx w' =>
      obtain ⟨u, rfl⟩ := read_value h w nx w' hr
      rw [hr] at hq
      obtain ⟨rfl, rfl⟩ := hq
      rfl
    | halt x w' => rw [hr] at hq; exact hq.elim
  · exact .inr hn

def headFrom (md : Region.Mode) (ops : Array Oper) : Nat → Nat → Array Bool → Bool
  | 0, _, _ => true
  | f + 1, k, listed => (Region.ready md ops listed).contains k && Region.free md ops listed k && headFrom md ops f (k + 1) (listed.setIfInBounds k true)
def listedFrom : Nat → Nat → Array Bool → Array Bool
  | 0, _, l => l
  | f + 1, k, l => listedFrom f (k + 1) (l.setIfInBounds k true)

theorem reads_held {P : Program} {md : Region.Mode} {ops : Array Oper} {Q : Exit → Act → World → Prop} {S : World → Prop} {g : Nat} (hs : Region.noSelect ops = true) (hQ : ∀ d v c a w, Q (.panic c) (Act.put a d v) w → Q (.panic c) a w) (w : World) (hS : S w) :
    ∀ (l : List Oper) (k : Nat) (listed : Array Bool) (a : Act), (∀ j, j < l.length → l[j]? = ops[k + j]?) → headFrom md ops l.length k listed = true → l.all isRead = true →
      wpQuiet P ops S (fun a' => wpAnyH P md ops Q S g (listedFrom l.length k listed) a' w) l a → wpAnyH P md ops Q S (l.length + g) listed a w
  | [], _, _, _, _, _, _, h => by simpa [wpQuiet, listedFrom] using h
  | o :: l, k, listed, a, hl, hB, hr, h => by
    have h0 : ops[k]? = some o := by simpa using (hl 0 (by simp)).symm
    simp only [List.length_cons, headFrom, Bool.and_eq_true] at hB
    simp only [List.all_cons, Bool.and_eq_true] at hr
    have hst : qOp P ops S k (wpQuiet P ops S (fun a' => wpAnyH P md ops Q S g (listedFrom (o :: l).length k listed) a' w) l) a := by
      unfold qOp; simp only [h0]; exact h
    obtain ⟨v, hy, hK⟩ := yieldsIn_of_qOp h0 hst
    have ih := reads_held hs hQ w hS l (k + 1) (listed.setIfInBounds k true) (a.put o.dst v) (fun j hj => by
      have := hl (j + 1) (by simp; omega)
      simpa [Nat.add_assoc, Nat.add_comm 1 j] using this) hB.2 hr.2 hK
    rw [show (o :: l).length + g = (l.length + g) + 1 by simp; omega]
    exact wpAnyH_take h0 hs hB.1.2 hB.1.1 (fun c a w => hQ o.dst v c a w) (yieldsIf_of_in hr.1 hy) hS ih

/-- The same with a class of worlds of one's own. -/
theorem region_beginS {P : Program} {id : Nat} {Q : Exit → Act → World → Prop} {a : Act} {w : World} {lo : List Oper} (S : World → Prop) (n : Nat) (hn : lo.length = n) (hm : P.follows .mixedOrders = true)
    (h : wpAnyH P .any lo.toArray Q S n (Array.replicate n false) a w.drew) : (Code.region id lo.toArray true).wp P Q a w := by
  refine wp_region_held (S := S) hm ?_
  rw [show lo.toArray.size = n by simpa using hn]
  exact h
/-- n operations, from number k on, that only read, are taken first. -/
theorem region_reads {P : Program} {Q : Exit → Act → World → Prop} {S : World → Prop} {a : Act} {w : World} {lo : List Oper} {listed : Array Bool} (k n g : Nat) (hl : ((lo.drop k).take n).length = n) (hs : Region.noSelect lo.toArray = true)
    (hB : headFrom .any lo.toArray n k listed = true) (hr : ((lo.drop k).take n).all isRead = true) (hQ : ∀ d v c a w, Q (.panic c) (Act.put a d v) w → Q (.panic c) a w) (hS : S w)
    (h : wpQuiet P lo.toArray S (fun a' => wpAnyH P .any lo.toArray Q S g (listedFrom n k listed) a' w) ((lo.drop k).take n) a) : wpAnyH P .any lo.toArray Q S (n + g) listed a w := by
  have := reads_held (P := P) (md := .any) (Q := Q) (g := g) hs hQ w hS ((lo.drop k).take n) k listed a (fun j hj => by
    rw [hl] at hj
    rw [List.getElem?_take_of_lt hj, List.getElem?_drop]
    simp) (by rw [hl]; exact hB) hr (by rw [hl]; exact h)
  rwa [hl] at this
/-- A cut behind a region. -/
theorem region_cut {P : Program} {c : Code} {Q : Exit → Act → World → Prop} {a : Act} {w : World} (F : Act → Act → World → Prop) (h1 : c.wp P (fun e a' w' => e = .normal ∧ F a a' w') a w) (h2 : ∀ a' w', F a a' w' → Q .normal a' w') : c.wp P Q a w :=
  Code.wp_mono (by rintro e a' w' ⟨rfl, h⟩; exact h2 a' w' h) h1

theorem wpOp_wanted {P : Program} {ops : Array Oper} {Q : Exit → Act → World → Prop} {i : Nat} {o : Oper} {K : Act → World → Prop} {a : Act} {w : World} (hi : ops[i]? = some o) (hw : Region.wanted o (yielded ops a.tmps) = true) (h : o.wp P a w K Q) : wpOp P ops Q i K a w := by
  unfold Go.wpOp
  simp only [hi, hw, if_true]
  exact .inl h
theorem wpOp_call {ops : Array Oper} {Q : Exit → Act → World → Prop} {i : Nat} {o : Oper} {K : Act → World → Prop} {a : Act} {w : World} (hi : ops[i]? = some o) (hw : Region.wanted o (yielded ops a.tmps) = true) (f : FuncId) (xs : Array Operand)
    (hf : ∀ (b : Act) (w : World), (execOp b.eval o).run Try.prog w = .ok (.enter f (xs.map b.eval)) w) (vs : Array Value) (hvs : xs.toList.map a.eval = vs.toList)
    (D : Value → World → Prop) (h : Calls Try.prog f vs w fun e w' => ∃ v, e = .returned v ∧ D v w') (d : Option Tmp) (hd : o.dst = d) (hK : ∀ v w', D v w' → K (a.put d v) w') : wpOp Try.prog ops Q i K a w := by
  subst hd
  refine wpOp_wanted hi hw ?_
  unfold Oper.wp
  rw [hf a w, show xs.map a.eval = vs from Array.ext' (by rw [Array.toList_map]; exact hvs)]
  refine h.mono ?_
  rintro e w' ⟨v, rfl, hc⟩
  exact hK v w' hc
theorem wpOp_assign {P : Program} {ops : Array Oper} {Q : Exit → Act → World → Prop} {i : Nat} {o : Oper} {K : Act → World → Prop} {a : Act} {w : World} (hi : ops[i]? = some o) (hw : Region.wanted o (yielded ops a.tmps) = true) (x : Operand) (ho : o.op = .assign x) (v : Value) (hx : a.eval x = v) (d : Option Tmp) (hd : o.dst = d)
    (hK : K (a.put d v) w) : wpOp P ops Q i K a w := by
  subst hd hx
  refine wpOp_wanted hi hw ?_
  unfold Oper.wp execOp
  simp only [ho, Sem.run_pure]
  exact hK
end Go.Proofs.Ytbgkbegdaepkfaa
namespace Go.Proofs.Ytbgkbegdaepkfaa
open Go Go.RowKit
set_option maxRecDepth 20000

/-- One operation whose value is known. -/
theorem wpOp_val {ops : Array Oper} {Q : Exit → Act → World → Prop} {i : Nat} {o : Oper} {K : Act → World → Prop} {a : Act} {w w' : World} (hi : ops[i]? = some o) (hw : Region.wanted o (yielded ops a.tmps) = true) (v : Value)
    (hx : (execOp a.eval o).run Try.prog w = .ok (.value v) w') (d : Option Tmp) (hd : o.dst = d) (hK : K (a.put d v) w') : wpOp Try.prog ops Q i K a w := by
  subst hd
  refine wpOp_wanted hi hw ?_
  unfold Oper.wp
  rw [hx]
  exact hK
end Go.Proofs.Ytbgkbegdaepkfaa
