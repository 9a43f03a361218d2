import Derived.Test.YteongcihannldaaJ3
namespace Go.Proofs.Yteongcihannldaa
open Go Go.RowKit
set_option maxRecDepth 20000

def keptR (R : RollM) (a b : Int) (i : Int) : RollM := { R with sw := fun k => if k ≤ i then keepS (R.sw k) a b else R.sw k }
theorem RollV.congr {B : Nat} {w : World} {g : Nat} {v : Value} {C : List KnB} {R R' : RollM} {N : Nat} (h : RollV B w g v C R N) (hc : R'.count = R.count) (hs : ∀ k, 1 ≤ k → k ≤ R.count → R'.sw k = R.sw k) : RollV B w g v C R' N :=
  ⟨h.blk, h.row, by rw [hc]; exact h.len, fun i x hx => by
    have hl := h.len
    have hi := (List.getElem?_eq_some_iff.1 hx).1
    rw [hs _ (by omega) (by omega)]
    exact h.sws i x hx, h.lo, h.ap, h.hB⟩
theorem keptR_next (R : RollM) (a b : Int) (i : Nat) : setR (keptR R a b i) (i + 1) (keepS (R.sw (i + 1)) a b) = keptR R a b ((i + 1 : Nat) : Int) := by
  unfold setR keptR
  simp only
  congr 1
  funext k
  by_cases e : k = (i : Int) + 1
  · rw [if_pos e, if_pos (by omega), e]
  · rw [if_neg e]
    by_cases e2 : k ≤ (i : Int)
    · rw [if_pos e2, if_pos (by omega)]
    · rw [if_neg e2, if_neg (by omega)]
theorem keptR_at (R : RollM) (a b : Int) (i : Nat) : (keptR R a b i).sw (i + 1) = R.sw (i + 1) := by
  unfold keptR
  dsimp only
  rw [if_neg (by omega)]
/-- What a map reads as while others are struck. -/
def leftO (f : Int → Option Int) (a b : Int) (left : Lit → Bool) : Int → Option Int := fun j => if j = a ∨ j = b then f j else if left (.int .i64 j) = true then f j else none
theorem leftO_start {D : DataW Unit} {f : Int → Option Int} (h : MapS D f) (a b : Int) : ∀ k, WfI k → f k = leftO f a b (Maps.has D) k := fun k hk => by
  unfold leftO
  split
  · rfl
  · rw [h.has k hk]
    cases e : f k <;> simp
theorem leftO_stays {f : Int → Option Int} {a b x : Int} {left : Lit → Bool} (hx : x = a ∨ x = b) : leftO f a b left = leftO f a b (fun z => left z && !z.sameKey (.int .i64 x)) := by
  funext j
  unfold leftO
  by_cases e : j = a ∨ j = b
  · rw [if_pos e, if_pos e]
  · rw [if_neg e, if_neg e]
    have : j ≠ x := fun q => e (by rw [q]; exact hx)
    simp [same_key, this]
theorem leftO_struck {f : Int → Option Int} {a b x : Int} {left : Lit → Bool} (hx : ¬ (x = a ∨ x = b)) : delO (leftO f a b left) x = leftO f a b (fun z => left z && !z.sameKey (.int .i64 x)) := by
  funext j
  unfold delO leftO
  by_cases e : j = x
  · rw [if_pos e, if_neg (by rw [e]; exact hx)]
    simp [same_key, e]
  · rw [if_neg e]
    simp [same_key, e]
theorem leftO_end {f : Int → Option Int} {a b : Int} {left : Lit → Bool} (hl : ∀ kl, left kl = false) {h : Int → Int} (hf : ∀ k, WfI k → (f k).getD 0 = h k) : ∀ k, WfI k → (leftO f a b left k).getD 0 = if k = a ∨ k = b then h k else 0 := fun k hk => by
  unfold leftO
  split
  · exact hf k hk
  · rw [hl]; rfl
set_option maxHeartbeats 16000000 in
theorem keepRl_any (B : Nat) (w : World) (g : Nat) (v : Value) (C : List KnB) (R : RollM) (N : Nat) (h : RollV B w g v C R N) (a b : Int) :
    Calls Try.prog 34 #[.pointer (some ⟨g, 0, none⟩), .int .i64 a, .int .i64 b] w fun e w' => e = .returned (.tuple #[]) ∧ RollTo B w w' g v C (keepR R a b) N := by
  obtain ⟨o, c, hv⟩ := gown_slice h.row
  have c0 := h.cell0
  obtain ⟨n, hn⟩ : ∃ n, n = C.length := ⟨_, rfl⟩
  have hcl : C.length ≤ maxLen ∧ C.length ≤ c := by
    obtain ⟨_, ⟨e, e2⟩ | ⟨p, cap, cur, e, hb, h1, h2, h3, h4, h5⟩⟩ := h.row
    · rw [e] at hv; simp only [Value.slice.injEq] at hv; unfold maxLen; omega
    · rw [e] at hv; simp only [Value.slice.injEq] at hv; omega
  have HV : Hid (RollV B w g v C R N) := h
  have H0 : Hid (RollTo B w w g v C (keptR R a b 0) N) := by
    refine ⟨C, h.congr rfl fun k k1 _ => ?_, Frm.refl _ _⟩
    unfold keptR
    dsimp only
    rw [if_neg (by omega)]
  have HEnd : Hid (∀ wr, RollTo B w wr g v C (keptR R a b n) N → RollTo B w wr g v C (keepR R a b) N) := by
    rintro wr ⟨C', r1, r2⟩
    refine ⟨C', r1.congr rfl fun k k1 k2 => ?_, r2⟩
    have hl := h.len
    unfold keptR keepR
    dsimp only
    have k3 : k ≤ R.count := k2
    rw [if_pos (by omega)]
  have HL : Hid ((n : Int) = R.count) := by rw [hn]; exact h.len
  rw [hv] at c0
  rw [← hn] at c0 hcl
  obtain ⟨hcl1, hcl2⟩ := hcl
  unfold maxLen at hcl1
  clear h
  have HVv : Hid (v = .slice o n c) := by rw [hn]; exact hv
  have HCl : Hid (C.length = n) := hn.symm
  clear hv hn
  go_enter Try.func34, Try.ntmps34
  go_wp2_with fail
  go_loopw [16] (fun s16 wr => ∃ (i : Nat), i ≤ n ∧ s16 = .int .i64 (i : Int) ∧ Hid (RollTo B w wr g v C (keptR R a b i) N)) (fun s16 _ => n - (intOf s16).toNat)
  case atStart => exact ⟨0, Nat.zero_le _, rfl, H0⟩
  case round =>
    obtain ⟨i, hi, rfl, HR⟩ := hrel
    by_cases hlt : i < n
    case neg =>
      obtain rfl : i = n := by omega
      have hlt' : ¬ (i : Int) < (i : Int) := by omega
      go_wp2_with fail
      first | go_end0 | refine bodyPost_ret (results_none rfl _ _ _) rfl ?_
      exact ⟨rfl, HEnd.out _ HR.out⟩
    have hlt' : (i : Int) < (n : Int) := by omega
    obtain ⟨C1, r1, r2⟩ := HR.out
    have hl1 : C1.length = n := by
      have q1 := r1.len
      have q2 := HL.out
      have q3 : ((keptR R a b i).count) = R.count := rfl
      omega
    have hx : C1[i]? = some C1[i] := List.getElem?_eq_getElem (by omega)
    generalize C1[i]'(by omega) = x at hx
    obtain ⟨p, cap, cur, ev, q1, q2, q3, q4, q5, _⟩ := r1.at hx
    rw [HVv.out] at ev
    simp only [Value.slice.injEq] at ev
    obtain ⟨rfl, hz9, rfl⟩ := ev
    clear hz9
    have hsw := r1.sws i x hx
    rw [keptR_at] at hsw
    obtain ⟨f, m1, m2⟩ := hsw.items
    obtain ⟨wx, hwx⟩ : ∃ wx, wx = wr.alloc (.cells (knV x) 51) := ⟨_, rfl⟩
    have hbx : Below wr.heap.size wr wx := by rw [hwx]; exact (Below.refl _ _).alloc (Nat.le_refl _) _
    have SRx : (wr.alloc (.cells zeroKn 51)).setRow wr.heap.size (knV x) = wx := by rw [hwx]; exact setRow_new _ _ _ _ _ rfl
    have hgx : wx.heap[wr.heap.size]? = some (.cells (knV x) 51 (0, 0)) := by rw [hwx]; exact heap_new _ _ _ rfl
    have F1 : KnF wx wr.heap.size 0 x := knf_of hgx fun j _ => by rw [Nat.zero_add]
    obtain ⟨px, hpx⟩ : ∃ px, px = wr.heap.size := ⟨_, rfl⟩
    obtain ⟨ib, hib⟩ : ∃ ib, ib = x.ib := ⟨_, rfl⟩
    have c3 := F1.c3
    have m3 := m1.kept (X := fun _ => False) (Kept.of_below hbx) (fun e => e)
    obtain ⟨D0, hown, hS0⟩ := m3
    rw [← hib] at c3 hown
    rw [← hpx] at c3
    have HPX : Hid (px < wx.heap.size ∧ px ≠ ib) := by
      have := (Array.getElem?_eq_some_iff.1 hgx).1
      rw [hpx, hib]
      exact ⟨this, fun e => by have := m1.lt; omega⟩
    have CX : Hid (∀ W, wx.grownBy W (some ib) → W.cell? ⟨px, 0 + 3, none⟩ = some (.map (some ib))) := fun W hW => by
      have e : W.heap[px]? = wx.heap[px]? := hW.block px HPX.out.1 (fun e => HPX.out.2 (Option.some.inj e))
      have e2 := F1.c3
      rw [← hpx] at e2
      rw [← hib] at e2
      unfold World.cell? at e2 ⊢
      rw [e]
      exact e2
    have HST : Hid (MapS D0 (leftO f a b (Maps.has D0))) := hS0.congr (leftO_start hS0 a b)
    have HNX : Hid (∀ W D left, (∀ kl, left kl = false) → W.ownsMap Try.prog 3 (plainElem Try.prog 3) ib N D → MapS D (leftO f a b left) → wx.grownBy W (some ib) → RollTo B w W g v C (keptR R a b ((i + 1 : Nat) : Int)) N) := by
      intro W D left hl z1 z2 z3
      have rx := r1.below hbx
      have hkb : Kept (isB ib) wx W := Kept.of_grown z3 fun k q => by unfold isB; exact (Option.some.inj q).symm
      have sx := rx.sws i x hx
      rw [keptR_at] at sx
      obtain ⟨t1, t2⟩ := rx.setMap hx ib (.inl hib) z3 (keepS (R.sw (i + 1)) a b) (N' := N) ⟨sx.inc, sx.heard, sx.use, ⟨_, by rw [← hib]; exact ⟨D, z1, z2⟩, fun k hk => leftO_end hl m2 k hk⟩, sx.leads.kept hkb (by unfold isB; rw [hib]; exact fun q => (r1.lo i x hx).2.2 q.symm)⟩ (Nat.le_refl _)
      rw [keptR_next] at t1
      exact ⟨_, t1, r2.trans (t2.pre hbx)⟩
    have KC : Hid (∀ j, j < 5 → cur[i * 5 + j]? = (knV x)[j]?) := q5
    have KG : Hid (wr.heap[p]? = some (.cells cur 51 (0, 0))) := q3
    clear hx hsw r1 r2 HR q4 q5 q3 m1 m2 F1 hbx hS0 hwx hgx hl1 q1 q2 hib
    go_wp2_with (first
      | ((with_reducible refine wl_gaR rfl ?_); refine wl_allocE21 (E := KnE) KnOk rfl rfl ?_)
      | ((with_reducible refine wl_glR _ rfl ?_); refine wl_loadA KnGOk rfl _ rfl p (i * 5) rfl cur 51 (0, 0) (knV x) rfl KG.out KC.out ?_)
      | ((with_reducible refine wl_gsR _ _ rfl ?_); refine wl_storeA KnGOk rfl _ _ rfl wr.heap.size (knV x) ⟨rfl, by simp [knV, Value.oneCell']⟩ rfl rfl zeroKn (heap_new _ _ _ rfl) rfl _ SRx ?_; refine of_stopT ?_))
    unfold StopT
    rw [← hpx]
    clear SRx KG KC hpx
    go_wp2_with (first
      | (at_range; refine wpList_range_own _ rfl _ 49 rfl 3 3 law3 Try.underlying49 _ ib N _ rfl hown ?_; intro w0 hrg0 hg0 hs0)
      | go_in)
    go_frame
    go_loopw [8] (fun _ wr => ∃ (left : Lit → Bool) (cnt : Nat) (D : DataW Unit), Hid (wr.ranges Try.prog 3 (plainElem Try.prog 3) ib wx.heap.size N D left cnt) ∧ Hid (MapS D (leftO f a b left)) ∧ Hid (wx.grownBy wr (some ib))) (fun _ wr => wr.rangeLeft ib wx.heap.size)
    case atStart => exact ⟨_, _, D0, hrg0, HST, hg0.but _⟩
    case round =>
      obtain ⟨left, cnt, D, HRG, HMS, HGW⟩ := hrel
      go_wp2_with (first
        | (at_next; refine wpList_next_ranges_ii _ rfl _ rfl 3 3 .i64 .i64 law3 Try.underlying3 Try.underlying3 ib wx.heap.size N _ _ _ rfl HRG.out ?_ ?_)
        | go_in)
      · intro _ hl0
        have HE2 : Hid (RollTo B w wr g v C (keptR R a b ((i + 1 : Nat) : Int)) N) := HNX.out wr D left hl0 HRG.out.owns HMS.out HGW.out
        go_wp2_with fail
        go_roundw
        case rel => exact ⟨i + 1, by omega, by go_num, HE2⟩
        case measure => simp [intOf]; omega
      · intro y cy w1 cnt1 hwx hwc hlx hat hrg1 hlt1 hg1 hs1 hen
        have HG1 : Hid (wx.grownBy w1 (some ib)) := HGW.out.andThen hg1 (fun j hj => by cases hj; exact Or.inl (Nat.le_refl _))
        have c4 := CX.out w1 HG1.out
        have HR1 : Hid (w1.ranges Try.prog 3 (plainElem Try.prog 3) ib wx.heap.size N D (fun z => left z && !z.sameKey (.int .i64 y)) cnt1) := hrg1
        have HWY : Hid (WfI y) := hwx
        have HL1 : Hid (cnt1 < cnt) := hlt1
        clear hwc hlx hat hrg1 hlt1 hg1 hs1 HGW
        by_cases k1 : y = a
        · have k1' : (y != a) = false := by simp [k1]
          go_wp2_with fail
          go_roundw
          case rel => exact ⟨_, cnt1, D, HR1, by show MapS _ _; rw [← leftO_stays (.inl k1)]; exact HMS.out, HG1⟩
          case measure => rw [HR1.out.left_eq, HRG.out.left_eq]; exact HL1.out
        have k1' : (y != a) = true := by simp [k1]
        by_cases k2 : y = b
        · have k2' : (y != b) = false := by simp [k2]
          go_wp2_with fail
          go_roundw
          case rel => exact ⟨_, cnt1, D, HR1, by show MapS _ _; rw [← leftO_stays (.inr k2)]; exact HMS.out, HG1⟩
          case measure => rw [HR1.out.left_eq, HRG.out.left_eq]; exact HL1.out
        have k2' : (y != b) = true := by simp [k2]
        go_wp2_with (first
          | (at_delete; refine wpList_delete_ranges _ rfl _ _ 49 3 rfl 3 law3 Try.underlying49 _ ib wx.heap.size N _ _ _ rfl HR1.out _ _ rfl (Maps.keyOf_int_mk Try.underlying3 HWY.out) ?_; intro w2 cnt2 hrg2 hle hturn; go_frame)
          | go_in)
        rw [Maps.strike_twice] at hrg2
        go_roundw
        case rel => exact ⟨_, cnt2, _, hrg2, by show MapS _ _; rw [← leftO_struck (fun q => q.elim k1 k2)]; exact HMS.out.del y, HG1.out.andThen hturn.grown (fun j hj => by cases hj; exact Or.inr rfl)⟩
        case measure => rw [World.ranges.left_eq hrg2, HRG.out.left_eq]; have := HL1.out; omega
end Go.Proofs.Yteongcihannldaa
namespace Go.Proofs.Yteongcihannldaa
open Go Go.RowKit
set_option maxRecDepth 20000

/-- One more. -/
theorem RollV.push {B : Nat} {w w2 w3 : World} {g : Nat} {v u : Value} {C : List KnB} {i : Nat} (h : RollV B w g v C ⟨i, fun _ => sw0⟩ 0) {y : KnB} (hb : Below w.heap.size w w2) (hy : SwV w2 y sw0 0) (h1 : w.heap.size ≤ y.ib) (h2 : w.heap.size ≤ y.lb) (h3 : y.ib ≠ y.lb)
    (ho : w3.ownsRow B 51 5 u (C ++ [y]).length (gcells knV (C ++ [y]))) (hg : w2.grownBy w3 v.ownBlock) (hu : u.ownBlock = v.ownBlock ∨ u.ownBlock = some w2.heap.size) :
    w3.cell? ⟨g, 0, none⟩ = some v ∧ w3.frozen? ⟨g, 0, none⟩ = false ∧ RollV B (w3.setCell ⟨g, 0, none⟩ u) g u (C ++ [y]) ⟨((i + 1 : Nat) : Int), fun _ => sw0⟩ 0 ∧ Below B w (w3.setCell ⟨g, 0, none⟩ u) := by
  have hV := h.below hb
  have hk : Kept (rowX v) w2 w3 := Kept.of_grown hg fun k e => e
  have hgx : ¬ rowX v g := h.gne
  have hblk := hk.heap hV.blk hgx
  have hK2 : Kept (isB g) w3 (w3.setCell ⟨g, 0, none⟩ u) := ⟨rfl, rfl, rfl, by simp [World.setCell], fun k _ e => heap_setCell_other w3 ⟨g, 0, none⟩ k _ e⟩
  have hug : ∀ k, u.ownBlock = some k → ¬ isB g k := fun k e e' => by
    unfold isB at e'
    subst e'
    rcases hu with q | q
    · rw [q] at e; exact h.gne e
    · rw [q] at e
      have := (Array.getElem?_eq_some_iff.1 hV.blk).1
      have := Option.some.inj e
      omega
  have hsw : ∀ (z : KnB), SwV w2 z sw0 0 → SwV (w3.setCell ⟨g, 0, none⟩ u) z sw0 0 := fun z hz => by
    have a1 := hz.apart hV
    obtain ⟨f, m1, _⟩ := hz.items
    exact (hz.kept hk a1.1 a1.2 (Nat.le_refl _)).kept hK2 (m1.ne hV.blk) (hz.leads.ne hV.blk) (Nat.le_refl _)
  have hat : ∀ (j : Nat) z, (C ++ [y])[j]? = some z → (C[j]? = some z ∧ j < C.length) ∨ (j = C.length ∧ z = y) := fun j z hz => by
    by_cases q : j < C.length
    · rw [List.getElem?_append_left q] at hz
      exact .inl ⟨hz, q⟩
    · rw [List.getElem?_append_right (by omega)] at hz
      have := (List.getElem?_eq_some_iff.1 hz).1
      simp at this
      have e : j = C.length := by omega
      subst e
      simp at hz
      exact .inr ⟨rfl, hz.symm⟩
  have hfr : ∀ (j : Nat) z, C[j]? = some z → z.ib < w.heap.size ∧ z.lb < w.heap.size := fun j z hz => by
    obtain ⟨f, q, _⟩ := (h.sws j z hz).items
    exact ⟨q.lt, (h.sws j z hz).leads.lt⟩
  have hw := h.hw
  refine ⟨by rw [cell_of_row w3 g 0 _ _ _ hblk]; rfl, by simp [World.frozen?, hblk], ⟨?_, hK2.own ho hug, ?_, fun j z hz => ?_, fun j z hz => ?_, fun j k z x hz hx hne => ?_, h.hB⟩, ?_⟩
  · rw [heap_setCell_same w3 g 0 _ _ u hblk]; rfl
  · have := h.len
    have e : ((i : Int)) = (C.length : Int) := this.symm
    show (((C ++ [y]).length : Nat) : Int) = ((i + 1 : Nat) : Int)
    simp
    omega
  · rcases hat j z hz with ⟨q, _⟩ | ⟨_, rfl⟩
    · exact hsw z (hV.sws j z q)
    · exact hsw z hy
  · rcases hat j z hz with ⟨q, _⟩ | ⟨_, rfl⟩
    · exact h.lo j z q
    · exact ⟨by omega, by omega, h3⟩
  · rcases hat j z hz with ⟨q, q'⟩ | ⟨rfl, rfl⟩
    · rcases hat k x hx with ⟨p, _⟩ | ⟨rfl, rfl⟩
      · exact h.ap j k z x q p hne
      · have := hfr j z q; omega
    · rcases hat k x hx with ⟨p, _⟩ | ⟨rfl, rfl⟩
      · have := hfr k x p; omega
      · exact absurd rfl hne
  · have b3 : Below B w w3 := (hb.mono hw).trans ((Below.refl _ _).grown hg (by have := hb.size; omega) fun k e => by
      have := (hV.foot_in k (.inr (.inl e))).1
      omega)
    exact b3.trans (hK2.below (fun k e => by unfold isB at e; rw [e]; exact h.hB) (by have := b3.size; omega))
set_option maxHeartbeats 2000000 in
theorem newRl_no (n : Int) (h : ¬ (1 ≤ n ∧ n ≤ 6)) (w : World) : Calls Try.prog 8 #[.int .i64 n] w fun e w' => e = .returned (.tuple #[.pointer none, .int .i64 1]) ∧ w' = w := by
  by_cases h1 : n < 1
  · clear h
    go_enter Try.func8, Try.ntmps8
    go_wp2_with fail
    go_ret2
    exact ⟨rfl, rfl⟩
  have h4 : n > 6 := by omega
  clear h
  go_enter Try.func8, Try.ntmps8
  go_wp2_with fail
  go_ret2
  exact ⟨rfl, rfl⟩
set_option maxHeartbeats 16000000 in
theorem newRl_yes (n : Int) (h : 1 ≤ n ∧ n ≤ 6) (w : World) : Calls Try.prog 8 #[.int .i64 n] w fun e w' => ∃ v C, e = .returned (.tuple #[.pointer (some ⟨w.heap.size, 0, none⟩), .int .i64 0]) ∧ RollV w.heap.size w' w.heap.size v C ⟨n, fun _ => sw0⟩ 0 ∧ Below w.heap.size w w' := by
  obtain ⟨h1, h2⟩ := h
  have d1 : ¬ n < 1 := by omega
  have d2 : ¬ n > 6 := by omega
  obtain ⟨q, hq⟩ : ∃ q : Nat, n = (q : Int) := ⟨n.toNat, by omega⟩
  subst hq
  obtain ⟨w0, hw0⟩ : ∃ w0, w0 = w.alloc (.cells #[.slice none 0 0] 48) := ⟨_, rfl⟩
  have H0 : Hid (RollV w.heap.size w0 w.heap.size (.slice none 0 0) [] ⟨((0 : Nat) : Int), fun _ => sw0⟩ 0) := by
    rw [hw0]
    exact ⟨heap_new _ _ _ rfl, World.ownsRow_nil _ _ _ _, rfl, fun i x hx => by simp at hx, fun i x hx => by simp at hx, fun i j x y hx => by simp at hx, Nat.le_refl _⟩
  have HB0 : Hid (Below w.heap.size w w0) := by rw [hw0]; exact (Below.refl _ _).alloc (Nat.le_refl _) _
  have hw0' := hw0.symm
  clear hw0
  have HQ6 : Hid (q ≤ 6) := by show _ ≤ _; omega
  obtain ⟨g, hg⟩ : ∃ g, g = w.heap.size := ⟨_, rfl⟩
  have HG : Hid (g = w.heap.size) := hg
  rw [← hg] at H0 ⊢
  have mixed : Try.prog.follows Departure.mixedOrders = true := by kernel_rfl
  go_enter Try.func8, Try.ntmps8
  go_wp2_with fail
  try rw [← hg]
  clear hg hw0' h1 h2 d1 d2
  go_loopw [14] (fun s14 wr => ∃ (i : Nat) (v : Value) (C : List KnB), i ≤ q ∧ i ≤ 6 ∧ s14 = .int .i64 (i : Int) ∧ Hid (RollV g wr g v C ⟨(i : Int), fun _ => sw0⟩ 0) ∧ Hid (Below g w wr)) (fun s14 _ => q - (intOf s14).toNat)
  case atStart => exact ⟨0, _, [], Nat.zero_le _, by omega, rfl, H0, by rw [HG.out]; exact HB0.out⟩
  case round =>
    obtain ⟨i, v, C, hi, hi6, rfl, HV, HB⟩ := hrel
    by_cases hlt : i < q
    case neg =>
      obtain rfl : i = q := by omega
      have hlt' : ¬ (i : Int) < (i : Int) := by omega
      go_wp2_with fail
      go_ret2
      exact ⟨rfl, ⟨v, C, HV.out⟩, HB.out⟩
    have hlt' : (i : Int) < (q : Int) := by omega
    obtain ⟨o, cap, hv⟩ := gown_slice HV.out.row
    have hCl : C.length = i := by have := HV.out.len; have e : ((C.length : Int)) = ((i : Nat) : Int) := this; omega
    have HCl : Hid (C.length = i) := hCl
    rw [hCl] at hv
    subst hv
    have HBD : Hid (Below wr.heap.size wr wr.drew) := (Below.refl _ _).drew
    have c0 : wr.drew.cell? ⟨g, 0, none⟩ = some (.slice o i cap) := HV.out.cell0
    have HNB : Hid (∀ W, Calls Try.prog 29 #[.int .i64 0] W fun e w' => ∃ a b : Nat, e = .returned (.agg #[.int .i64 0, .int .i64 0, .int .i64 0, .map (some a), .map (some b)]) ∧ SwV w' ⟨0, 0, 0, a, b⟩ sw0 0 ∧ W.heap.size ≤ a ∧ W.heap.size ≤ b ∧ a ≠ b ∧ Below W.heap.size W w') := fun W => by
      refine (newborn_any W 0).mono ?_
      rintro e w' ⟨⟨y1, y2, y3, y4, y5⟩, rfl, n1, n2, n3, n4, n5⟩
      obtain rfl : y1 = 0 := n1.inc
      obtain rfl : y2 = 0 := n1.heard
      obtain rfl : y3 = 0 := n1.use
      exact ⟨y4, y5, rfl, n1, n2, n3, n4, n5⟩
    have HP : Hid (∀ a b : Nat, ∀ w2 : World, SwV w2 ⟨0, 0, 0, a, b⟩ sw0 0 → wr.drew.heap.size ≤ a → wr.drew.heap.size ≤ b → a ≠ b → Below wr.drew.heap.size wr.drew w2 → (w2.cell? ⟨g, 0, none⟩ = some (.slice o i cap) ∧ (w2.alloc (.cells #[.int .i64 0, .int .i64 0, .int .i64 0, .map (some a), .map (some b)] 51)).ownsRow g 51 5 (.slice o i cap) C.length (gcells knV C) ∧ g ≤ (w2.alloc (.cells #[.int .i64 0, .int .i64 0, .int .i64 0, .map (some a), .map (some b)] 51)).heap.size ∧ (w2.alloc (.cells #[.int .i64 0, .int .i64 0, .int .i64 0, .map (some a), .map (some b)] 51)).cell? ⟨g, 0, none⟩ = some (.slice o i cap) ∧
      ∀ w3 u, w3.ownsRow g 51 5 u (C ++ [(⟨0, 0, 0, a, b⟩ : KnB)]).length (gcells knV (C ++ [(⟨0, 0, 0, a, b⟩ : KnB)])) → (w2.alloc (.cells #[.int .i64 0, .int .i64 0, .int .i64 0, .map (some a), .map (some b)] 51)).grownBy w3 (Value.slice o i cap).ownBlock → (u.ownBlock = (Value.slice o i cap).ownBlock ∨ u.ownBlock = some (w2.alloc (.cells #[.int .i64 0, .int .i64 0, .int .i64 0, .map (some a), .map (some b)] 51)).heap.size) →
        w3.cell? ⟨g, 0, none⟩ = some (.slice o i cap) ∧ w3.frozen? ⟨g, 0, none⟩ = false ∧ RollV g (w3.setCell ⟨g, 0, none⟩ u) g u (C ++ [(⟨0, 0, 0, a, b⟩ : KnB)]) ⟨((i + 1 : Nat) : Int), fun _ => sw0⟩ 0 ∧ Below g w (w3.setCell ⟨g, 0, none⟩ u))) := by
      intro a b w2 n1 n2 n3 n4 n5
      have hb : Below wr.heap.size wr w2 := HBD.out.trans n5
      have hb2 : Below wr.heap.size wr (w2.alloc (.cells #[.int .i64 0, .int .i64 0, .int .i64 0, .map (some a), .map (some b)] 51)) := hb.alloc hb.size _
      have hgw : g ≤ w.heap.size := by have := HB.out.size; have := HG.out; omega
      refine ⟨(HV.out.below hb).cell0, (HV.out.below hb2).row, ?_, (HV.out.below hb2).cell0, fun w3 u t1 t2 t3 => ?_⟩
      · have q1 := hb2.size
        have q2 := HV.out.hw
        omega
      · have n1' : SwV (w2.alloc (.cells #[.int .i64 0, .int .i64 0, .int .i64 0, .map (some a), .map (some b)] 51)) ⟨0, 0, 0, a, b⟩ sw0 0 := n1.kept (X := fun _ => False) (Kept.of_below ((Below.refl _ _).alloc (Nat.le_refl _) _)) (fun e => e) (fun e => e) (Nat.le_refl _)
        obtain ⟨r1, r2, r3, r4⟩ := RollV.push HV.out hb2 n1' n2 n3 n4 t1 t2 t3
        exact ⟨r1, r2, r3, HB.out.trans r4⟩
    have HSL : Hid (∀ W u m xs, World.ownsRow W g 51 5 u m xs → ∃ o q c, u = .slice o q c) := fun W u m xs hu => by
      obtain ⟨o, cap, e⟩ := gown_slice hu
      exact ⟨o, _, cap, e⟩
    have HN6 : Hid (C.length ≤ 1000000) := by show _ ≤ _; rw [HCl.out]; omega
    clear hCl
    go_wp2_with fail
    go_region_law_o (first
      | (refine step_call rfl 29 #[.const (.int .i64 0)] (by intro b w; have hf := Try.func29; simp [go_sem]) #[.int .i64 0] (by simp [Act.eval]) _ (HNB.out wr.drew) (by rintro e w' ⟨a, b, h, _⟩; exact ⟨_, h⟩) ?_; rintro u0 w2 ⟨a, b, hu0, n1, n2, n3, n4, n5⟩; obtain rfl : u0 = Value.agg #[.int .i64 0, .int .i64 0, .int .i64 0, .map (some a), .map (some b)] := (by simpa using hu0); obtain ⟨k1, k2, k3, k4, k5⟩ := HP.out a b w2 n1 n2 n3 n4 n5; have K2 : Hid _ := k2; have K3 : Hid _ := k3; have K5 : Hid _ := k5; clear hu0 n1 n2 n3 n4 n5 k2 k3 k5)
      | (refine step_appE (E := KnE) KnOk knV rfl (.tmp 20) (.tmp 22) rfl g (.slice o i cap) C ⟨0, 0, 0, a, b⟩ (kn_fits _) (by simp [Act.eval]) K2.out w2.heap.size 1 (by simp [Act.eval]) (heap_new _ _ _ rfl) HN6.out K3.out ?_; intro u0 w3 q1 q2 q3; obtain ⟨o2, n2, p2, rfl⟩ := HSL.out w3 u0 _ _ q1; obtain ⟨f1, f2, f3, f4⟩ := K5.out w3 _ q1 q2 q3; have F3 : Hid _ := f3; have F4 : Hid _ := f4; clear q1 q2 q3 f3 f4))
    all_goals
      go_wp2_with fail
      go_roundw
      case rel => exact ⟨i + 1, _, _, by omega, by have := HQ6.out; omega, by go_num, F3, F4.out⟩
      case measure => simp [intOf]; omega
end Go.Proofs.Yteongcihannldaa
namespace Go.Proofs.Yteongcihannldaa
open Go Go.RowKit
set_option maxRecDepth 20000

theorem in_set {R : RollM} (h : RollIn R) (s : Int) {m : SwM} (h1 : SwOk m) (h2 : 0 ≤ m.heard ∧ m.heard ≤ 1099511627776) (h3 : ∀ e t, m.led e = some t → WfI e) : RollIn (setR R s m) :=
  ⟨h.cnt, fun k => by
    by_cases e : k = s
    · subst e; rw [set_at]; exact h1
    · rw [set_other R s m e]; exact h.ok k, fun k => by
    by_cases e : k = s
    · subst e; rw [set_at]; exact h2
    · rw [set_other R s m e]; exact h.heard k, fun k => by
    by_cases e : k = s
    · subst e; rw [set_at]; exact h3
    · rw [set_other R s m e]; exact h.keys k⟩
theorem new_inR {n : Int} (h : 1 ≤ n ∧ n ≤ 6) : RollIn ⟨n, fun _ => sw0⟩ := ⟨h, fun _ => sw0_ok, fun _ => by show (0 : Int) ≤ 0 ∧ (0 : Int) ≤ _; omega, fun _ e t q => by cases q⟩
theorem hear_inR {R : RollM} (h : RollIn R) (s inc now : Int) : RollIn (hearR R s inc now).1 := by
  unfold hearR
  split
  · rename_i hc
    refine in_set h s (hearS_ok (h.ok s) hc.2.1 now) (clock_in now) fun e t q => ?_
    unfold hearS at q
    dsimp only at q
    split at q
    · cases q
    · exact h.keys s e t q
  · exact h
theorem ack_inR {R : RollM} (h : RollIn R) (s inc ep n : Int) : RollIn (ackR R s inc ep n).1 := by
  unfold ackR
  split
  · exact in_set h s (ackS_ok (h.ok s) ep n) (h.heard s) fun e t q => h.keys s e t q
  · exact h
theorem seen_inR {R : RollM} (h : RollIn R) (s inc n : Int) : RollIn (seenR R s inc n).1 := by
  unfold seenR
  split
  · exact in_set h s (seenS_ok (h.ok s) n) (h.heard s) fun e t q => h.keys s e t q
  · exact h
theorem led_inR {R : RollM} (h : RollIn R) (s ep now : Int) (he : WfI ep) : RollIn (ledR R s ep now) := by
  unfold ledR
  split
  · refine in_set h s (ledS_ok (h.ok s) ep now) (h.heard s) fun e t q => ?_
    unfold ledS at q
    dsimp only at q
    split at q
    · rename_i hc; rw [hc]; exact he
    · exact h.keys s e t q
  · exact h
theorem keep_inR {R : RollM} (h : RollIn R) (a b : Int) : RollIn (keepR R a b) := ⟨h.cnt, fun s => keepS_ok (h.ok s) a b, h.heard, h.keys⟩

/-! Calls that come in. -/
structure ActR where
  kind : Int
  s : Int
  inc : Int
  ep : Int
  n : Int
  now : Int
def actV21 (x : ActR) : Array Value := #[.int .i64 x.kind, .int .i64 x.s, .int .i64 x.inc, .int .i64 x.ep, .int .i64 x.n, .int .i64 x.now]
structure OkActR (x : ActR) : Prop where
  ep : WfI x.ep
  n : WfI x.n
def actR (R : RollM) (x : ActR) : RollM × Bool :=
  if x.kind = 1 then hearR R x.s x.inc x.now else if x.kind = 2 then ackR R x.s x.inc x.ep x.n else if x.kind = 3 then seenR R x.s x.inc x.n else if x.kind = 4 then (ledR R x.s x.ep x.now, false) else if x.kind = 5 then (keepR R x.ep x.n, false) else (R, false)
theorem act_inR {R : RollM} (h : RollIn R) (x : ActR) (hx : OkActR x) : RollIn (actR R x).1 := by
  unfold actR
  split
  · exact hear_inR h _ _ _
  split
  · exact ack_inR h _ _ _ _
  split
  · exact seen_inR h _ _ _
  split
  · exact led_inR h _ _ _ hx.ep
  split
  · exact keep_inR h _ _
  · exact h
theorem RollTo.mono {B : Nat} {w w' : World} {g : Nat} {v : Value} {C : List KnB} {R' : RollM} {N N' : Nat} (h : RollTo B w w' g v C R' N) (hn : N ≤ N') : RollTo B w w' g v C R' N' := by
  obtain ⟨C', h1, h2⟩ := h
  exact ⟨C', h1.mono hn, h2⟩
set_option maxHeartbeats 16000000 in
theorem does21_any (B : Nat) (w : World) (g : Nat) (v : Value) (C : List KnB) (R : RollM) (N : Nat) (h : RollV B w g v C R N) (hN : N ≤ 100000) (x : ActR) (hx : OkActR x) :
    Calls Try.prog 15 #[.pointer (some ⟨g, 0, none⟩), .agg (actV21 x)] w fun e w' => e = .returned (.bool (actR R x).2) ∧ RollTo B w w' g v C (actR R x).1 (N + 1) := by
  obtain ⟨⟨e1, e2⟩⟩ : PLift (WfI x.ep ∧ WfI x.n) := ⟨hx.ep, hx.n⟩
  obtain ⟨w0, hw0⟩ : ∃ w0, w0 = w.alloc (.cells (actV21 x) 34) := ⟨_, rfl⟩
  have HB : Hid (Below w.heap.size w w0) := by show Below _ _ _; rw [hw0]; exact (Below.refl _ _).alloc (Nat.le_refl _) _
  have hV := h.below HB.out
  have H1 := hear_any B w0 g v C R N hV x.s x.inc x.now
  have H2 := ackRl_any B w0 g v C R N hV hN x.s x.inc x.ep x.n e1 e2
  have H3 := seenRl_any B w0 g v C R N hV x.s x.inc x.n
  have H4 := ledRl_any B w0 g v C R N hV hN x.s x.ep x.now e1
  have H5 := keepRl_any B w0 g v C R N hV x.ep x.n
  have H6 : Hid (RollTo B w w0 g v C R (N + 1)) := h.stay HB.out (Nat.le_succ _)
  unfold actR
  unfold actV21 at hw0 ⊢
  obtain ⟨kd, s, inc, ep, n, now⟩ := x
  dsimp only at *
  clear h hV e1 e2 hx
  have hw0' := hw0.symm
  clear hw0
  have q0 : w0.cell? ⟨w.heap.size, 0, none⟩ = some (.int .i64 kd) := by rw [← hw0', cell_of_row _ _ _ _ _ _ (heap_new _ _ _ rfl)]; rfl
  have q1 : w0.cell? ⟨w.heap.size, 1, none⟩ = some (.int .i64 s) := by rw [← hw0', cell_of_row _ _ _ _ _ _ (heap_new _ _ _ rfl)]; rfl
  have q2 : w0.cell? ⟨w.heap.size, 2, none⟩ = some (.int .i64 inc) := by rw [← hw0', cell_of_row _ _ _ _ _ _ (heap_new _ _ _ rfl)]; rfl
  have q3 : w0.cell? ⟨w.heap.size, 3, none⟩ = some (.int .i64 ep) := by rw [← hw0', cell_of_row _ _ _ _ _ _ (heap_new _ _ _ rfl)]; rfl
  have q4 : w0.cell? ⟨w.heap.size, 4, none⟩ = some (.int .i64 n) := by rw [← hw0', cell_of_row _ _ _ _ _ _ (heap_new _ _ _ rfl)]; rfl
  have q5 : w0.cell? ⟨w.heap.size, 5, none⟩ = some (.int .i64 now) := by rw [← hw0', cell_of_row _ _ _ _ _ _ (heap_new _ _ _ rfl)]; rfl
  by_cases k1 : kd = 1
  · rw [if_pos k1]
    have k1' : (kd == 1) = true := by simp [k1]
    generalize hearR R s inc now = T at H1 ⊢
    clear H2 H3 H4 H5 H6 k1
    go_enter Try.func15, Try.ntmps15
    go_wp2_with (go_at_call 26; refine H1.mono ?_; rintro e w2 ⟨rfl, r1⟩; have R1 : Hid _ := r1; clear r1)
    go_ret
    exact ⟨rfl, (RollTo.pre HB.out R1.out).mono (Nat.le_succ _)⟩
  have k1' : (kd == 1) = false := by simp [k1]
  rw [if_neg k1]
  by_cases k2 : kd = 2
  · rw [if_pos k2]
    have k2' : (kd == 2) = true := by simp [k2]
    generalize ackR R s inc ep n = T at H2 ⊢
    clear H1 H3 H4 H5 H6 k1 k2
    go_enter Try.func15, Try.ntmps15
    go_wp2_with (go_at_call 33; refine H2.mono ?_; rintro e w2 ⟨rfl, r1⟩; have R1 : Hid _ := r1; clear r1)
    go_ret
    exact ⟨rfl, RollTo.pre HB.out R1.out⟩
  have k2' : (kd == 2) = false := by simp [k2]
  rw [if_neg k2]
  by_cases k3 : kd = 3
  · rw [if_pos k3]
    have k3' : (kd == 3) = true := by simp [k3]
    generalize seenR R s inc n = T at H3 ⊢
    clear H1 H2 H4 H5 H6 k1 k2 k3
    go_enter Try.func15, Try.ntmps15
    go_wp2_with (go_at_call 28; refine H3.mono ?_; rintro e w2 ⟨rfl, r1⟩; have R1 : Hid _ := r1; clear r1)
    go_ret
    exact ⟨rfl, (RollTo.pre HB.out R1.out).mono (Nat.le_succ _)⟩
  have k3' : (kd == 3) = false := by simp [k3]
  rw [if_neg k3]
  by_cases k4 : kd = 4
  · rw [if_pos k4]
    have k4' : (kd == 4) = true := by simp [k4]
    generalize ledR R s ep now = T at H4 ⊢
    clear H1 H2 H3 H5 H6 k1 k2 k3 k4
    go_enter Try.func15, Try.ntmps15
    go_wp2_with (go_at_call 27; refine H4.mono ?_; rintro e w2 ⟨rfl, r1⟩; have R1 : Hid _ := r1; clear r1)
    go_ret
    exact ⟨rfl, RollTo.pre HB.out R1.out⟩
  have k4' : (kd == 4) = false := by simp [k4]
  rw [if_neg k4]
  by_cases k5 : kd = 5
  · rw [if_pos k5]
    have k5' : (kd == 5) = true := by simp [k5]
    generalize keepR R ep n = T at H5 ⊢
    clear H1 H2 H3 H4 H6 k1 k2 k3 k4 k5
    go_enter Try.func15, Try.ntmps15
    go_wp2_with (go_at_call 34; refine H5.mono ?_; rintro e w2 ⟨rfl, r1⟩; have R1 : Hid _ := r1; clear r1)
    go_ret
    exact ⟨rfl, (RollTo.pre HB.out R1.out).mono (Nat.le_succ _)⟩
  have k5' : (kd == 5) = false := by simp [k5]
  rw [if_neg k5]
  clear H1 H2 H3 H4 H5 k1 k2 k3 k4 k5
  go_enter Try.func15, Try.ntmps15
  go_wp2_with fail
  go_ret
  exact ⟨rfl, H6.out⟩
end Go.Proofs.Yteongcihannldaa
namespace Go.Proofs.Yteongcihannldaa
open Go Go.RowKit
set_option maxRecDepth 20000

/-! The roll made by the caller. -/
def OwnR (w0 w : World) (g : Nat) (R : RollM) (N : Nat) : Prop := RollIn R ∧ Below w0.heap.size w0 w ∧ ∃ v C, RollV w0.heap.size w g v C R N
theorem OwnR.bel {w0 w : World} {g : Nat} {R : RollM} {N : Nat} (h : OwnR w0 w g R N) : Below w0.heap.size w0 w := h.2.1
theorem OwnR.below {w0 w w' : World} {g : Nat} {R : RollM} {N : Nat} (h : OwnR w0 w g R N) (hb : Below w.heap.size w w') : OwnR w0 w' g R N := by
  obtain ⟨h1, h2, v, C, h3⟩ := h
  exact ⟨h1, h2.trans (hb.mono h2.size), v, C, h3.below hb⟩
theorem OwnR.mono {w0 w : World} {g : Nat} {R : RollM} {N N' : Nat} (h : OwnR w0 w g R N) (hn : N ≤ N') : OwnR w0 w g R N' := by
  obtain ⟨h1, h2, v, C, h3⟩ := h
  exact ⟨h1, h2, v, C, h3.mono hn⟩
theorem OwnR.of {w0 w w' : World} {g : Nat} {v : Value} {C : List KnB} {R R' : RollM} {N N' : Nat} (h1 : RollIn R') (h2 : Below w0.heap.size w0 w) (h3 : RollV w0.heap.size w g v C R N) (h : RollTo w0.heap.size w w' g v C R' N') : OwnR w0 w' g R' N' := by
  have hb := h.belowW (B0 := w0.heap.size) (fun k e => (h3.foot_in k e).1) h2.size
  obtain ⟨C', q1, _⟩ := h
  exact ⟨h1, h2.trans hb, v, C', q1⟩
theorem newO_yes (n : Int) (h : 1 ≤ n ∧ n ≤ 6) (w : World) : Calls Try.prog 8 #[.int .i64 n] w fun e w' => e = .returned (.tuple #[.pointer (some ⟨w.heap.size, 0, none⟩), .int .i64 0]) ∧ OwnR w w' w.heap.size ⟨n, fun _ => sw0⟩ 0 := by
  refine (newRl_yes n h w).mono ?_
  rintro e w' ⟨v, C, rfl, h1, h2⟩
  exact ⟨rfl, new_inR h, h2, v, C, h1⟩
section
variable {w0 w : World} {g : Nat} {R : RollM} {N : Nat} (h : OwnR w0 w g R N)
include h
theorem hearO (s inc now : Int) : Calls Try.prog 26 #[.pointer (some ⟨g, 0, none⟩), .int .i64 s, .int .i64 inc, .int .i64 now] w fun e w' => e = .returned (.bool (hearR R s inc now).2) ∧ OwnR w0 w' g (hearR R s inc now).1 N := by
  obtain ⟨h1, h2, v, C, h3⟩ := h
  refine (hear_any _ w g v C R N h3 s inc now).mono ?_
  rintro e w' ⟨rfl, q⟩
  exact ⟨rfl, OwnR.of (hear_inR h1 s inc now) h2 h3 q⟩
theorem seenO (s inc n : Int) : Calls Try.prog 28 #[.pointer (some ⟨g, 0, none⟩), .int .i64 s, .int .i64 inc, .int .i64 n] w fun e w' => e = .returned (.bool (seenR R s inc n).2) ∧ OwnR w0 w' g (seenR R s inc n).1 N := by
  obtain ⟨h1, h2, v, C, h3⟩ := h
  refine (seenRl_any _ w g v C R N h3 s inc n).mono ?_
  rintro e w' ⟨rfl, q⟩
  exact ⟨rfl, OwnR.of (seen_inR h1 s inc n) h2 h3 q⟩
theorem ledO (hN : N ≤ 100000) (s ep now : Int) (he : WfI ep) : Calls Try.prog 27 #[.pointer (some ⟨g, 0, none⟩), .int .i64 s, .int .i64 ep, .int .i64 now] w fun e w' => e = .returned (.tuple #[]) ∧ OwnR w0 w' g (ledR R s ep now) (N + 1) := by
  obtain ⟨h1, h2, v, C, h3⟩ := h
  refine (ledRl_any _ w g v C R N h3 hN s ep now he).mono ?_
  rintro e w' ⟨rfl, q⟩
  exact ⟨rfl, OwnR.of (led_inR h1 s ep now he) h2 h3 q⟩
theorem incO (s : Int) : Calls Try.prog 16 #[.pointer (some ⟨g, 0, none⟩), .int .i64 s] w fun e w' => e = .returned (.int .i64 (incR R s)) ∧ w' = w := by
  obtain ⟨h1, h2, v, C, h3⟩ := h
  exact inc_any _ w g v C R N h3 s
theorem useO (s : Int) : Calls Try.prog 22 #[.pointer (some ⟨g, 0, none⟩), .int .i64 s] w fun e w' => e = .returned (.int .i64 (useR R s)) ∧ w' = w := by
  obtain ⟨h1, h2, v, C, h3⟩ := h
  exact useRl_any _ w g v C R N h3 s
theorem haveO (s ep : Int) (he : WfI ep) : Calls Try.prog 20 #[.pointer (some ⟨g, 0, none⟩), .int .i64 s, .int .i64 ep] w fun e w' => e = .returned (.int .i64 (haveR R s ep)) ∧ w' = w := by
  obtain ⟨h1, h2, v, C, h3⟩ := h
  exact haveRl_any _ w g v C R N h3 s ep he
theorem inO (s now lost : Int) : Calls Try.prog 18 #[.pointer (some ⟨g, 0, none⟩), .int .i64 s, .int .i64 now, .int .i64 lost] w fun e w' => e = .returned (.bool (inR R s now lost)) ∧ OwnR w0 w' g R N ∧ Below w.heap.size w w' := by
  have h0 := h
  obtain ⟨h1, h2, v, C, h3⟩ := h
  refine (inRl_any _ w g v C R N h3 h1 s now lost).mono ?_
  rintro e w' ⟨rfl, q⟩
  exact ⟨rfl, h0.below q, q⟩
theorem safeO (s ep now lease : Int) (b : Bool) (hb : b = true ↔ SafeR R s ep now lease) : Calls Try.prog 24 #[.pointer (some ⟨g, 0, none⟩), .int .i64 s, .int .i64 ep, .int .i64 now, .int .i64 lease] w fun e w' => e = .returned (.bool b) ∧ OwnR w0 w' g R N ∧ Below w.heap.size w w' := by
  have h0 := h
  obtain ⟨h1, h2, v, C, h3⟩ := h
  refine (safe_any _ w g v C R N h3 h1 s ep now lease b hb).mono ?_
  rintro e w' ⟨rfl, q⟩
  exact ⟨rfl, h0.below q, q⟩
end
end Go.Proofs.Yteongcihannldaa
namespace Go.Proofs.Yteongcihannldaa
open Go Go.RowKit
set_option maxRecDepth 20000

def awR0 : RollM := ⟨2, fun _ => sw0⟩
def awR1 : RollM := (hearR awR0 1 1 5).1
def awR2 : RollM := ledR awR1 1 3 6
def awR3 : RollM := (seenR awR2 1 1 4).1
def awR4 : RollM := (hearR awR3 1 2 8).1
theorem aw21_young (ep qn lease : Int) : youngS (awR2.sw 1) ep qn lease ↔ (3 < ep ∧ clockR qn - 6 < lease) := by
  have e : awR2.sw 1 = ledS (hearS sw0 1 5) 3 6 := rfl
  have c6 : clockR 6 = 6 := rfl
  rw [e, young_led, young_hear, c6]
  constructor
  · rintro (h | h)
    · exact absurd (show sw0.life < 1 from by decide) h.1
    · exact h
  · exact .inr
theorem aw21_safe (ep qn lease : Int) (b : Bool) (hb : b = decide (ep ≤ 0 ∨ ¬ (3 < ep ∧ clockR qn - 6 < lease))) : b = true ↔ SafeR awR2 1 ep qn lease := by
  have hu : (awR2.sw 1).use = 0 := rfl
  unfold SafeR SafeS
  rw [aw21_young, hu, hb]
  simp only [decide_eq_true_eq]
  exact ⟨fun h => ⟨rfl, h⟩, fun h => h.2⟩
theorem aw21_safe3 : true = true ↔ SafeR awR3 1 4 8 3 := ⟨fun _ => ⟨rfl, .inl (by show (4 : Int) ≤ max 0 4; decide)⟩, fun _ => rfl⟩
set_option maxHeartbeats 8000000 in
theorem awake21_any (w : World) : Calls Try.prog 7 #[] w fun e w' => e = .returned (.bool true) ∧ Below w.heap.size w w' := by
  have HNw := newO_yes 2 (by decide) w
  have e0 : (⟨2, fun _ => sw0⟩ : RollM) = awR0 := rfl
  rw [e0] at HNw
  obtain ⟨g, hg⟩ : ∃ g, g = w.heap.size := ⟨_, rfl⟩
  rw [← hg] at HNw
  have S1 : Hid (∀ W, OwnR w W g awR0 0 → Calls Try.prog 26 #[.pointer (some ⟨g, 0, none⟩), .int .i64 1, .int .i64 1, .int .i64 5] W fun e w' => e = .returned (.bool true) ∧ OwnR w w' g awR1 0) := fun W h => hearO h 1 1 5
  have S2 : Hid (∀ W, OwnR w W g awR1 0 → Calls Try.prog 27 #[.pointer (some ⟨g, 0, none⟩), .int .i64 1, .int .i64 3, .int .i64 6] W fun e w' => e = .returned (.tuple #[]) ∧ OwnR w w' g awR2 1) := fun W h => ledO h (by decide) 1 3 6 (by unfold WfI; decide)
  have S3 : Hid (∀ W, OwnR w W g awR2 1 → Calls Try.prog 24 #[.pointer (some ⟨g, 0, none⟩), .int .i64 1, .int .i64 4, .int .i64 8, .int .i64 3] W fun e w' => e = .returned (.bool false) ∧ OwnR w w' g awR2 1 ∧ Below W.heap.size W w') := fun W h => safeO h 1 4 8 3 false (aw21_safe _ _ _ _ (by decide))
  have S4 : Hid (∀ W, OwnR w W g awR2 1 → Calls Try.prog 24 #[.pointer (some ⟨g, 0, none⟩), .int .i64 1, .int .i64 4, .int .i64 9, .int .i64 3] W fun e w' => e = .returned (.bool true) ∧ OwnR w w' g awR2 1 ∧ Below W.heap.size W w') := fun W h => safeO h 1 4 9 3 true (aw21_safe _ _ _ _ (by decide))
  have S5 : Hid (∀ W, OwnR w W g awR2 1 → Calls Try.prog 24 #[.pointer (some ⟨g, 0, none⟩), .int .i64 1, .int .i64 3, .int .i64 8, .int .i64 3] W fun e w' => e = .returned (.bool true) ∧ OwnR w w' g awR2 1 ∧ Below W.heap.size W w') := fun W h => safeO h 1 3 8 3 true (aw21_safe _ _ _ _ (by decide))
  have S6 : Hid (∀ W, OwnR w W g awR2 1 → Calls Try.prog 28 #[.pointer (some ⟨g, 0, none⟩), .int .i64 1, .int .i64 1, .int .i64 4] W fun e w' => e = .returned (.bool true) ∧ OwnR w w' g awR3 1) := fun W h => seenO h 1 1 4
  have S7 : Hid (∀ W, OwnR w W g awR3 1 → Calls Try.prog 24 #[.pointer (some ⟨g, 0, none⟩), .int .i64 1, .int .i64 4, .int .i64 8, .int .i64 3] W fun e w' => e = .returned (.bool true) ∧ OwnR w w' g awR3 1 ∧ Below W.heap.size W w') := fun W h => safeO h 1 4 8 3 true aw21_safe3
  have S8 : Hid (∀ W, OwnR w W g awR3 1 → Calls Try.prog 22 #[.pointer (some ⟨g, 0, none⟩), .int .i64 1] W fun e w' => e = .returned (.int .i64 4) ∧ w' = W) := fun W h => useO h 1
  have S9 : Hid (∀ W, OwnR w W g awR3 1 → Calls Try.prog 26 #[.pointer (some ⟨g, 0, none⟩), .int .i64 1, .int .i64 2, .int .i64 8] W fun e w' => e = .returned (.bool true) ∧ OwnR w w' g awR4 1) := fun W h => hearO h 1 2 8
  have S10 : Hid (∀ W, OwnR w W g awR4 1 → Calls Try.prog 22 #[.pointer (some ⟨g, 0, none⟩), .int .i64 1] W fun e w' => e = .returned (.int .i64 0) ∧ w' = W) := fun W h => useO h 1
  clear hg e0
  go_enter Try.func7, Try.ntmps7
  go_wp2_with (go_at_call 8; refine HNw.mono ?_; rintro e w1 ⟨rfl, h1⟩; refine of_stopT ?_)
  unfold StopT
  have C1 := S1.out _ h1
  clear S1 HNw h1
  go_wp2_with (go_at_call 26; refine C1.mono ?_; rintro e w2 ⟨rfl, h2⟩; refine of_stopT ?_)
  unfold StopT
  have C2 := S2.out _ h2
  clear C1 S2 h2
  go_wp2_with (go_at_call 27; refine C2.mono ?_; rintro e w3 ⟨rfl, h3⟩; refine of_stopT ?_)
  unfold StopT
  have C3 := S3.out _ h3
  clear C2 S3 h3
  go_wp2_with (go_at_call 24; refine C3.mono ?_; rintro e w4 ⟨rfl, h4, _⟩; refine of_stopT ?_)
  unfold StopT
  have C4 := S4.out _ h4
  clear C3 S4 h4
  go_wp2_with (go_at_call 24; refine C4.mono ?_; rintro e w5 ⟨rfl, h5, _⟩; refine of_stopT ?_)
  unfold StopT
  have C5 := S5.out _ h5
  clear C4 S5 h5
  go_wp2_with (go_at_call 24; refine C5.mono ?_; rintro e w6 ⟨rfl, h6, _⟩; refine of_stopT ?_)
  unfold StopT
  have C6 := S6.out _ h6
  clear C5 S6 h6
  go_wp2_with (go_at_call 28; refine C6.mono ?_; rintro e w7 ⟨rfl, h7⟩; refine of_stopT ?_)
  unfold StopT
  have C7 := S7.out _ h7
  clear C6 S7 h7
  go_wp2_with (go_at_call 24; refine C7.mono ?_; rintro e w8 ⟨rfl, h8, _⟩; refine of_stopT ?_)
  unfold StopT
  have C8 := S8.out _ h8
  have C9 := S9.out _ h8
  clear C7 S8 S9 h8
  go_wp2_with (first
    | (go_at_call 22; refine C8.mono ?_; rintro e w9 ⟨rfl, q⟩; subst q; clear C8)
    | (go_at_call 26; refine C9.mono ?_; rintro e w10 ⟨rfl, h10⟩; refine of_stopT ?_))
  unfold StopT
  have C10 := S10.out _ h10
  have HE : Hid _ := h10.bel
  clear C9 S10 h10
  go_wp2_with (go_at_call 22; refine C10.mono ?_; rintro e w9 ⟨rfl, q⟩; subst q)
  go_ret
  exact ⟨rfl, HE.out⟩
end Go.Proofs.Yteongcihannldaa
