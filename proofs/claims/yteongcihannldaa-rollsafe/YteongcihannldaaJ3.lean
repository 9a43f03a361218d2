import Derived.Test.YteongcihannldaaJ2
import Derived.BigQuiet
namespace Go.Proofs.Yteongcihannldaa
open Go Go.RowKit
set_option maxRecDepth 20000

/-- What holds of it besides. -/
structure RollIn (R : RollM) : Prop where
  cnt : 1 ≤ R.count ∧ R.count ≤ 6
  ok : ∀ s, SwOk (R.sw s)
  heard : ∀ s, 0 ≤ (R.sw s).heard ∧ (R.sw s).heard ≤ 1099511627776
  keys : ∀ s e t, (R.sw s).led e = some t → WfI e
def SafeR (R : RollM) (s epoch now lease : Int) : Prop := isRl R s = true ∧ SafeS (R.sw s) epoch now lease
set_option maxHeartbeats 4000000 in
theorem safe_any (B : Nat) (w : World) (g : Nat) (v : Value) (C : List KnB) (R : RollM) (N : Nat) (h : RollV B w g v C R N) (hi : RollIn R) (s ep now lease : Int) (b : Bool) (hb : b = true ↔ SafeR R s ep now lease) :
    Calls Try.prog 24 #[.pointer (some ⟨g, 0, none⟩), .int .i64 s, .int .i64 ep, .int .i64 now, .int .i64 lease] w fun e w' => e = .returned (.bool b) ∧ Below w.heap.size w w' := by
  rcases h.ofs s with ⟨h1, h2⟩ | ⟨h1, i, p, x, rfl, hx, hp, hF, hS, h2⟩
  · have e : b = false := by
      cases b with
      | false => rfl
      | true => have := (hb.1 rfl).1; rw [h1] at this; cases this
    subst e
    clear h h1 hb hi
    go_enter Try.func24, Try.ntmps24
    go_wp2_with (go_at_call 35; refine h2.mono ?_; rintro e w1 ⟨rfl, q⟩; subst q)
    go_ret
    exact ⟨rfl, Below.refl _ _⟩
  · have c2 := hF.c2
    have c4 := hF.c4
    have hm := hS.leads
    have hu := hS.use
    have hled := (hi.ok ((i : Int) + 1)).led0
    have hkeys := hi.keys ((i : Int) + 1)
    obtain ⟨a, ha⟩ : ∃ a, a = x.use := ⟨_, rfl⟩
    obtain ⟨lb, hlb⟩ : ∃ a, a = x.lb := ⟨_, rfl⟩
    rw [← ha] at c2 hu
    rw [← hlb] at c4 hm
    have HBd := bounded_any w now
    have HO := over_any w p (i * 5) lb N _ ep (clockR now) lease c4 hm (clock_in now) hled
    have HO2 : Calls Try.prog 38 #[.pointer (some ⟨p, i * 5, none⟩), .int .i64 ep, .int .i64 (clockR now), .int .i64 lease] w fun e w' => e = .returned (.bool (b || decide (ep ≤ a) && b)) ∧ Below w.heap.size w w' ∨ ep ≤ a := by
      by_cases q : ep ≤ a
      · exact HO.mono fun _ _ _ => .inr q
      · refine HO.mono ?_
        rintro e w' ⟨c, rfl, hc, hB⟩
        refine .inl ⟨?_, hB⟩
        have e1 : c = b := by
          apply Bool.eq_iff_iff.2
          rw [hc, hb]
          unfold SafeR SafeS youngS
          rw [← hu]
          constructor
          · intro h9
            exact ⟨h1, .inr fun ⟨e, t, k1, k2, k3⟩ => h9 e (hkeys e t k2) ⟨t, k2, k1, k3⟩⟩
          · rintro ⟨_, h9 | h9⟩ e he ⟨t, k2, k1, k3⟩
            · exact q h9
            · exact h9 ⟨e, t, k1, k2, k3⟩
        rw [e1]
        cases b <;> simp
    by_cases q : a ≥ ep
    · have e1 : b = true := hb.2 ⟨h1, .inl (by rw [← hu]; exact q)⟩
      subst e1
      clear h h1 hx hS hF hp ha hlb hm hled hkeys hi HO HO2 hb hu
      go_enter Try.func24, Try.ntmps24
      go_wp2_with (go_at_call 35; refine h2.mono ?_; rintro e w1 ⟨rfl, q⟩; subst q)
      go_ret
      exact ⟨rfl, Below.refl _ _⟩
    · have HO3 : Calls Try.prog 38 #[.pointer (some ⟨p, i * 5, none⟩), .int .i64 ep, .int .i64 (clockR now), .int .i64 lease] w fun e w' => e = .returned (.bool b) ∧ Below w.heap.size w w' := by
        refine HO2.mono ?_
        rintro e w' (⟨h9, hB⟩ | h9)
        · refine ⟨?_, hB⟩
          rw [h9]
          cases b <;> simp
        · exact absurd h9 q
      clear h h1 hx hS hF hp ha hlb hm hled hkeys hi HO HO2 hb hu
      generalize clockR now = cn at HBd HO3
      go_enter Try.func24, Try.ntmps24
      go_wp2_with (first
        | (go_at_call 35; refine h2.mono ?_; rintro e w1 ⟨rfl, q⟩; subst q)
        | (go_at_call 36; refine HBd.mono ?_; rintro e w1 ⟨rfl, q⟩; subst q)
        | (go_at_call 38; refine HO3.mono ?_; rintro e w1 ⟨rfl, hB⟩))
      go_ret
      exact ⟨by simp; intro h9; omega, hB⟩
set_option maxHeartbeats 4000000 in
theorem inRl_any (B : Nat) (w : World) (g : Nat) (v : Value) (C : List KnB) (R : RollM) (N : Nat) (h : RollV B w g v C R N) (hi : RollIn R) (s now lost : Int) :
    Calls Try.prog 18 #[.pointer (some ⟨g, 0, none⟩), .int .i64 s, .int .i64 now, .int .i64 lost] w fun e w' => e = .returned (.bool (inR R s now lost)) ∧ Below w.heap.size w w' := by
  rcases h.ofs s with ⟨h1, h2⟩ | ⟨h1, i, p, x, rfl, hx, hp, hF, hS, h2⟩
  · have e : inR R s now lost = false := by unfold inR; rw [h1]; rfl
    rw [e]
    clear h h1 hi e
    go_enter Try.func18, Try.ntmps18
    go_wp2_with (go_at_call 35; refine h2.mono ?_; rintro e w1 ⟨rfl, q⟩; subst q)
    go_quiet (fail)
    go_wp2_with fail
    go_ret
    exact ⟨rfl, below_drewN _ _⟩
  · have hF' : ∀ m, KnF (w.drewN m) p (i * 5) x := fun m => ⟨hF.c0, hF.c1, hF.c2, hF.c3, hF.c4, hF.fz⟩
    have hh := hi.heard ((i : Int) + 1)
    have hcl := clock_in now
    have e : inR R ((i : Int) + 1) now lost = ((x.inc != 0) && decide (clockR now - x.heard < lost)) := by unfold inR; rw [h1, hS.inc, hS.heard, Bool.true_and]
    rw [e]
    rw [← hS.heard] at hh
    obtain ⟨a, ha⟩ : ∃ a, a = x.inc := ⟨_, rfl⟩
    obtain ⟨t, ht⟩ : ∃ a, a = x.heard := ⟨_, rfl⟩
    have c0 : ∀ m, (w.drewN m).cell? ⟨p, i * 5, none⟩ = some (.int .i64 a) := fun m => by rw [ha]; exact (hF' m).c0
    have c1 : ∀ m, (w.drewN m).cell? ⟨p, i * 5 + 1, none⟩ = some (.int .i64 t) := fun m => by rw [ht]; exact (hF' m).c1
    rw [← ha, ← ht]
    rw [← ht] at hh
    have HBd : Hid (∀ m, Calls Try.prog 36 #[.int .i64 now] (w.drewN m) fun e w' => e = .returned (.int .i64 (clockR now)) ∧ w' = w.drewN m) := fun m => bounded_any _ now
    generalize clockR now = cn at *
    have hwr : IntKind.i64.wrap (cn - t) = cn - t := by rw [IntKind.wrap_i64]; omega
    clear h h1 hx hS hF hF' hp ha ht e hi
    by_cases ha0 : a = 0
    · have ha0' : (a != 0) = false := by simp [ha0]
      rw [ha0']
      go_enter Try.func18, Try.ntmps18
      go_wp2_with (go_at_call 35; refine h2.mono ?_; rintro e w1 ⟨rfl, q⟩; subst q)
      go_quiet (fail)
      go_wp2_with fail
      go_ret
      exact ⟨rfl, below_drewN _ _⟩
    · have ha0' : (a != 0) = true := by simp [ha0]
      rw [ha0']
      obtain ⟨r, hr⟩ : ∃ r, decide (cn - t < lost) = r := ⟨_, rfl⟩
      rw [hr, Bool.true_and]
      go_enter Try.func18, Try.ntmps18
      go_wp2_with (go_at_call 35; refine h2.mono ?_; rintro e w1 ⟨rfl, q⟩; subst q)
      go_quiet (first | (go_at_call 36; exact Calls.quiet_of_same (HBd.out _)))
      go_wp2_with fail
      go_ret
      exact ⟨rfl, below_drewN _ _⟩
end Go.Proofs.Yteongcihannldaa
namespace Go.Proofs.Yteongcihannldaa
open Go Go.RowKit
set_option maxRecDepth 20000

theorem wl_allocE21 {E : El} (H : E.Ok) {ops : Array Oper} {rest : List Oper} {o : Oper} {a : Act} {w : World} {Q : Exit → Act → World → Prop} (hg : o.guard = none) (ho : o.op = .alloc E.elem)
    (h : wpList Try.prog ops Q rest (a.put o.dst (.pointer (some ⟨w.heap.size, 0, none⟩))) (w.alloc (.cells E.zero E.elem))) : wpList Try.prog ops Q (o :: rest) a w := by
  obtain ⟨ie, h1, h2, _, _⟩ := H.info
  refine Great.wpList_allocTo hg o.dst rfl _ _ ?_ h
  unfold execOp
  simp only [ho]
  simp [go_sem, Instr.alloc, zeroValue, typeInfo, h1, h2, Value.cells]
theorem wl_gaR {P : Program} {ops : Array Oper} {Q : Exit → Act → World → Prop} {o : Oper} {rest : List Oper} {a : Act} {w : World} (_ : o.op = .alloc 51) (h : wpList P ops Q (o :: rest) a w) : wpList P ops Q (o :: rest) a w := h
theorem wl_glR {P : Program} {ops : Array Oper} {Q : Exit → Act → World → Prop} {o : Oper} {rest : List Oper} {a : Act} {w : World} (x : Operand) (_ : o.op = .load 51 x) (h : wpList P ops Q (o :: rest) a w) : wpList P ops Q (o :: rest) a w := h
theorem wl_gsR {P : Program} {ops : Array Oper} {Q : Exit → Act → World → Prop} {o : Oper} {rest : List Oper} {a : Act} {w : World} (x y : Operand) (_ : o.op = .store 51 x y) (h : wpList P ops Q (o :: rest) a w) : wpList P ops Q (o :: rest) a w := h
def bornS (inc : Int) : SwM := { sw0 with life := inc }
set_option maxHeartbeats 4000000 in
theorem newborn_any (w : World) (inc : Int) : Calls Try.prog 29 #[.int .i64 inc] w fun e w' => ∃ y : KnB, e = .returned (.agg (knV y)) ∧ SwV w' y (bornS inc) 0 ∧ w.heap.size ≤ y.ib ∧ w.heap.size ≤ y.lb ∧ y.ib ≠ y.lb ∧ Below w.heap.size w w' := by
  have hmm := @run_makeMap Try.prog
  have HW : Hid (∀ W0 : World, W0 = (((w.alloc (.cells zeroKn 51)).alloc (.map #[] 0)).alloc (.map #[] 0)).setRow w.heap.size (knV ⟨inc, 0, 0, w.heap.size + 1, w.heap.size + 1 + 1⟩) → (W0.heap[w.heap.size]? = some (.cells (knV ⟨inc, 0, 0, w.heap.size + 1, w.heap.size + 1 + 1⟩) 51 (0, 0)) ∧ SwV W0 ⟨inc, 0, 0, w.heap.size + 1, w.heap.size + 1 + 1⟩ (bornS inc) 0 ∧ Below w.heap.size w W0)) := fun W0 hW0 => by
    have b0 : (w.alloc (.cells zeroKn 51)).heap[w.heap.size]? = some (.cells zeroKn 51 (0, 0)) := heap_new _ _ _ rfl
    have s0 : (w.alloc (.cells zeroKn 51)).heap.size = w.heap.size + 1 := by simp
    have m1 := MapV.made (w.alloc (.cells zeroKn 51))
    rw [s0] at m1
    have s1 : ((w.alloc (.cells zeroKn 51)).alloc (.map #[] 0)).heap.size = w.heap.size + 1 + 1 := by simp
    have m2 := MapV.made ((w.alloc (.cells zeroKn 51)).alloc (.map #[] 0))
    rw [s1] at m2
    have b2 := heap_past _ (.map #[] 0) _ _ (heap_past _ (.map #[] 0) _ _ b0)
    have hK : Kept (isB w.heap.size) (((w.alloc (.cells zeroKn 51)).alloc (.map #[] 0)).alloc (.map #[] 0)) W0 := by
      rw [hW0]
      exact ⟨rfl, rfl, rfl, by simp [World.setRow], fun k _ e => setRow_other _ _ k _ (by unfold isB at e; exact e)⟩
    have m1' : MapV (((w.alloc (.cells zeroKn 51)).alloc (.map #[] 0)).alloc (.map #[] 0)) (w.heap.size + 1) 0 (fun _ => none) := m1.same (Below.heap_alloc _ _ _ (by rw [s1]; omega))
    refine ⟨by rw [hW0]; exact setRow_heap _ _ _ _ _ _ b2, ⟨rfl, rfl, rfl, ⟨_, m1'.kept hK (by unfold isB; omega), fun _ _ => rfl⟩, m2.kept hK (by unfold isB; omega)⟩, ?_⟩
    rw [hW0]
    exact below_setRow ((((Below.refl _ _).alloc (Nat.le_refl _) _).alloc (by simp) _).alloc (by simp; omega) _) (Nat.le_refl _) _
  go_enter Try.func29, Try.ntmps29
  go_wp2_with (first
    | ((with_reducible refine wl_gaR rfl ?_); refine wl_allocE21 (E := KnE) KnOk rfl rfl ?_)
    | ((with_reducible refine wl_gsR _ _ rfl ?_); refine wl_storeA KnGOk rfl _ _ rfl w.heap.size (knV ⟨inc, 0, 0, w.heap.size + 1, w.heap.size + 1 + 1⟩) ⟨rfl, by simp [knV, Value.oneCell']⟩ rfl rfl zeroKn (heap_past _ _ _ _ (heap_past _ _ _ _ (heap_new _ _ _ rfl))) rfl _ rfl ?_))
  obtain ⟨q1, q2, q3⟩ := HW.out _ rfl
  exact retA14 KnGOk (p := 2) rfl rfl w.heap.size rfl _ rfl q1 ⟨_, rfl, q2, Nat.le_succ _, by show w.heap.size ≤ w.heap.size + 1 + 1; omega, by show w.heap.size + 1 ≠ w.heap.size + 1 + 1; omega, q3⟩
end Go.Proofs.Yteongcihannldaa
namespace Go.Proofs.Yteongcihannldaa
open Go Go.RowKit
set_option maxRecDepth 20000

theorem gcells_set21 {α : Type} (enc : α → Array Value) (n : Nat) : ∀ (C : List α), (∀ c ∈ C, (enc c).size = n) → ∀ (i : Nat) (x y : α) (j : Nat) (u : Value), C[i]? = some x → j < n → (enc x).setIfInBounds j u = enc y → (gcells enc C).set (i * n + j) u = gcells enc (C.set i y)
  | [], _, i, x, y, j, u, h, _, _ => by simp at h
  | c :: C, hC, 0, x, y, j, u, h, hj, he => by
    obtain rfl : c = x := by simpa using h
    have h1 := hC c (by simp)
    rw [List.set_cons_zero, gcells_cons, gcells_cons, Nat.zero_mul, Nat.zero_add, List.set_append_left _ _ (by rw [Array.length_toList, h1]; exact hj), ← he, Array.toList_setIfInBounds]
  | c :: C, hC, i + 1, x, y, j, u, h, hj, he => by
    have h1 := hC c (by simp)
    rw [List.getElem?_cons_succ] at h
    rw [List.set_cons_succ, gcells_cons, gcells_cons, ← gcells_set21 enc n C (fun d hd => hC d (by simp [hd])) i x y j u h hj he, List.set_append_right _ _ (by rw [Array.length_toList, h1, Nat.add_mul, Nat.one_mul]; omega), Array.length_toList, h1]
    congr 2
    rw [Nat.add_mul, Nat.one_mul]
    omega
theorem list_set_same {α : Type} {l : List α} {i : Nat} {a : α} (h : l[i]? = some a) : l.set i a = l := by
  apply List.ext_getElem?
  intro j
  by_cases hij : i = j
  · subst hij
    rw [List.getElem?_set_self (List.getElem?_eq_some_iff.1 h).1, h]
  · rw [List.getElem?_set_ne hij]
theorem SwV.apart {B : Nat} {w : World} {g : Nat} {v : Value} {C : List KnB} {R : RollM} {N : Nat} (h : RollV B w g v C R N) {y : KnB} {m : SwM} {N' : Nat} (hs : SwV w y m N') : v.ownBlock ≠ some y.ib ∧ v.ownBlock ≠ some y.lb := by
  obtain ⟨f, q, _⟩ := hs.items
  exact ⟨q.row h.row, hs.leads.row h.row⟩
/-- A number of a switch is set. -/
theorem RollV.setNum {B : Nat} {w : World} {g : Nat} {v : Value} {C : List KnB} {R : RollM} {N : Nat} (h : RollV B w g v C R N) {i p : Nat} {x : KnB} (hx : C[i]? = some x) (hp : v.ownBlock = some p) (j : Nat) (u : Value) (hj : j < 3) (y : KnB) (he : (knV x).setIfInBounds j u = knV y) (m' : SwM)
    (hs : SwV w y m' N) (hib : y.ib = x.ib) (hlb : y.lb = x.lb) : RollV B (w.setCell ⟨p, i * 5 + j, none⟩ u) g v (C.set i y) (setR R (i + 1) m') N ∧ Frm (footR g v C) (footR g v (C.set i y)) w (w.setCell ⟨p, i * 5 + j, none⟩ u) := by
  obtain ⟨p', cap, cur, e, h1, h2, h3, h4, h5, h6, h7, h8⟩ := h.at hx
  obtain rfl : p' = p := by rw [e] at hp; simpa [Value.ownBlock] using hp
  have hr := h.row
  rw [e] at hr
  have hst := World.ownsRow.stored hr (i * 5 + j) u
  have hk : Kept (fun k => v.ownBlock = some k ∨ k = x.ib ∨ k = x.lb) w (w.setCell ⟨p', i * 5 + j, none⟩ u) := Kept.of_grown hst.2 fun k q => by rw [← q]; exact .inl hp
  have hap := hs.apart h
  have hkp : Kept (isB p') w (w.setCell ⟨p', i * 5 + j, none⟩ u) := Kept.of_grown hst.2 fun k q => by unfold isB; exact (Option.some.inj q).symm
  refine h.upd hx y m' (Nat.le_refl _) hk ?_ (hs.kept hkp ?_ ?_ (Nat.le_refl _)) (.inl hib) (.inl hlb) ?_
  · rw [← gcells_set21 knV 5 C (fun _ _ => rfl) i x y j u hx (by omega) he, e]
    exact hst.1
  · unfold isB; intro q; rw [hp, q] at hap; exact hap.1 rfl
  · unfold isB; intro q; rw [hp, q] at hap; exact hap.2 rfl
  · rw [hib, hlb]; exact (h.lo i x hx).2.2
/-- A map of a switch has turned. -/
theorem RollV.setMap {B : Nat} {w w' : World} {g : Nat} {v : Value} {C : List KnB} {R : RollM} {N N' : Nat} (h : RollV B w g v C R N) {i : Nat} {x : KnB} (hx : C[i]? = some x) (b : Nat) (hb : b = x.ib ∨ b = x.lb) (hg : w.grownBy w' (some b)) (m' : SwM)
    (hs : SwV w' x m' N') (hn : N ≤ N') : RollV B w' g v C (setR R (i + 1) m') N' ∧ Frm (footR g v C) (footR g v C) w w' := by
  have hk : Kept (fun k => v.ownBlock = some k ∨ k = x.ib ∨ k = x.lb) w w' := Kept.of_grown hg fun k q => by
    obtain rfl := Option.some.inj q
    exact .inr hb
  have hkb : Kept (isB b) w w' := Kept.of_grown hg fun k q => by unfold isB; exact (Option.some.inj q).symm
  have hne : v.ownBlock ≠ some b := by
    have := (h.sws i x hx).apart h
    rcases hb with rfl | rfl
    · exact this.1
    · exact this.2
  have := h.upd hx x m' hn hk (by rw [list_set_same hx]; exact hkb.own h.row fun k e q => by unfold isB at q; subst q; exact hne e) hs (.inl rfl) (.inl rfl) (h.lo i x hx).2.2
  rw [list_set_same hx] at this
  exact this
/-- A switch is begun anew. -/
theorem RollV.setNew {B : Nat} {w w1 : World} {g : Nat} {v : Value} {C : List KnB} {R : RollM} {N : Nat} (h : RollV B w g v C R N) {i : Nat} {x : KnB} (hx : C[i]? = some x) (hb : Below w.heap.size w w1) (y : KnB) (m' : SwM) (hs : SwV w1 y m' 0) (h1 : w.heap.size ≤ y.ib) (h2 : w.heap.size ≤ y.lb) (h3 : y.ib ≠ y.lb)
    (p : Nat) (hp : v.ownBlock = some p) (cur : Array Value) (hcur : w.heap[p]? = some (.cells cur 51 (0, 0))) :
    RollV B (w1.setRow p (cur.toList.take (i * 5) ++ (knV y).toList ++ cur.toList.drop (i * 5 + 5)).toArray) g v (C.set i y) (setR R (i + 1) m') N ∧ Frm (footR g v C) (footR g v (C.set i y)) w (w1.setRow p (cur.toList.take (i * 5) ++ (knV y).toList ++ cur.toList.drop (i * 5 + 5)).toArray) := by
  obtain ⟨p', cap, cur', e, q1, q2, q3, q4, q5, q6, q7, q8⟩ := h.at hx
  obtain rfl : p' = p := by rw [e] at hp; simpa [Value.ownBlock] using hp
  rw [hcur] at q3
  simp only [Option.some.injEq, Obj.cells.injEq] at q3
  obtain ⟨rfl, _⟩ := q3
  have hil : i < C.length := (List.getElem?_eq_some_iff.1 hx).1
  have hpl : p' < w.heap.size := (Array.getElem?_eq_some_iff.1 hcur).1
  have hcur1 : w1.heap[p']? = some (.cells cur 51 (0, 0)) := (hb.block p' hpl).trans hcur
  have hKp : Kept (isB p') w1 (w1.setRow p' (cur.toList.take (i * 5) ++ (knV y).toList ++ cur.toList.drop (i * 5 + 5)).toArray) := ⟨rfl, rfl, rfl, by simp [World.setRow], fun k _ e => setRow_other _ _ k _ (by unfold isB at e; exact e)⟩
  have hk : Kept (fun k => v.ownBlock = some k ∨ k = x.ib ∨ k = x.lb) w (w1.setRow p' (cur.toList.take (i * 5) ++ (knV y).toList ++ cur.toList.drop (i * 5 + 5)).toArray) :=
    (Kept.of_below hb).trans hKp fun k q => .inl (.inl (by unfold isB at q; rw [q]; exact hp))
  refine h.upd hx y m' (Nat.le_refl _) hk ?_ (hs.kept hKp (by unfold isB; omega) (by unfold isB; omega) (Nat.zero_le _)) (.inr h1) (.inr h2) h3
  have hl1 : (cur.toList.take (i * 5)).length = i * 5 := by rw [List.length_take, Array.length_toList]; omega
  refine ⟨?_, .inr ⟨p', cap, _, e, q8, setRow_heap _ _ _ _ _ _ hcur1, q1, q2, ?_, ?_⟩⟩
  · have := h.row.1
    rw [← gcells_setN knV 5 C (fun _ _ => rfl) i y hil]
    simp only [List.length_append, List.length_take, List.length_drop, this]
    have : (knV y).toList.length = 5 := rfl
    omega
  · rw [List.size_toArray]
    simp only [List.length_append, hl1, List.length_drop, Array.length_toList]
    have : (knV y).size = 5 := rfl
    omega
  · rw [← gcells_setN knV 5 C (fun _ _ => rfl) i y hil, ← q6]
    simp only [List.append_assoc]
    have hl5 : (knV y).toList.length = 5 := rfl
    have eA : (cur.toList.take (i * 5)).take (C.length * 5) = (cur.toList.take (C.length * 5)).take (i * 5) := by rw [List.take_take, List.take_take, Nat.min_comm]
    have eB : (cur.toList.drop (i * 5 + 5)).take (C.length * 5 - i * 5 - 5) = (cur.toList.take (C.length * 5)).drop (i * 5 + 5) := by rw [List.drop_take]; congr 1
    rw [List.take_append, List.take_append, hl1, hl5, eA, eB, List.take_of_length_le (l := (knV y).toList) (by rw [hl5]; omega)]
end Go.Proofs.Yteongcihannldaa
namespace Go.Proofs.Yteongcihannldaa
open Go Go.RowKit
set_option maxRecDepth 20000

theorem hearR_no {R : RollM} {s inc : Int} (h : ¬ (isRl R s = true ∧ 1 ≤ inc ∧ (R.sw s).life ≤ inc)) (now : Int) : hearR R s inc now = (R, false) := by unfold hearR; exact if_neg h
theorem hearR_yes {R : RollM} {s inc : Int} (h : isRl R s = true ∧ 1 ≤ inc ∧ (R.sw s).life ≤ inc) (now : Int) : hearR R s inc now = (setR R s (hearS (R.sw s) inc now), true) := by unfold hearR; exact if_pos h
theorem setR_twice (R : RollM) (s : Int) (a b : SwM) : setR (setR R s a) s b = setR R s b := by
  unfold setR
  simp only
  congr 1
  funext k
  by_cases e : k = s
  · simp [e]
  · simp [e]
set_option maxHeartbeats 8000000 in
theorem hear_any (B : Nat) (w : World) (g : Nat) (v : Value) (C : List KnB) (R : RollM) (N : Nat) (h : RollV B w g v C R N) (s inc now : Int) :
    Calls Try.prog 26 #[.pointer (some ⟨g, 0, none⟩), .int .i64 s, .int .i64 inc, .int .i64 now] w fun e w' => e = .returned (.bool (hearR R s inc now).2) ∧ RollTo B w w' g v C (hearR R s inc now).1 N := by
  rcases h.ofs s with ⟨h1, h2⟩ | ⟨h1, i, p, x, rfl, hx, hp, hF, hS, h2⟩
  · rw [hearR_no (by rw [h1]; simp)]
    have H0 : Hid (RollTo B w w g v C R N) := h.stay (Below.refl _ _) (Nat.le_refl _)
    clear h h1
    go_enter Try.func26, Try.ntmps26
    go_wp2_with (go_at_call 35; refine h2.mono ?_; rintro e w1 ⟨rfl, q⟩; subst q)
    go_ret
    exact ⟨rfl, H0.out⟩
  have c0 := hF.c0
  by_cases k1 : 1 ≤ inc ∧ (R.sw ((i : Int) + 1)).life ≤ inc
  case neg =>
    rw [hearR_no (fun q => k1 q.2)]
    have H0 : Hid (RollTo B w w g v C R N) := h.stay (Below.refl _ _) (Nat.le_refl _)
    rw [← hS.inc] at k1
    obtain ⟨a, ha⟩ : ∃ a, a = x.inc := ⟨_, rfl⟩
    rw [← ha] at c0 k1
    clear h h1 hx hp hF hS ha
    by_cases k2 : inc < 1
    · clear k1
      go_enter Try.func26, Try.ntmps26
      go_wp2_with (go_at_call 35; refine h2.mono ?_; rintro e w1 ⟨rfl, q⟩; subst q)
      go_ret
      exact ⟨rfl, H0.out⟩
    · have k3 : inc < a := by omega
      clear k1
      go_enter Try.func26, Try.ntmps26
      go_wp2_with (go_at_call 35; refine h2.mono ?_; rintro e w1 ⟨rfl, q⟩; subst q)
      go_ret
      exact ⟨rfl, H0.out⟩
  rw [hearR_yes ⟨h1, k1⟩]
  obtain ⟨k1, k2⟩ := k1
  have k2' := k2
  rw [← hS.inc] at k2
  obtain ⟨a, ha⟩ : ∃ a, a = x.inc := ⟨_, rfl⟩
  have ki : ¬ inc < 1 := by omega
  have kl : ¬ inc < a := by omega
  obtain ⟨t, ht⟩ : ∃ t, t = clockR now := ⟨_, rfl⟩
  have HBd : Hid (∀ W, Calls Try.prog 36 #[.int .i64 now] W fun e w' => e = .returned (.int .i64 t) ∧ w' = W) := fun W => by rw [ht]; exact bounded_any W now
  by_cases k3 : inc > a
  · have HNB := newborn_any w inc
    obtain ⟨cur, hcur⟩ : ∃ cur, w.heap[p]? = some (.cells cur 51 (0, 0)) := by
      obtain ⟨p', cap, cur, e, _, _, q3, _⟩ := h.at hx
      obtain rfl : p' = p := by rw [e] at hp; simpa [Value.ownBlock] using hp
      exact ⟨cur, q3⟩
    have hsz : i * 5 + 5 ≤ cur.size := by
      obtain ⟨p', cap, cur', e, _, _, q3, q4, _⟩ := h.at hx
      obtain rfl : p' = p := by rw [e] at hp; simpa [Value.ownBlock] using hp
      rw [hcur] at q3
      simp only [Option.some.injEq, Obj.cells.injEq] at q3
      rw [q3.1]; exact q4
    have HE : hearS (R.sw ((i : Int) + 1)) inc now = { bornS inc with heard := t } := by
      unfold hearS
      rw [if_pos (by rw [← hS.inc, ← ha]; exact k3), ht]
      rfl
    have HS2 : Hid (∀ w1, Below w.heap.size w w1 → ∀ y : KnB, SwV w1 y (bornS inc) 0 → w.heap.size ≤ y.ib → w.heap.size ≤ y.lb → y.ib ≠ y.lb → (w1.heap[p]? = some (.cells cur 51 (0, 0)) ∧ ∀ w2, w2 = w1.setRow p (cur.toList.take (i * 5) ++ (knV y).toList ++ cur.toList.drop (i * 5 + 5)).toArray → (w2.cell? ⟨p, i * 5 + 1, none⟩ = some (.int .i64 0) ∧ w2.frozen? ⟨p, i * 5 + 1, none⟩ = false ∧ RollTo B w (w2.setCell ⟨p, i * 5 + 1, none⟩ (.int .i64 t)) g v C (setR R ((i : Int) + 1) (hearS (R.sw ((i : Int) + 1)) inc now)) N))) := by
      intro w1 hb y hy q1 q2 q3
      refine ⟨(hb.block p (Array.getElem?_eq_some_iff.1 hcur).1).trans hcur, fun w2 hw2 => ?_⟩
      obtain ⟨r1, r2⟩ := h.setNew hx hb y (bornS inc) hy q1 q2 q3 p hp cur hcur
      rw [← hw2] at r1 r2
      have hx2 : (C.set i y)[i]? = some y := List.getElem?_set_self (List.getElem?_eq_some_iff.1 hx).1
      obtain ⟨p', cap, e, _, _, F2⟩ := r1.kn hx2
      obtain rfl : p' = p := by rw [e] at hp; simpa [Value.ownBlock] using hp
      obtain ⟨r3, r4⟩ := r1.setNum hx2 hp 1 (.int .i64 t) (by decide) { y with heard := t } rfl { bornS inc with heard := t } (by
        have := r1.sws i y hx2
        rw [set_at] at this
        exact ⟨this.inc, rfl, this.use, this.items, this.leads⟩) rfl rfl
      have hy0 : y.heard = 0 := hy.heard
      refine ⟨by have := F2.c1; rw [hy0] at this; exact this, F2.fz _, ⟨_, ?_, r2.trans r4⟩⟩
      rw [HE]
      have := r3
      rw [setR_twice] at this
      exact this
    rw [← ha] at c0
    have HC : Hid (w.heap[p]? = some (.cells cur 51 (0, 0))) := hcur
    clear h h1 hx hp hF hS ha k2 k2' HE hcur ht
    go_enter Try.func26, Try.ntmps26
    go_wp2_with (first
      | (go_at_call 35; refine h2.mono ?_; rintro e w1 ⟨rfl, q⟩; subst q)
      | (go_at_call 29; refine of_stopT ?_))
    unfold StopT
    refine HNB.mono ?_
    rintro e w1 ⟨y, rfl, n1, n2, n3, n4, n5⟩
    obtain ⟨t1, t2⟩ := HS2.out w1 n5 y n1 n2 n3 n4
    obtain ⟨csN, hcsN⟩ : ∃ c, (cur.toList.take (i * 5) ++ (knV y).toList ++ cur.toList.drop (i * 5 + KnG.size)).toArray = c := ⟨_, rfl⟩
    obtain ⟨c1, f1, r1⟩ := t2 (w1.setRow p csN) (by rw [← hcsN]; rfl)
    have T1 : Hid _ := t1
    have R1 : Hid _ := r1
    have HCS : Hid _ := hcsN
    clear n1 n2 n3 n4 n5 HS2 HNB t1 t2 HC r1 hcsN
    go_wp2_with (first
      | ((with_reducible refine wl_gsR _ _ rfl ?_); refine wl_storeAP KnGOk rfl _ _ rfl p (i * 5) rfl (knV y) ⟨rfl, by simp [knV, Value.oneCell']⟩ rfl cur 51 T1.out hsz csN HCS.out ?_; refine of_stopT ?_))
    unfold StopT
    clear T1 HCS
    go_wp2_with (first
      | (go_at_call 36; refine (HBd.out _).mono ?_; rintro e w3 ⟨rfl, q⟩; subst q))
    go_ret
    exact ⟨rfl, R1.out⟩
  · have e0 : inc = a := by omega
    have HE : hearS (R.sw ((i : Int) + 1)) inc now = { R.sw ((i : Int) + 1) with heard := t } := by
      unfold hearS
      rw [if_neg (by rw [← hS.inc, ← ha]; omega), ht]
    have R1 : Hid (RollTo B w (w.setCell ⟨p, i * 5 + 1, none⟩ (.int .i64 t)) g v C (setR R ((i : Int) + 1) (hearS (R.sw ((i : Int) + 1)) inc now)) N) := by
      obtain ⟨r3, r4⟩ := h.setNum hx hp 1 (.int .i64 t) (by decide) { x with heard := t } rfl { R.sw ((i : Int) + 1) with heard := t } ⟨hS.inc, rfl, hS.use, hS.items, hS.leads⟩ rfl rfl
      exact ⟨_, by rw [HE]; exact r3, r4⟩
    have f1 := hF.fz (i * 5 + 1)
    have c1 := hF.c1
    rw [← ha] at c0
    clear h h1 hx hp hF hS ha k2 k2' HE ht
    go_enter Try.func26, Try.ntmps26
    go_wp2_with (first
      | (go_at_call 35; refine h2.mono ?_; rintro e w1 ⟨rfl, q⟩; subst q)
      | (go_at_call 36; refine (HBd.out _).mono ?_; rintro e w3 ⟨rfl, q⟩; subst q))
    go_ret
    exact ⟨rfl, R1.out⟩
end Go.Proofs.Yteongcihannldaa
namespace Go.Proofs.Yteongcihannldaa
open Go Go.RowKit
set_option maxRecDepth 20000

set_option maxHeartbeats 2000000 in
/-- It has to be in just that life. -/
theorem RollV.wins {B : Nat} {w : World} {g : Nat} {v : Value} {C : List KnB} {R : RollM} {N : Nat} (h : RollV B w g v C R N) (s inc : Int) :
    (livesR R s inc = false ∧ Calls Try.prog 39 #[.pointer (some ⟨g, 0, none⟩), .int .i64 s, .int .i64 inc] w fun e w' => e = .returned (.pointer none) ∧ w' = w) ∨
    (livesR R s inc = true ∧ ∃ (i p : Nat) (x : KnB), s = (i : Int) + 1 ∧ C[i]? = some x ∧ v.ownBlock = some p ∧ KnF w p (i * 5) x ∧ SwV w x (R.sw s) N ∧ Calls Try.prog 39 #[.pointer (some ⟨g, 0, none⟩), .int .i64 s, .int .i64 inc] w fun e w' => e = .returned (.pointer (some ⟨p, i * 5, none⟩)) ∧ w' = w) := by
  rcases h.ofs s with ⟨h1, h2⟩ | ⟨h1, i, p, x, rfl, hx, hp, hF, hS, h2⟩
  · left
    refine ⟨by unfold livesR; rw [h1]; rfl, ?_⟩
    clear h h1
    go_enter Try.func39, Try.ntmps39
    go_wp2_with (go_at_call 35; refine h2.mono ?_; rintro e w1 ⟨rfl, q⟩; subst q)
    go_ret
    exact ⟨rfl, rfl⟩
  have c0 := hF.c0
  have el : livesR R ((i : Int) + 1) inc = ((inc != 0) && (x.inc == inc)) := by unfold livesR; rw [h1, hS.inc, Bool.true_and]
  obtain ⟨a, ha⟩ : ∃ a, a = x.inc := ⟨_, rfl⟩
  rw [← ha] at c0
  by_cases k0 : inc = 0
  · left
    refine ⟨by rw [el, k0]; rfl, ?_⟩
    clear h h1 hx hp hF hS ha el
    have k0' : (inc == 0) = true := by simp [k0]
    go_enter Try.func39, Try.ntmps39
    go_wp2_with (go_at_call 35; refine h2.mono ?_; rintro e w1 ⟨rfl, q⟩; subst q)
    go_ret
    exact ⟨rfl, rfl⟩
  have k0' : (inc == 0) = false := by simp [k0]
  by_cases k1 : a = inc
  · right
    refine ⟨by rw [el, ← ha, k1]; simp [k0], i, p, x, rfl, hx, hp, hF, hS, ?_⟩
    have k1' : (a != inc) = false := by simp [k1]
    clear h h1 hx hp hF hS ha el k0 k1
    go_enter Try.func39, Try.ntmps39
    go_wp2_with (go_at_call 35; refine h2.mono ?_; rintro e w1 ⟨rfl, q⟩; subst q)
    go_ret
    exact ⟨rfl, rfl⟩
  · left
    refine ⟨by rw [el, ← ha]; simp [k1], ?_⟩
    have k1' : (a != inc) = true := by simp [k1]
    clear h h1 hx hp hF hS ha el k0 k1
    go_enter Try.func39, Try.ntmps39
    go_wp2_with (go_at_call 35; refine h2.mono ?_; rintro e w1 ⟨rfl, q⟩; subst q)
    go_ret
    exact ⟨rfl, rfl⟩
theorem ackR_no {R : RollM} {s inc : Int} (h : livesR R s inc = false) (e n : Int) : ackR R s inc e n = (R, false) := by unfold ackR; rw [h]; rfl
theorem ackR_yes {R : RollM} {s inc : Int} (h : livesR R s inc = true) (e n : Int) : ackR R s inc e n = (setR R s (ackS (R.sw s) e n), true) := by unfold ackR; exact if_pos h
theorem seenR_no {R : RollM} {s inc : Int} (h : livesR R s inc = false) (n : Int) : seenR R s inc n = (R, false) := by unfold seenR; rw [h]; rfl
theorem seenR_yes {R : RollM} {s inc : Int} (h : livesR R s inc = true) (n : Int) : seenR R s inc n = (setR R s (seenS (R.sw s) n), true) := by unfold seenR; exact if_pos h
theorem setR_self (R : RollM) (s : Int) : setR R s (R.sw s) = R := by
  unfold setR
  cases R
  simp only
  congr 1
  funext k
  by_cases e : k = s
  · simp [e]
  · simp [e]
set_option maxHeartbeats 4000000 in
theorem ackRl_any (B : Nat) (w : World) (g : Nat) (v : Value) (C : List KnB) (R : RollM) (N : Nat) (h : RollV B w g v C R N) (hN : N ≤ 100000) (s inc ep n : Int) (he : WfI ep) (hn : WfI n) :
    Calls Try.prog 33 #[.pointer (some ⟨g, 0, none⟩), .int .i64 s, .int .i64 inc, .int .i64 ep, .int .i64 n] w fun e w' => e = .returned (.bool (ackR R s inc ep n).2) ∧ RollTo B w w' g v C (ackR R s inc ep n).1 (N + 1) := by
  rcases h.wins s inc with ⟨h1, h2⟩ | ⟨h1, i, p, x, rfl, hx, hp, hF, hS, h2⟩
  · rw [ackR_no h1]
    have H0 : Hid (RollTo B w w g v C R (N + 1)) := h.stay (Below.refl _ _) (Nat.le_succ _)
    clear h h1
    go_enter Try.func33, Try.ntmps33
    go_wp2_with (go_at_call 39; refine h2.mono ?_; rintro e w1 ⟨rfl, q⟩; subst q)
    go_ret
    exact ⟨rfl, H0.out⟩
  rw [ackR_yes h1]
  obtain ⟨f, q1, q2⟩ := hS.items
  have c3 := hF.c3
  have hfe : (f ep).getD 0 = (R.sw ((i : Int) + 1)).have_ ep := q2 ep he
  obtain ⟨a, ha⟩ : ∃ a, a = x.ib := ⟨_, rfl⟩
  obtain ⟨m, hm⟩ : ∃ m, m = (f ep).getD 0 := ⟨_, rfl⟩
  have HM : Hid (MapV w a N f) := by rw [ha]; exact q1
  have HE : Hid (WfI ep) := he
  have HN : Hid (WfI n) := hn
  have HL : Hid (N < maxLen) := by show _ < _; unfold maxLen; omega
  rw [← ha] at c3
  by_cases k : n > m
  · have HT : Hid (∀ w', MapV w' a (N + 1) (putO f ep n) → w.grownBy w' (some a) → RollTo B w w' g v C (setR R ((i : Int) + 1) (ackS (R.sw ((i : Int) + 1)) ep n)) (N + 1)) := by
      intro w' z1 z2
      have hk2 : Kept (isB a) w w' := Kept.of_grown z2 fun k q => by unfold isB; exact (Option.some.inj q).symm
      obtain ⟨r1, r2⟩ := h.setMap hx a (.inl ha) z2 (ackS (R.sw ((i : Int) + 1)) ep n) (N' := N + 1) ⟨hS.inc, hS.heard, hS.use, ⟨_, by rw [← ha]; exact z1, fun j hj => by
        unfold putO ackS
        dsimp only
        by_cases e : j = ep
        · rw [if_pos e, if_pos e, ← hfe, ← hm]
          show n = _
          omega
        · rw [if_neg e, if_neg e]
          exact q2 j hj⟩, (hS.leads.kept hk2 (by unfold isB; rw [ha]; exact fun q => (h.lo i x hx).2.2 q.symm)).mono (Nat.le_succ _)⟩ (Nat.le_succ _)
      exact ⟨_, r1, r2⟩
    clear h h1 hx hp hF hS ha q1 q2 he hn hfe
    go_enter Try.func33, Try.ntmps33
    go_wp2_with (first
      | (go_at_call 39; refine h2.mono ?_; rintro e w1 ⟨rfl, q⟩; subst q)
      | (at_lookup; refine wl_mapGet rfl _ _ rfl a N f ep rfl rfl HM.out HE.out ?_; rw [← hm])
      | (at_mapUpdate; refine wl_mapPut rfl _ _ _ rfl a N f ep n rfl rfl rfl HM.out HE.out HN.out HL.out ?_; intro w1 z1 z2; refine of_stopT ?_))
    unfold StopT
    have R1 := HT.out w1 z1 z2
    have R2 : Hid _ := R1
    clear z1 z2 HT R1 HM
    go_wp2_with fail
    go_ret
    exact ⟨rfl, R2.out⟩
  · have e0 : ackS (R.sw ((i : Int) + 1)) ep n = R.sw ((i : Int) + 1) := by
      unfold ackS
      cases hq : R.sw ((i : Int) + 1)
      rw [hq] at hfe
      simp only [SwM.mk.injEq, true_and, and_true]
      funext j
      by_cases e : j = ep
      · rw [if_pos e, e]
        dsimp only at hfe
        rw [← hfe, ← hm]
        omega
      · rw [if_neg e]
    rw [e0, setR_self]
    have H0 : Hid (RollTo B w w g v C R (N + 1)) := h.stay (Below.refl _ _) (Nat.le_succ _)
    clear h h1 hx hp hF hS ha q1 q2 he hn hfe e0
    go_enter Try.func33, Try.ntmps33
    go_wp2_with (first
      | (go_at_call 39; refine h2.mono ?_; rintro e w1 ⟨rfl, q⟩; subst q)
      | (at_lookup; refine wl_mapGet rfl _ _ rfl a N f ep rfl rfl HM.out HE.out ?_; rw [← hm]))
    go_ret
    exact ⟨rfl, H0.out⟩
set_option maxHeartbeats 4000000 in
theorem seenRl_any (B : Nat) (w : World) (g : Nat) (v : Value) (C : List KnB) (R : RollM) (N : Nat) (h : RollV B w g v C R N) (s inc n : Int) :
    Calls Try.prog 28 #[.pointer (some ⟨g, 0, none⟩), .int .i64 s, .int .i64 inc, .int .i64 n] w fun e w' => e = .returned (.bool (seenR R s inc n).2) ∧ RollTo B w w' g v C (seenR R s inc n).1 N := by
  rcases h.wins s inc with ⟨h1, h2⟩ | ⟨h1, i, p, x, rfl, hx, hp, hF, hS, h2⟩
  · rw [seenR_no h1]
    have H0 : Hid (RollTo B w w g v C R N) := h.stay (Below.refl _ _) (Nat.le_refl _)
    clear h h1
    go_enter Try.func28, Try.ntmps28
    go_wp2_with (go_at_call 39; refine h2.mono ?_; rintro e w1 ⟨rfl, q⟩; subst q)
    go_ret
    exact ⟨rfl, H0.out⟩
  rw [seenR_yes h1]
  have c2 := hF.c2
  have f2 := hF.fz (i * 5 + 2)
  obtain ⟨a, ha⟩ : ∃ a, a = x.use := ⟨_, rfl⟩
  obtain ⟨m, hm⟩ : ∃ m, m = max a n := ⟨_, rfl⟩
  have HMX : Hid (m = max a n) := hm
  have R1 : Hid (RollTo B w (w.setCell ⟨p, i * 5 + 2, none⟩ (.int .i64 m)) g v C (setR R ((i : Int) + 1) (seenS (R.sw ((i : Int) + 1)) n)) N) := by
    obtain ⟨r3, r4⟩ := h.setNum hx hp 2 (.int .i64 m) (by decide) { x with use := m } rfl (seenS (R.sw ((i : Int) + 1)) n) ⟨hS.inc, hS.heard, by rw [hm, ha, hS.use]; rfl, hS.items, hS.leads⟩ rfl rfl
    exact ⟨_, r3, r4⟩
  rw [← ha] at c2
  clear h h1 hx hp hF hS ha hm
  go_enter Try.func28, Try.ntmps28
  go_wp2_with (first
    | (go_at_call 39; refine h2.mono ?_; rintro e w1 ⟨rfl, q⟩; subst q)
    | (refine wl_maxI rfl (.tmp 20) (.tmp 21) rfl a n m rfl rfl HMX.out ?_))
  go_ret
  exact ⟨rfl, R1.out⟩
end Go.Proofs.Yteongcihannldaa
namespace Go.Proofs.Yteongcihannldaa
open Go Go.RowKit
set_option maxRecDepth 20000

theorem wf_clock (now : Int) : WfI (clockR now) := by
  have := clock_in now
  exact WalkArith.wf_i64 (by omega)
theorem ledR_no {R : RollM} {s : Int} (h : isRl R s = false) (e n : Int) : ledR R s e n = R := by unfold ledR; rw [h]; rfl
theorem ledR_yes {R : RollM} {s : Int} (h : isRl R s = true) (e n : Int) : ledR R s e n = setR R s (ledS (R.sw s) e n) := by unfold ledR; exact if_pos h
theorem setR_self2 (R : RollM) (s : Int) : setR R s (R.sw s) = R := by
  unfold setR
  cases R
  simp only
  congr 1
  funext k
  by_cases e : k = s
  · simp [e]
  · simp [e]
set_option maxHeartbeats 4000000 in
theorem ledRl_any (B : Nat) (w : World) (g : Nat) (v : Value) (C : List KnB) (R : RollM) (N : Nat) (h : RollV B w g v C R N) (hN : N ≤ 100000) (s ep now : Int) (he : WfI ep) :
    Calls Try.prog 27 #[.pointer (some ⟨g, 0, none⟩), .int .i64 s, .int .i64 ep, .int .i64 now] w fun e w' => e = .returned (.tuple #[]) ∧ RollTo B w w' g v C (ledR R s ep now) (N + 1) := by
  rcases h.ofs s with ⟨h1, h2⟩ | ⟨h1, i, p, x, rfl, hx, hp, hF, hS, h2⟩
  · rw [ledR_no h1]
    have H0 : Hid (RollTo B w w g v C R (N + 1)) := h.stay (Below.refl _ _) (Nat.le_succ _)
    clear h h1
    go_enter Try.func27, Try.ntmps27
    go_wp2_with (go_at_call 35; refine h2.mono ?_; rintro e w1 ⟨rfl, q⟩; subst q)
    first | go_end0 | refine bodyPost_ret (results_none rfl _ _ _) rfl ?_
    exact ⟨rfl, H0.out⟩
  rw [ledR_yes h1]
  have c4 := hF.c4
  obtain ⟨a, ha⟩ : ∃ a, a = x.lb := ⟨_, rfl⟩
  obtain ⟨t, ht⟩ : ∃ t, t = clockR now := ⟨_, rfl⟩
  obtain ⟨f, hf⟩ : ∃ f, f = (R.sw ((i : Int) + 1)).led := ⟨_, rfl⟩
  have HBd : Hid (∀ W, Calls Try.prog 36 #[.int .i64 now] W fun e w' => e = .returned (.int .i64 t) ∧ w' = W) := fun W => by rw [ht]; exact bounded_any W now
  have HM : Hid (MapV w a N f) := by rw [ha, hf]; exact hS.leads
  have HE : Hid (WfI ep) := he
  have HN : Hid (WfI t) := by rw [ht]; exact wf_clock now
  have HL : Hid (N < maxLen) := by show _ < _; unfold maxLen; omega
  rw [← ha] at c4
  by_cases k : ∀ u, f ep = some u → t > u
  · have HT : Hid (∀ w', MapV w' a (N + 1) (putO f ep t) → w.grownBy w' (some a) → RollTo B w w' g v C (setR R ((i : Int) + 1) (ledS (R.sw ((i : Int) + 1)) ep now)) (N + 1)) := by
      intro w' z1 z2
      have hk2 : Kept (isB a) w w' := Kept.of_grown z2 fun k q => by unfold isB; exact (Option.some.inj q).symm
      obtain ⟨fi, q1, q2⟩ := hS.items
      have e9 : putO f ep t = (ledS (R.sw ((i : Int) + 1)) ep now).led := by
        funext j
        unfold putO ledS
        dsimp only
        rw [← hf, ← ht]
        by_cases e : j = ep
        · rw [if_pos e, if_pos e]
          cases hq : f ep with
          | none => rfl
          | some u =>
            have := k u hq
            show some t = some (max u t)
            congr 1
            omega
        · rw [if_neg e, if_neg e]
      rw [e9] at z1
      obtain ⟨r1, r2⟩ := h.setMap hx a (.inr ha) z2 (ledS (R.sw ((i : Int) + 1)) ep now) (N' := N + 1) ⟨hS.inc, hS.heard, hS.use, ⟨fi, (q1.kept hk2 (by unfold isB; rw [ha]; exact (h.lo i x hx).2.2)).mono (Nat.le_succ _), q2⟩, by rw [← ha]; exact z1⟩ (Nat.le_succ _)
      exact ⟨_, r1, r2⟩
    clear h h1 hx hp hF hS ha he
    cases hq : f ep with
    | none =>
      clear hf ht k
      go_enter Try.func27, Try.ntmps27
      go_wp2_with (first
        | (go_at_call 35; refine h2.mono ?_; rintro e w1 ⟨rfl, q⟩; subst q)
        | (go_at_call 36; refine (HBd.out _).mono ?_; rintro e w3 ⟨rfl, q⟩; subst q)
        | (at_lookup; refine wl_mapGetOk rfl _ _ rfl a N f ep rfl rfl HM.out HE.out ?_; rw [hq])
        | (at_mapUpdate; refine wl_mapPut rfl _ _ _ rfl a N f ep t rfl rfl rfl HM.out HE.out HN.out HL.out ?_; intro w1 z1 z2; refine of_stopT ?_))
      unfold StopT
      have R1 := HT.out w1 z1 z2
      have R2 : Hid _ := R1
      clear z1 z2 HT R1 HM
      go_wp2_with fail
      first | go_end0 | refine bodyPost_ret (results_none rfl _ _ _) rfl ?_
      exact ⟨rfl, R2.out⟩
    | some u =>
      have k9 : t > u := k u hq
      clear hf ht k
      go_enter Try.func27, Try.ntmps27
      go_wp2_with (first
        | (go_at_call 35; refine h2.mono ?_; rintro e w1 ⟨rfl, q⟩; subst q)
        | (go_at_call 36; refine (HBd.out _).mono ?_; rintro e w3 ⟨rfl, q⟩; subst q)
        | (at_lookup; refine wl_mapGetOk rfl _ _ rfl a N f ep rfl rfl HM.out HE.out ?_; rw [hq])
        | (at_mapUpdate; refine wl_mapPut rfl _ _ _ rfl a N f ep t rfl rfl rfl HM.out HE.out HN.out HL.out ?_; intro w1 z1 z2; refine of_stopT ?_))
      unfold StopT
      have R1 := HT.out w1 z1 z2
      have R2 : Hid _ := R1
      clear z1 z2 HT R1 HM
      go_wp2_with fail
      first | go_end0 | refine bodyPost_ret (results_none rfl _ _ _) rfl ?_
      exact ⟨rfl, R2.out⟩
  · obtain ⟨u, hq, k9⟩ : ∃ u, f ep = some u ∧ ¬ t > u := by
      cases hq : f ep with
      | none => exact absurd (fun u e => by rw [hq] at e; cases e) k
      | some u =>
        refine ⟨u, rfl, fun q => k fun u' e => ?_⟩
        rw [hq] at e
        obtain rfl := Option.some.inj e
        exact q
    have e0 : ledS (R.sw ((i : Int) + 1)) ep now = R.sw ((i : Int) + 1) := by
      unfold ledS
      rw [← hf, ← ht]
      cases hz : R.sw ((i : Int) + 1)
      rw [hz] at hf
      dsimp only at hf
      simp only [SwM.mk.injEq, true_and]
      rw [← hf]
      funext j
      by_cases e : j = ep
      · rw [if_pos e, e, hq]
        show some (max u t) = some u
        congr 1
        omega
      · rw [if_neg e]
    rw [e0, setR_self2]
    have H0 : Hid (RollTo B w w g v C R (N + 1)) := h.stay (Below.refl _ _) (Nat.le_succ _)
    clear h h1 hx hp hF hS ha he e0 hf ht k
    go_enter Try.func27, Try.ntmps27
    go_wp2_with (first
      | (go_at_call 35; refine h2.mono ?_; rintro e w1 ⟨rfl, q⟩; subst q)
      | (go_at_call 36; refine (HBd.out _).mono ?_; rintro e w3 ⟨rfl, q⟩; subst q)
      | (at_lookup; refine wl_mapGetOk rfl _ _ rfl a N f ep rfl rfl HM.out HE.out ?_; rw [hq]))
    first | go_end0 | refine bodyPost_ret (results_none rfl _ _ _) rfl ?_
    exact ⟨rfl, H0.out⟩
end Go.Proofs.Yteongcihannldaa
