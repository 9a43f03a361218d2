import Derived.Test.YtdaoeabnjfaoiaaJ3
import Derived.Test.YtdaoeabnjfaoiaaJ13
import Derived.Test.YtdaoeabnjfaoiaaJ1
import Derived.Deep.Slices
import Derived.Test.YtdaoeabnjfaoiaaJ5
import Derived.Test.YtdaoeabnjfaoiaaJ9
namespace Go.Proofs.Ytdaoeabnjfaoiaa
open Go Go.RowKit
set_option maxRecDepth 20000

theorem wl_min7 {ops : Array Oper} {rest : List Oper} {o : Oper} {a : Act} {w : World} {Q : Exit → Act → World → Prop} (hgd : o.guard = none) (x y : Operand) (ho : o.op = .call { callee := .builtin .min, args := #[x, y], argTypes := #[3, 3] })
    (p q r : Int) (hx : a.eval x = .int .i64 p) (hy : a.eval y = .int .i64 q) (hr : r = min p q) (h : wpList Try.prog ops Q rest (a.put o.dst (.int .i64 r)) w) : wpList Try.prog ops Q (o :: rest) a w := by
  obtain ⟨dst, op, ty, pos, after, guard⟩ := o
  subst ho
  have hr : (execOp a.eval ⟨dst, .call { callee := .builtin .min, args := #[x, y], argTypes := #[3, 3] }, ty, pos, after, guard⟩).run Try.prog w = .ok (.value (.int .i64 r)) w := by
    subst hr
    by_cases h1 : p ≤ q
    · rw [show min p q = p by omega]
      unfold execOp
      simp [resolve, invoke, builtin, hx, hy, Builtin.min_, Builtin.min2]
      all_goals omega
    · rw [show min p q = q by omega]
      unfold execOp
      simp [resolve, invoke, builtin, hx, hy, Builtin.min_, Builtin.min2]
      all_goals omega
  refine wpList_plain hgd fun K hK => ?_
  unfold Oper.wp
  rw [hr]
  exact hK _ _ h

theorem GSl.take7 {α : Type} {E : El} {enc : α → Array Value} {w : World} {o : Option Addr} {n cap : Nat} {C : List α} (h : GSl E enc w (.slice o n cap) C) {k : Nat} (hk : k ≤ n) : GSl E enc w (.slice o k cap) (C.take k) := by
  obtain ⟨o', cap', h1, h2, h3, h4⟩ := h
  simp only [Value.slice.injEq] at h1
  obtain ⟨rfl, rfl, rfl⟩ := h1
  have hl : (C.take k).length = k := by rw [List.length_take]; omega
  refine ⟨o, cap, by rw [hl], by rw [hl]; omega, h3, fun i hi => ?_⟩
  rw [hl] at hi
  obtain ⟨g, off, cur, t, fr, e1, e2, e3⟩ := h4 i (by omega)
  refine ⟨g, off, cur, t, fr, e1, e2, fun j hj => ?_⟩
  rw [List.getElem_take]
  exact e3 j hj
end Go.Proofs.Ytdaoeabnjfaoiaa
namespace Go.Proofs.Ytdaoeabnjfaoiaa
open Go Go.Lib Go.RowKit
set_option maxRecDepth 20000

theorem slice_ints {o : Option Addr} {n0 cap : Nat} {w : World} {z : List Int} (h : ISl w (.slice o n0 cap) z) (n : Nat) (hn : n ≤ n0) (hc : n0 ≤ cap) (W : World) :
    (Instr.sliceAt 22 (.slice o n0 cap) none (some (.int .i64 (n : Int))) none).run Try.prog W = .ok (.slice o n cap) W := by
  rcases Nat.eq_zero_or_pos n0 with h0 | h0
  · obtain rfl : n = 0 := by omega
    cases o with
    | none => simp [go_sem, Try.underlying22]
    | some a => simp [go_sem, Try.underlying22]
  · obtain ⟨g, off, _, rfl, _⟩ := ISl.cell h 0 h0
    simp [go_sem, Try.underlying22]
    omega
theorem ISl.front {w : World} {o : Option Addr} {n cap : Nat} {z : List Int} (h : ISl w (.slice o n cap) z) (q : Nat) (hq : q ≤ n) : ISl w (.slice o q cap) (z.take q) := by
  have h2 := VSl.front h q hq
  show VSl w _ (inI (z.take q))
  have e : inI (z.take q) = (inI z).take q := by unfold inI; rw [List.map_take]
  rw [e]
  exact h2
/-- A list cut to its first 100. -/
structure Cut100 (w : World) (o : Option Addr) (n0 n cap : Nat) (z : List Int) : Prop where
  cap1 : n0 ≤ cap
  cap2 : cap ≤ maxLen
  le : n ≤ n0
  min : (n : Int) = min (n0 : Int) 100
  len : z.length = n
  bd : ∀ x ∈ z, x ≤ 9223372036854775807
  at_ : ISl w (.slice o n cap) z
  slice : ∀ W, (Instr.sliceAt 22 (.slice o n0 cap) none (some (.int .i64 (n : Int))) none).run Try.prog W = .ok (.slice o n cap) W
theorem cut100 {w : World} {v : Value} {z0 : List Int} (hb : ∀ x ∈ z0, -9223372036854775808 ≤ x ∧ x ≤ 9223372036854775807) (h : ISl w v z0) : ∃ o n0 n cap z, v = .slice o n0 cap ∧ Cut100 w o n0 n cap z := by
  obtain ⟨o, cap, rfl, hc1, hc2⟩ := h.slice
  exact ⟨o, z0.length, min z0.length 100, cap, z0.take (min z0.length 100), rfl, hc1, hc2, Nat.min_le_left _ _, by omega, by rw [List.length_take]; omega, fun x hx => (hb x (List.mem_of_mem_take hx)).2, h.front _ (Nat.min_le_left _ _), slice_ints h _ (Nat.min_le_left _ _) hc1⟩
def resE (R : Option ((Nat → Int) × (Nat → Nat × Nat))) : Int := match R with | none => 15 | some _ => 0
def resC (R : Option ((Nat → Int) × (Nat → Nat × Nat))) (n : Nat) : List (Int × Int) := match R with | none => [] | some st => pairsT st.2 n
theorem dealR_at {w w' : World} {n : Nat} {R : Option ((Nat → Int) × (Nat → Nat × Nat))} {e : Ending} (h : dealR w w' n R e) : ∃ v, e = .returned (.tuple #[v, .int .i64 (resE R)]) ∧ PairsAt w' v (resC R n) := by
  cases R with
  | none => exact ⟨_, h, gsl_nil _ _ _⟩
  | some st =>
    obtain ⟨v, he, hv⟩ := h
    exact ⟨v, he, hv.at_⟩
set_option maxHeartbeats 8000000 in
set_option maxRecDepth 100000 in
theorem lawDPairs_any (z0 v0 : List Int) (hz0 : ∀ x ∈ z0, -9223372036854775808 ≤ x ∧ x ≤ 9223372036854775807) (hv0 : ∀ x ∈ v0, -9223372036854775808 ≤ x ∧ x ≤ 9223372036854775807) (l : List Nat) (hW : AllW l) (room : Int) (hr1 : -9223372036854775808 ≤ room) (hr2 : room ≤ 9223372036854775807) (vz vl vw : Value) (w : World) (hz : ISl w vz z0) (hl : ISl w vl v0) (hw : FSl w vw l) :
    Calls Try.prog 3 #[vz, vl, vw, .int .i64 room] w fun e w' => e = .returned (.bool true) ∧ Below w.heap.size w w' := by
  obtain ⟨oz, nz0, nz, cz, z, rfl, KZ⟩ := cut100 hz0 hz
  obtain ⟨ov, nv0, nv, cv', v, rfl, KV⟩ := cut100 hv0 hl
  obtain ⟨o1, ho1⟩ : ∃ o : List Nat, True := ⟨[], trivial⟩
  clear ho1 o1
  obtain ⟨ow, cw, rfl, _, _⟩ := hw.slice
  have hzl : z.length ≤ 1000 := by rw [KZ.len]; have := KZ.min; omega
  have hvl : v.length ≤ 1000 := by rw [KV.len]; have := KV.min; omega
  have AW : Hid (∀ W, Calls Try.prog 8 #[] W fun e w' => e = .returned (.bool true) ∧ Below W.heap.size W w') := fun W => awake13_any W
  obtain ⟨DF, hDF⟩ : ∃ DF : List Nat → Option ((Nat → Int) × (Nat → Nat × Nat)), DF = fun o => dealF (thT v) (wtT l) room (cntT (thT v)) (fun i => max (z.getD i 0) 0) o (fun _ => 0) (fun _ => (0, 0)) := ⟨_, rfl⟩
  have SAME : Hid (∀ o1 o2, IsOrd (keyZ z) z.length o1 → IsOrd (fun i => -max (z.getD i 0) 0) z.length o2 → DF o1 = DF o2) := fun o1 o2 h1 h2 => by rw [hDF]; exact deal_same (z := fun i => z.getD i 0) h1 h2 _ _
  have C1 : Hid (∀ W, Below w.heap.size w W → Calls Try.prog 9 #[.slice oz nz cz, .slice ov nv cv', .slice ow l.length cw, .int .i64 room] W fun e w' => (∃ o v, IsOrd (keyZ z) z.length o ∧ e = .returned (.tuple #[v, .int .i64 (resE (DF o))]) ∧ PairsAt w' v (resC (DF o) z.length)) ∧ Below W.heap.size W w') := fun W hb => by
    refine (deal_any z v hzl l hW room hr1 hr2 KZ.bd _ _ _ W (VSl.below KZ.at_ hb) (VSl.below KV.at_ hb) (VSl.below hw hb)).mono ?_
    rintro e w' ⟨⟨o, ho, hr⟩, hbb⟩
    obtain ⟨v', he, hv'⟩ := dealR_at hr
    refine ⟨⟨o, v', ho, ?_, ?_⟩, hbb⟩
    · rw [hDF]; exact he
    · rw [hDF]; exact hv'
  have C2 : Hid (∀ W, Below w.heap.size w W → Calls Try.prog 10 #[.slice oz nz cz, .slice ov nv cv', .slice ow l.length cw, .int .i64 room] W fun e w' => (∃ o v, IsOrd (fun i => -max (z.getD i 0) 0) z.length o ∧ e = .returned (.tuple #[v, .int .i64 (resE (DF o))]) ∧ PairsAt w' v (resC (DF o) z.length)) ∧ Below W.heap.size W w') := fun W hb => by
    refine (rdeal_any z v hzl hvl l hW room hr1 hr2 KZ.bd _ _ _ W (VSl.below KZ.at_ hb) (VSl.below KV.at_ hb) (VSl.below hw hb)).mono ?_
    rintro e w' ⟨⟨o, ho, hr⟩, hbb⟩
    obtain ⟨v', he, hv'⟩ := dealR_at hr
    refine ⟨⟨o, v', ho, ?_, ?_⟩, hbb⟩
    · rw [hDF]; exact he
    · rw [hDF]; exact hv'
  have SM : Hid (∀ (C : List (Int × Int)) va vb W, PairsAt W va C → PairsAt W vb C → Calls Try.prog 11 #[va, vb] W fun e w' => e = .returned (.bool true) ∧ Below W.heap.size W w') := fun C va vb W h1 h2 => rsame13_any C va vb W h1 h2
  have hz1 := KZ.cap1
  have hz2 := KZ.cap2
  have hv1 := KV.cap1
  have hv2 := KV.cap2
  unfold maxLen at hz2 hv2
  have hzn := KZ.le
  have hvn := KV.le
  have HZM : Hid ((nz : Int) = min (nz0 : Int) 100) := KZ.min
  have HVM : Hid ((nv : Int) = min (nv0 : Int) 100) := KV.min
  have hsz := KZ.slice
  have hsv := KV.slice
  clear hDF KZ KV hz hl hw hW hz0 hv0
  generalize l.length = lw at *
  go_enter Try.func3, Try.ntmps3
  go_wp2_with fail
  refine (AW.out _).mono ?_
  rintro e w1 ⟨rfl, B1⟩
  have B1 : Hid (Below w.heap.size w w1) := B1
  go_wp2_with (first | (refine wl_min7 rfl _ _ rfl (nz0 : Int) 100 (nz : Int) rfl rfl HZM.out ?_) | (refine wl_min7 rfl _ _ rfl (nv0 : Int) 100 (nv : Int) rfl rfl HVM.out ?_))
  refine (C1.out _ B1.out).mono ?_
  rintro e w2 ⟨⟨o1, v1, ho1, rfl, hp1⟩, hb2⟩
  have B2 : Hid (Below w.heap.size w w2) := B1.out.trans (hb2.mono B1.out.size)
  have P2 : Hid (PairsAt w2 v1 (resC (DF o1) z.length)) := hp1
  have O1 : Hid (IsOrd (keyZ z) z.length o1) := ho1
  clear hb2 hp1 ho1
  go_wp2_with fail
  refine (C2.out _ B2.out).mono ?_
  rintro e w3 ⟨⟨o2, v2, ho2, rfl, hp2⟩, hb3⟩
  have hdd := SAME.out o1 o2 O1.out ho2
  rw [← hdd] at hp2 ⊢
  have B3 : Hid (Below w.heap.size w w3) := B2.out.trans (hb3.mono B2.out.size)
  have P3 : Hid (PairsAt w3 v1 (resC (DF o1) z.length)) := GSl.below P2.out hb3
  have U3 : Hid (PairsAt w3 v2 (resC (DF o1) z.length)) := hp2
  clear hb3 hp2 ho2 P2 hdd
  generalize resE (DF o1) = ee at *
  go_wp2_with fail
  refine (SM.out _ _ _ _ P3.out U3.out).mono ?_
  rintro e w4 ⟨rfl, hb4⟩
  have B4 : Hid (Below w.heap.size w w4) := B3.out.trans (hb4.mono B3.out.size)
  clear hb4
  go_wp2_with fail
  go_ret
  exact ⟨by simp, B4.out⟩
end Go.Proofs.Ytdaoeabnjfaoiaa
namespace Go.Proofs.Ytdaoeabnjfaoiaa
open Go.ChangeShapes Go.WideShapes Go.ChangeAt Go.WideMaps Go.WideElems Go.RowKit
set_option maxRecDepth 20000

theorem El.Ok.cellsOf {E : El} (H : E.Ok) : Try.prog.cellsOf E.elem = E.size := by
  obtain ⟨i, h1, _, h2, _⟩ := H.info
  simp [Program.cellsOf, h1, h2]

/-- A slice that comes in, of elements that are opened one by one. -/
theorem open_any {E : El} (HE : E.Ok) {α : Type} [Inhabited α] (row : α → Array Value) (hrow : ∀ a, (row a).size = E.size) (Q : α → Prop) {H : Type} {enc : TypeId × Value → H} {W : World} {base : Nat} {spare : Nat → Bool} {held : Bool}
    (elem : ∀ (fuel : Nat) (cs : List Value) (x : DataW H × List MemPlace), cs.length = E.size → DataW.trod enc Try.prog W base spare held fuel E.elem cs = some x → ∃ a, cs = (row a).toList ∧ Q a)
    {fuel : Nat} {v : Value} {x : DataW H × List MemPlace} (hf : DataW.trod enc Try.prog W base spare held fuel E.slice [v] = some x) : ∃ C : List α, GSl E row W v C ∧ ∀ c ∈ C, Q c := by
  have hp := HE.hp
  rcases Deep.open_slice HE.hs hf with ⟨h0, _⟩ | ⟨a, len, cap, m, n, D, Pl, h0, hb, hl, hm, hmm, _, hx⟩
  · obtain rfl : v = .slice none 0 0 := by simpa using h0
    exact ⟨[], gsl_nil E row W, fun c hc => absurd hc (by simp)⟩
  · obtain rfl : v = .slice (some a) len cap := by simpa using h0
    rw [HE.cellsOf] at hx
    have hlm : len ≤ m := by rw [hmm]; split <;> omega
    have each : ∀ i, i < len → ∃ c : α, Q c ∧ ∀ j, j < E.size → W.cell? (a.add (i * E.size + j)) = (row c)[j]? := fun i hi => by
      obtain ⟨cs', h1, h2⟩ := hx i (by omega)
      obtain ⟨_, hlen, hcell⟩ := World.cells?_some h1
      obtain ⟨c, h3, h4⟩ := elem _ cs' _ hlen h2
      refine ⟨c, h4, fun j hj => ?_⟩
      have := hcell j hj
      rw [Deep.add_add] at this
      rw [this, h3]
      simp
    obtain ⟨f, hf⟩ := Deep.choose_lt each
    refine ⟨(List.range len).map f, ⟨some a, cap, by simp, by simpa using hl, hm, fun i hi => ?_⟩, fun c hc => ?_⟩
    · have hi' : i < len := by simpa using hi
      have h1 := (hf i hi').2
      obtain ⟨g, off, sp⟩ := a
      have hj : ∀ j, j < E.size → ∃ cur t fr, W.heap[g]? = some (.cells cur t fr) ∧ cur[off + i * E.size + j]? = (row (f i))[j]? ∧ (i * E.size + j = 0 → sp = none) := fun j hj => by
        have h2 := h1 j hj
        obtain ⟨y, hy⟩ : ∃ y, (row (f i))[j]? = some y := ⟨_, Array.getElem?_eq_getElem (by rw [hrow]; exact hj)⟩
        rw [hy] at h2 ⊢
        unfold World.cell? at h2
        split at h2
        · rename_i cur t fr hq
          have hbk : (Addr.add ⟨g, off, sp⟩ (i * E.size + j)).block = g := by unfold Addr.add; split <;> rfl
          have hof : (Addr.add ⟨g, off, sp⟩ (i * E.size + j)).off = off + i * E.size + j := by unfold Addr.add; split <;> simp_all [Nat.add_assoc]
          rw [hbk] at hq
          rw [hof] at h2
          split at h2
          · cases h2
          · rename_i hsp
            refine ⟨cur, t, fr, hq, h2, fun h0 => ?_⟩
            unfold Addr.add at hsp
            rw [if_pos h0] at hsp
            simpa using hsp
        · cases h2
      have hsp : sp = none := by
        obtain ⟨cur, t, fr, h2, h3, h4⟩ := hj 0 hp
        by_cases hi0 : i = 0
        · exact h4 (by rw [hi0]; simp)
        · have h5 := (hf 0 (by omega)).2 0 hp
          obtain ⟨y, hy⟩ : ∃ y, (row (f 0))[0]? = some y := ⟨_, Array.getElem?_eq_getElem (by rw [hrow]; exact hp)⟩
          rw [hy] at h5
          unfold World.cell? at h5
          split at h5
          · split at h5
            · cases h5
            · rename_i hs
              simpa [Addr.add] using hs
          · cases h5
      subst hsp
      obtain ⟨cur, t, fr, h2, _, _⟩ := hj 0 hp
      refine ⟨g, off, cur, t, fr, rfl, h2, fun j hjl => ?_⟩
      obtain ⟨cur', t', fr', h3, h4, _⟩ := hj j hjl
      rw [h2] at h3
      obtain ⟨rfl, rfl, rfl⟩ : cur = cur' ∧ t = t' ∧ fr = fr' := by simpa using h3
      rw [h4]
      simp
    · rw [List.mem_map] at hc
      obtain ⟨i, hi, rfl⟩ := hc
      exact (hf i (by simpa using hi)).1

/-- A list whose elements hold lists of their own: each row with the value of its inner list. -/
def NSl {α : Type} (E : El) (row : α → Value → Array Value) (R : World → α → Value → Prop) (w : World) (v : Value) (C : List α) : Prop :=
  ∃ P : List (α × Value), P.map (·.1) = C ∧ GSl E (fun p => row p.1 p.2) w v P ∧ ∀ p ∈ P, R w p.1 p.2
theorem NSl.below {α : Type} {E : El} {row : α → Value → Array Value} {R : World → α → Value → Prop} (hR : ∀ w w' a v, Below w.heap.size w w' → R w a v → R w' a v) {w w' : World} {v : Value} {C : List α} (h : NSl E row R w v C) (hb : Below w.heap.size w w') : NSl E row R w' v C := by
  obtain ⟨P, h1, h2, h3⟩ := h
  exact ⟨P, h1, h2.below hb, fun p hp => hR w w' _ _ hb (h3 p hp)⟩
theorem NSl.slice {α : Type} {E : El} {row : α → Value → Array Value} {R : World → α → Value → Prop} {w : World} {v : Value} {C : List α} (h : NSl E row R w v C) : ∃ (o : Option Addr) (cap : Nat), v = .slice o C.length cap ∧ C.length ≤ cap ∧ cap ≤ maxLen := by
  obtain ⟨P, h1, h2, _⟩ := h
  obtain ⟨o, cap, e, h4, h5⟩ := h2.slice
  have hl : P.length = C.length := by rw [← h1, List.length_map]
  rw [hl] at e h4
  exact ⟨o, cap, e, h4, h5⟩
theorem NSl.at {α : Type} {E : El} {row : α → Value → Array Value} {R : World → α → Value → Prop} {w : World} {o : Option Addr} {n cap : Nat} {C : List α} (h : NSl E row R w (.slice o n cap) C) (k : Nat) (hk : k < n) :
    ∃ g off cur t fr, ∃ (c : α) (u : Value), o = some ⟨g, off, none⟩ ∧ w.heap[g]? = some (.cells cur t fr) ∧ (∀ j, j < E.size → cur[off + k * E.size + j]? = (row c u)[j]?) ∧ C[k]? = some c ∧ R w c u := by
  obtain ⟨P, h1, h2, h3⟩ := h
  obtain ⟨g, off, cur, t, fr, c, e1, e2, e3, e4⟩ := h2.at k hk
  exact ⟨g, off, cur, t, fr, c.1, c.2, e1, e2, e3, by rw [← h1, List.getElem?_map, e4]; rfl, h3 c (List.mem_of_getElem? e4)⟩
/-- The same of one's own row. -/
def NOwn {α : Type} (E : El) (row : α → Value → Array Value) (R : World → α → Value → Prop) (w : World) (B : Nat) (v : Value) (C : List α) : Prop :=
  ∃ P : List (α × Value), P.map (·.1) = C ∧ w.ownsRow B E.elem E.size v P.length (gcells (fun p : α × Value => row p.1 p.2) P) ∧ ∀ p ∈ P, R w p.1 p.2
theorem NOwn.sl {α : Type} {E : El} {row : α → Value → Array Value} {R : World → α → Value → Prop} (hrow : ∀ a u, (row a u).size = E.size) {w : World} {B : Nat} {v : Value} {C : List α} (h : NOwn E row R w B v C) : NSl E row R w v C := by
  obtain ⟨P, h1, h2, h3⟩ := h
  exact ⟨P, h1, gsl_of h2 fun c _ => hrow c.1 c.2, h3⟩
theorem NOwn.nil {α : Type} (E : El) (row : α → Value → Array Value) (R : World → α → Value → Prop) (w : World) (B : Nat) : NOwn E row R w B (.slice none 0 0) [] :=
  ⟨[], rfl, World.ownsRow_nil _ _ _ _, fun p hp => by simp at hp⟩
theorem NOwn.below {α : Type} {E : El} {row : α → Value → Array Value} {R : World → α → Value → Prop} (hR : ∀ w w' a v, Below w.heap.size w w' → R w a v → R w' a v) {w w' : World} {B : Nat} {v : Value} {C : List α} (h : NOwn E row R w B v C) (hb : Below w.heap.size w w') : NOwn E row R w' B v C := by
  obtain ⟨P, h1, h2, h3⟩ := h
  exact ⟨P, h1, gown_below h2 hb, fun p hp => hR w w' _ _ hb (h3 p hp)⟩
/-- Rows of two types lie apart. -/
theorem own_apart {w : World} {B B' : Nat} {e e' : TypeId} {s s' : Nat} {v u : Value} {n m : Nat} {xs ys : List Value} (h : w.ownsRow B e s v n xs) (h' : w.ownsRow B' e' s' u m ys) (hne : e ≠ e') : ∀ g, v.ownBlock = some g → u.ownBlock ≠ some g := by
  intro g hg hu
  obtain ⟨_, ⟨rfl, _⟩ | ⟨g1, cap, cur, rfl, _, h1, _⟩⟩ := h
  · simp [Value.ownBlock] at hg
  · obtain ⟨_, ⟨rfl, _⟩ | ⟨g2, cap', cur', rfl, _, h2, _⟩⟩ := h'
    · simp [Value.ownBlock] at hu
    · simp only [Value.ownBlock, Option.some.injEq] at hg hu
      subst hg
      subst hu
      rw [h1] at h2
      simp only [Option.some.injEq, Obj.cells.injEq] at h2
      exact hne h2.2.1
/-- A row stays as it is while another one grows. -/
theorem own_grown {w w' : World} {b : Option Nat} (hgr : w.grownBy w' b) {B : Nat} {e : TypeId} {s : Nat} {u : Value} {m : Nat} {ys : List Value} (h : w.ownsRow B e s u m ys) (hne : ∀ g, b = some g → u.ownBlock ≠ some g) : w'.ownsRow B e s u m ys := by
  obtain ⟨h0, h1 | ⟨g, cap, cur, rfl, hB, hcur, h3⟩⟩ := h
  · exact ⟨h0, .inl h1⟩
  · refine ⟨h0, .inr ⟨g, cap, cur, rfl, hB, ?_, h3⟩⟩
    rw [hgr.block g (Array.getElem?_eq_some_iff.1 hcur).1 (fun hq => hne g hq.symm rfl)]
    exact hcur
theorem NOwn.grown {α : Type} {E : El} {row : α → Value → Array Value} {R : World → α → Value → Prop} {w w' : World} {b : Option Nat} (hgr : w.grownBy w' b) {B : Nat} {v : Value} {C : List α} (h : NOwn E row R w B v C) (hne : ∀ g, b = some g → v.ownBlock ≠ some g) (hR : ∀ a u, R w a u → R w' a u) : NOwn E row R w' B v C := by
  obtain ⟨P, h1, h2, h3⟩ := h
  exact ⟨P, h1, own_grown hgr h2 hne, fun p hp => hR _ _ (h3 p hp)⟩
theorem NOwn.snoc {α : Type} {E : El} {row : α → Value → Array Value} {R : World → α → Value → Prop} {w' : World} {B : Nat} {v' : Value} {C : List α} {c : α} {u : Value} {P : List (α × Value)} (h1 : P.map (·.1) = C) (h2 : w'.ownsRow B E.elem E.size v' (P ++ [(c, u)]).length (gcells (fun p : α × Value => row p.1 p.2) (P ++ [(c, u)])))
    (h3 : ∀ p ∈ P, R w' p.1 p.2) (h4 : R w' c u) : NOwn E row R w' B v' (C ++ [c]) :=
  ⟨P ++ [(c, u)], by rw [List.map_append, h1]; rfl, h2, fun p hp => by
    rcases List.mem_append.1 hp with hp | hp
    · exact h3 p hp
    · obtain rfl : p = (c, u) := by simpa using hp
      exact h4⟩
end Go.Proofs.Ytdaoeabnjfaoiaa
namespace Go.Proofs.Ytdaoeabnjfaoiaa
open Go.ChangeShapes Go.WideShapes Go.ChangeAt Go.WideMaps Go.WideElems Go.RowKit
set_option maxRecDepth 20000

theorem take_one13 {cs : List Value} {i : Nat} {v : Value} (h : (cs.drop i).take 1 = [v]) : cs[i]? = some v := by
  have := congrArg List.head? h
  rw [List.head?_take, if_neg (by decide), List.head?_drop] at this
  simpa using this
theorem field_int13 {P : Program} {H : Type} {enc : TypeId × Value → H} {W : World} {base : Nat} {spare : Nat → Bool} {held : Bool} {n : Nat} {t : TypeId} {cs : List Value} {y : Option (DataW H × List MemPlace)} {i : Nat} {k : IntKind} (ht : P.underlying t = some (.int k)) (hc : P.cellsOf t = 1)
    (h : DataW.trod enc P W base spare held n t ((cs.drop i).take (P.cellsOf t)) = y) (hy : y.isSome = true) : ∃ z : Int, cs[i]? = some (.int k z) := by
  obtain ⟨y', rfl⟩ := Option.isSome_iff_exists.1 hy
  obtain ⟨z, h1, _, h3⟩ := DataW.trod_int ht h
  rw [hc] at h1
  exact ⟨z, take_one13 h1⟩
theorem xs_some13 {α : Type} {xs : List α} {n i : Nat} (h : xs.length = n) (hi : i < n) : (xs[i]?).isSome = true := by
  rw [List.getElem?_eq_getElem (by omega)]; rfl
theorem pair_of {H : Type} {enc : TypeId × Value → H} {W : World} {base : Nat} {spare : Nat → Bool} {held : Bool} (fuel : Nat) (cs : List Value) (x : DataW H × List MemPlace) (hl : cs.length = 2)
    (h : DataW.trod enc Try.prog W base spare held fuel 33 cs = some x) : ∃ p : Int × Int, cs = (pairV p).toList ∧ True := by
  have c3 : Try.prog.cellsOf 3 = 1 := by kernel_rfl
  obtain ⟨xs, n, _, _, _, hxl, hf⟩ := DataW.trod_struct Try.underlying33 h
  obtain ⟨n0, h0⟩ := field_int13 (i := 0) Try.underlying3 c3 (hf 0 _ rfl) (xs_some13 hxl (by decide))
  obtain ⟨n1, h1⟩ := field_int13 (i := 1) Try.underlying3 c3 (hf 1 _ rfl) (xs_some13 hxl (by decide))
  refine ⟨(n0, n1), ?_, trivial⟩
  apply List.ext_getElem?
  intro k
  rcases (show k = 0 ∨ k = 1 ∨ 2 ≤ k by omega) with rfl | rfl | hk
  · exact h0
  · exact h1
  · rw [List.getElem?_eq_none (by omega), List.getElem?_eq_none (by simp [pairV]; omega)]
theorem open_pairs {H : Type} {enc : TypeId × Value → H} {W : World} {r : Reach} {b0 base : Nat} {spare : Nat → Bool} {held : Bool} {v : Value} {d : DataW H} {p : List MemPlace}
    (hok : Value.okWide Try.prog W r b0 25 v) (h : DataW.Trod enc Try.prog W base spare held 25 v d p) : ∃ l, PairsAt W v l := by
  obtain ⟨fuel, hf⟩ := h
  have hv1 : v.cells.toList = [v] := by
    simp only [Value.okWide, Cell.okWide, Cell.ok, Try.underlying25] at hok
    cases v <;> simp_all [Value.cells]
  rw [hv1] at hf
  obtain ⟨l, h1, _⟩ := open_any (E := PairE) PairOk (fun p : Int × Int => pairV p) (fun _ => rfl) (fun _ => True) (fun fuel cs x h1 h2 => pair_of fuel cs x h1 h2) hf
  exact ⟨l, h1⟩
end Go.Proofs.Ytdaoeabnjfaoiaa
namespace Go.Proofs.Ytdaoeabnjfaoiaa
open Go Go.Lib Go.RowKit
set_option maxRecDepth 20000

theorem ldS_stay (z : List Int) (l : List (Int × Int)) (n : Int) : ∀ m j, l.length ≤ m → ldS z l n (m + j) = ldS z l n m
  | m, 0, _ => rfl
  | m, j + 1, h => by
    rw [← Nat.add_assoc, ldS, ldS_stay z l n m j h, show l[m + j]? = none from List.getElem?_eq_none (by omega)]
    cases z[m + j]? <;> simp
theorem slice_pairs {o : Option Addr} {n0 cap : Nat} {w : World} {l : List (Int × Int)} (h : PairsAt w (.slice o n0 cap) l) (n : Nat) (hn : n ≤ n0) (hc : n0 ≤ cap) (W : World) :
    (Instr.sliceAt 25 (.slice o n0 cap) none (some (.int .i64 (n : Int))) none).run Try.prog W = .ok (.slice o n cap) W := by
  rcases Nat.eq_zero_or_pos n0 with h0 | h0
  · obtain rfl : n = 0 := by omega
    cases o with
    | none => simp [go_sem, Try.underlying25]
    | some a => simp [go_sem, Try.underlying25]
  · obtain ⟨g, off, _, _, _, _, rfl, _⟩ := h.at 0 h0
    simp [go_sem, Try.underlying25]
    omega
set_option maxHeartbeats 8000000 in
set_option maxRecDepth 100000 in
theorem lawDSums_any (z0 : List Int) (hz0 : ∀ x ∈ z0, -9223372036854775808 ≤ x ∧ x ≤ 9223372036854775807) (l0 : List (Int × Int)) (nn : Int) (vz vl : Value) (w : World) (hz : ISl w vz z0) (hl : PairsAt w vl l0) :
    Calls Try.prog 7 #[vz, vl, .int .i64 nn] w fun e w' => e = .returned (.bool true) ∧ Below w.heap.size w w' := by
  obtain ⟨oz, nz0, nz, cz, z, rfl, KZ⟩ := cut100 hz0 hz
  obtain ⟨ol, cl, rfl, hl1, hl2⟩ := GSl.slice hl
  obtain ⟨nl0, hnl0⟩ : ∃ n, n = l0.length := ⟨_, rfl⟩
  rw [← hnl0] at hl hl1 ⊢
  obtain ⟨nl, hnl⟩ : ∃ n, n = min nl0 100 := ⟨_, rfl⟩
  have HLM : Hid ((nl : Int) = min (nl0 : Int) 100) := (by omega : (nl : Int) = min (nl0 : Int) 100)
  have hle : nl ≤ nl0 := by omega
  have hsl := slice_pairs hl nl hle hl1
  have hlt2 : PairsAt w (.slice ol nl cl) (l0.take nl) := GSl.take7 hl hle
  obtain ⟨l, hll⟩ : ∃ l, l = l0.take nl := ⟨_, rfl⟩
  have hlen : l.length = nl := by rw [hll, List.length_take]; omega
  rw [← hll] at hlt2
  have AW : Hid (∀ W, Calls Try.prog 8 #[] W fun e w' => e = .returned (.bool true) ∧ Below W.heap.size W w') := fun W => awake13_any W
  have LD : Hid (∀ W, Below w.heap.size w W → Calls Try.prog 12 #[.slice oz nz cz, .slice ol nl cl, .int .i64 nn] W fun e w' => e = .returned (.int .i64 (loadsT z l nn)) ∧ Below W.heap.size W w') := fun W hb => loads_any z l nn _ _ W (VSl.below KZ.at_ hb) (GSl.below hlt2 hb)
  have FIN : Hid (loadsT z l nn = ldS z l nn nz) := by
    show _ = _
    unfold loadsT
    rw [KZ.len, hlen]
    have h100 : nz ≤ 100 := by have := KZ.min; omega
    by_cases h : nz ≤ nl
    · rw [show min (min nz nl) 4096 = nz by omega]
    · rw [show min (min nz nl) 4096 = nl by omega, show nz = nl + (nz - nl) by omega, ldS_stay z l nn nl (nz - nl) (by omega)]
  have HZ : Hid (ISl w (.slice oz nz cz) z) := KZ.at_
  have HL : Hid (PairsAt w (.slice ol nl cl) l) := hlt2
  have LE : Hid (∀ k, 0 ≤ ldS z l nn k ∧ ldS z l nn k ≤ 1048576 * (k : Int)) := ldS_le z l nn
  have HLL : Hid (l.length = nl) := hlen
  have hz1 := KZ.cap1
  have hz2 := KZ.cap2
  unfold maxLen at hz2 hl2
  have hzn := KZ.le
  have hz100 : nz ≤ 100 := by have := KZ.min; omega
  have HZM : Hid ((nz : Int) = min (nz0 : Int) 100) := KZ.min
  have hsz := KZ.slice
  clear KZ hz hl hz0 hlt2 hll hlen hnl hnl0
  go_enter Try.func7, Try.ntmps7
  go_wp2_with fail
  refine (AW.out _).mono ?_
  rintro e w1 ⟨rfl, B1⟩
  have B1 : Hid (Below w.heap.size w w1) := B1
  go_wp2_with (first | (refine wl_min7 rfl _ _ rfl (nz0 : Int) 100 (nz : Int) rfl rfl HZM.out ?_) | (refine wl_min7 rfl _ _ rfl (nl0 : Int) 100 (nl : Int) rfl rfl HLM.out ?_))
  go_loopw [7, 8] (fun v i wr => ∃ (k : Nat) (s : Int), k ≤ nz ∧ i = .int .i64 (k : Int) ∧ v = .int .i64 s ∧ Hid (s = ldS z l nn k) ∧ wr = w1) (fun _ i _ => nz - (intOf i).toNat)
  case atStart => exact ⟨0, 0, Nat.zero_le _, rfl, rfl, rfl, rfl⟩
  case round =>
    obtain ⟨k, s, hk, rfl, rfl, HSS, rfl⟩ := hrel
    by_cases hlt : k < nz
    · have hlt' : (k : Int) < (nz : Int) := by omega
      obtain ⟨g, off, x, rfl, hx, hzk⟩ := ISl.cell (VSl.below HZ.out B1.out) k hlt
      have hs := LE.out k
      rw [← HSS.out] at hs
      by_cases hkl : k < nl
      · have hkl1 : decide ((k : Int) < (nl : Int)) = true := by simp; omega
        have hkl2 : decide (k < nl) = true := by simpa using hkl
        obtain ⟨g2, off2, cur2, t2, fr2, p, rfl, hg2, hc2, hlk⟩ := (GSl.below HL.out B1.out).at k hkl
        have p0 : wr.cell? ⟨g2, off2 + k * 2, none⟩ = some (.int .i64 p.1) := (cell_of_row _ _ _ _ _ _ hg2).trans (hc2 0 (by show 0 < 2; omega))
        have p1 : wr.cell? ⟨g2, off2 + k * 2 + 1, none⟩ = some (.int .i64 p.2) := (cell_of_row _ _ _ _ _ _ hg2).trans (hc2 1 (by show 1 < 2; omega))
        have hkl' : (k : Int) < (nl : Int) := by omega
        have ST : Hid (ldS z l nn (k + 1) = s + if p.1 = nn ∨ p.2 = nn then clip13 x else 0) := by
          show _ = _
          rw [ldS, hzk, hlk, HSS.out]
        obtain ⟨pa, pb⟩ := p
        simp only at p0 p1 ST
        obtain ⟨mi, hmi⟩ : ∃ mi, mi = min x 1048576 := ⟨_, rfl⟩
        have HMI : Hid (mi = min x 1048576) := hmi
        clear hg2 hc2 hzk hlk
        by_cases h1 : pa = nn
        · have h1' : (pa == nn) = true := by simpa using h1
          have hh : True := trivial
          by_cases h0 : 0 < x
          · have h0' : decide (0 < x) = true := by simpa using h0
            have hm1 : mi ≤ 1048576 := by omega
            have hm0 : 0 ≤ mi := by omega
            have hsum : s + mi ≤ 9223372036854775807 := by omega
            have HE : Hid (s + mi = ldS z l nn (k + 1)) := by show _ = _; rw [ST.out, if_pos (.inl h1), clip13, HMI.out, show max x 0 = x by omega]
            clear ST hmi hh
            go_wp2_with (refine wl_minI rfl _ _ rfl x 1048576 mi rfl rfl HMI.out ?_)
            go_roundw
            case rel => exact ⟨k + 1, s + mi, by omega, by go_num, by go_num, HE, trivial⟩
            case measure => simp [intOf]; omega
          · have h0' : decide (0 < x) = false := by simpa using h0
            have HE : Hid (s = ldS z l nn (k + 1)) := by show _ = _; rw [ST.out, if_pos (.inl h1), show clip13 x = 0 by unfold clip13; omega, Int.add_zero]
            clear ST hmi HMI hh
            go_wp2_with fail
            go_roundw
            case rel => exact ⟨k + 1, s, by omega, by go_num, rfl, HE, trivial⟩
            case measure => simp [intOf]; omega
        · have h1' : (pa == nn) = false := by simpa using h1
          by_cases h2 : pb = nn
          · have h2' : (pb == nn) = true := by simpa using h2
            have hh : True := trivial
            by_cases h0 : 0 < x
            · have h0' : decide (0 < x) = true := by simpa using h0
              have hm1 : mi ≤ 1048576 := by omega
              have hm0 : 0 ≤ mi := by omega
              have hsum : s + mi ≤ 9223372036854775807 := by omega
              have HE : Hid (s + mi = ldS z l nn (k + 1)) := by show _ = _; rw [ST.out, if_pos (.inr h2), clip13, HMI.out, show max x 0 = x by omega]
              clear ST hmi hh
              go_wp2_with (refine wl_minI rfl _ _ rfl x 1048576 mi rfl rfl HMI.out ?_)
              go_roundw
              case rel => exact ⟨k + 1, s + mi, by omega, by go_num, by go_num, HE, trivial⟩
              case measure => simp [intOf]; omega
            · have h0' : decide (0 < x) = false := by simpa using h0
              have HE : Hid (s = ldS z l nn (k + 1)) := by show _ = _; rw [ST.out, if_pos (.inr h2), show clip13 x = 0 by unfold clip13; omega, Int.add_zero]
              clear ST hmi HMI hh
              go_wp2_with fail
              go_roundw
              case rel => exact ⟨k + 1, s, by omega, by go_num, rfl, HE, trivial⟩
              case measure => simp [intOf]; omega
          · have h2' : (pb == nn) = false := by simpa using h2
            have HE : Hid (s = ldS z l nn (k + 1)) := by show _ = _; rw [ST.out, if_neg (fun h => by rcases h with h | h; exact h1 h; exact h2 h), Int.add_zero]
            clear ST hmi HMI
            go_wp2_with fail
            go_roundw
            case rel => exact ⟨k + 1, s, by omega, by go_num, rfl, HE, trivial⟩
            case measure => simp [intOf]; omega
      · have hkl1 : decide ((k : Int) < (nl : Int)) = false := by simp; omega
        have hkl2 : decide (k < nl) = false := by simpa using hkl
        have HE : Hid (s = ldS z l nn (k + 1)) := by
          show _ = _
          rw [ldS, hzk, show l[k]? = none from List.getElem?_eq_none (by have := HLL.out; omega), HSS.out]
          simp
        clear hzk
        go_wp2_with fail
        go_roundw
        case rel => exact ⟨k + 1, s, by omega, by go_num, rfl, HE, trivial⟩
        case measure => simp [intOf]; omega
    · have hlt' : ¬ (k : Int) < (nz : Int) := by omega
      obtain rfl : nz = k := by omega
      go_wp2_with fail
      refine (LD.out _ B1.out).mono ?_
      rintro e w3 ⟨rfl, hb3⟩
      have B3 : Hid (Below w.heap.size w w3) := B1.out.trans (hb3.mono B1.out.size)
      have hfin : loadsT z l nn = s := by rw [FIN.out, HSS.out]
      rw [hfin]
      clear hb3 hfin
      go_wp2_with fail
      go_ret
      exact ⟨by simp, B3.out⟩
end Go.Proofs.Ytdaoeabnjfaoiaa
