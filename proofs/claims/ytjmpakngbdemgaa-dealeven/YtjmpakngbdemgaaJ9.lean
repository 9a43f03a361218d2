import Derived.Test.YtjmpakngbdemgaaJ8
import Derived.Test.YtjmpakngbdemgaaJ1
import Derived.OrdersHeld
import Derived.Test.YtjmpakngbdemgaaJ3
namespace Go.Proofs.Ytjmpakngbdemgaa
open Go Go.Lib Go.RowKit Go.Sort Go.Shelf
set_option maxRecDepth 20000

def fillP (L : List Value) (z : Value) (k : Nat) : List Value := L.take k ++ List.replicate (L.length - k) z
theorem fill_len (L : List Value) (z : Value) (k : Nat) (h : k ≤ L.length) : (fillP L z k).length = L.length := by unfold fillP; simp; omega
theorem fill_zero (L : List Value) (z : Value) : fillP L z 0 = List.replicate L.length z := by unfold fillP; simp
theorem fill_all (L : List Value) (z : Value) : fillP L z L.length = L := by unfold fillP; simp
theorem fill_succ (L : List Value) (z u : Value) (k : Nat) (h : L[k]? = some u) : fillP L z (k + 1) = (fillP L z k).set k u := by
  have hk := (List.getElem?_eq_some_iff.1 h).1
  unfold fillP
  have hl : (L.take k).length = k := by rw [List.length_take]; omega
  rw [List.set_append_right _ _ (by omega), hl, Nat.sub_self, List.take_add_one, h]
  obtain ⟨m, hm⟩ : ∃ m, L.length - k = m + 1 := ⟨L.length - k - 1, by omega⟩
  rw [hm, show L.length - (k + 1) = m by omega]
  simp [List.replicate_succ]
set_option maxHeartbeats 8000000 in
set_option maxRecDepth 100000 in
/-- deal.falling. -/
theorem falling_any (z : List Int) (hn : z.length ≤ 1000) (v : Value) (w : World) (hL : ISl w v z) :
    Calls Try.prog 8 #[v] w fun e w' => ∃ v' o, e = .returned v' ∧ IsOrd (keyZ z) z.length o ∧ VOwn 3 w.heap.size w' v' (inV o) ∧ Below w.heap.size w w' := by
  obtain ⟨ov, cap, rfl, hc1, hc2⟩ := hL.slice
  unfold maxLen at hc2
  obtain ⟨f, hf⟩ : ∃ f, f = Value.slice ov z.length cap := ⟨_, rfl⟩
  have HS : Hid (∀ W, Below w.heap.size w W → W.heap[w.heap.size]? = some (.cells #[f] 24 (0, 0)) → VOwn 3 w.heap.size W (.slice (some ⟨w.heap.size + 1, 0, none⟩) z.length z.length) (inV (List.range z.length)) → Calls Try.prog 10 #[.slice (some ⟨w.heap.size + 1, 0, none⟩) z.length z.length, .func (.func 11) #[] #[.pointer (some ⟨w.heap.size, 0, none⟩)]] W fun e w' => e = .returned (.tuple #[]) ∧ ∃ o, IsOrd (keyZ z) z.length o ∧ VOwn 3 w.heap.size w' (.slice (some ⟨w.heap.size + 1, 0, none⟩) z.length z.length) (inV o) ∧ W.grownBy w' (some (w.heap.size + 1))) := fun W hb hd ho => by
    refine sort13_any z hn f w.heap.size w.heap.size (w.heap.size + 1) W _ (0, 0) ho hd (by omega) (by rw [hf]; exact VSl.below hL hb) (fun h0 b hvb e => ?_)
    subst e
    rw [hf] at hvb
    obtain ⟨g, off, x, cur, t, fr, rfl, h5, _⟩ := ISl.at hL 0 h0
    have e1 : g = w.heap.size + 1 := by simpa [Value.ownBlock] using hvb
    have e2 := (Array.getElem?_eq_some_iff.1 h5).1
    omega
  obtain ⟨n, hn0⟩ : ∃ n, n = z.length := ⟨_, rfl⟩
  rw [← hn0] at HS hn hf hc1 ⊢
  have HP : Hid ((inV (List.range n)).length = n ∧ ∀ k, k < n → (inV (List.range n))[k]? = some (Value.int .i64 (k : Int))) := ⟨by rw [inV_len]; simp, fun k hk => inV_range_at n k hk⟩
  have hc1' : f.cells = #[f] := by rw [hf]; rfl
  have FE : Hid (f = Value.slice ov n cap) := hf
  have R0 : Hid ((w.alloc (.cells #[f] 24)).heap[w.heap.size]? = some (.cells #[f] 24 (0, 0))) := heap_new _ _ _ rfl
  have B0 : Hid (Below w.heap.size w (w.alloc (.cells #[f] 24))) := (Below.refl _ _).alloc (Nat.le_refl _) _
  have c0 : (w.alloc (.cells #[f] 24)).cell? ⟨w.heap.size, 0, none⟩ = some f := by rw [cell_of_row _ _ _ _ _ _ R0.out]; rfl
  clear hn0 hL
  generalize inV (List.range n) = L at HP HS
  subst hf
  go_enter Try.func8, Try.ntmps8
  go_wp2_with (refine wl_makeV scI rfl _ _ rfl n rfl rfl (by omega) ?_; intro w1 ho hb)
  simp only [World.size_alloc] at ho hb ⊢
  have HO : Hid (VOwn 3 w.heap.size w1 (.slice (some ⟨w.heap.size + 1, 0, none⟩) n n) (fillP L (.int .i64 0) 0)) := by
    show VOwn _ _ _ _ _
    rw [fill_zero, HP.out.1]; exact ho.base (by omega)
  have hb' : Below (w.alloc (.cells #[.slice ov n cap] 24)).heap.size (w.alloc (.cells #[.slice ov n cap] 24)) w1 := by simpa only [World.size_alloc] using hb
  have HB : Hid (Below w.heap.size w w1) := B0.out.trans (hb'.mono (by simp))
  have HR : Hid (w1.heap[w.heap.size]? = some (.cells #[.slice ov n cap] 24 (0, 0))) := (hb'.block w.heap.size (by simp)).trans R0.out
  clear ho hb hb' B0 R0 c0
  go_loopw [10] (fun i wr => ∃ k : Nat, k ≤ n ∧ i = .int .i64 (k : Int) ∧ VOwn 3 w.heap.size wr (.slice (some ⟨w.heap.size + 1, 0, none⟩) n n) (fillP L (.int .i64 0) k) ∧ Below w.heap.size w wr ∧ wr.heap[w.heap.size]? = some (.cells #[.slice ov n cap] 24 (0, 0))) (fun i _ => n - (intOf i).toNat)
  case atStart => exact ⟨0, Nat.zero_le _, rfl, HO.out, HB.out, HR.out⟩
  case round =>
    clear HO HB HR
    obtain ⟨k, hk, rfl, ho, hb, hr⟩ := hrel
    have HO : Hid (VOwn 3 w.heap.size wr (.slice (some ⟨w.heap.size + 1, 0, none⟩) n n) (fillP L (.int .i64 0) k)) := ho
    have HB : Hid (Below w.heap.size w wr) := hb
    have HR : Hid (wr.heap[w.heap.size]? = some (.cells #[.slice ov n cap] 24 (0, 0))) := hr
    by_cases hlt : k < n
    · have hlt' : (k : Int) < (n : Int) := by omega
      obtain ⟨cc, hcc, _, hfr⟩ := ho.cell k hlt
      have NO : Hid (VOwn 3 w.heap.size (wr.setCell ⟨w.heap.size + 1, k, none⟩ (.int .i64 (k : Int))) (.slice (some ⟨w.heap.size + 1, 0, none⟩) n n) (fillP L (.int .i64 0) (k + 1))) := by
        show VOwn _ _ _ _ _
        rw [fill_succ L _ _ k (HP.out.2 k hlt)]; exact ho.set k _
      have hgr := ho.setBelow k (.int .i64 (k : Int))
      have NB : Hid (Below w.heap.size w (wr.setCell ⟨w.heap.size + 1, k, none⟩ (.int .i64 (k : Int)))) := hb.grown hgr hb.size (fun j hj => by cases hj; omega)
      have NR : Hid ((wr.setCell ⟨w.heap.size + 1, k, none⟩ (.int .i64 (k : Int))).heap[w.heap.size]? = some (.cells #[.slice ov n cap] 24 (0, 0))) := (hgr.block _ (Array.getElem?_eq_some_iff.1 hr).1 (fun e => by simp at e)).trans hr
      clear ho hb hr hgr
      go_wp2_with fail
      go_roundw
      case rel => exact ⟨k + 1, by omega, by go_num, NO.out, NB.out, NR.out⟩
      case measure => simp [intOf]; omega
    · have hlt' : ¬ (k : Int) < (n : Int) := by omega
      obtain rfl : k = n := by omega
      have hO := HO.out
      rw [← HP.out.1, fill_all, HP.out.1] at hO
      have HC := HS.out wr HB.out HR.out hO
      have HC' : Hid _ := HC
      clear ho hb hr hO HC HS HO HR
      go_wp2_with (go_at_call 10; refine Calls.mono HC'.out ?_; rintro e w' ⟨rfl, o, ho, hv, hg⟩)
      go_ret
      exact ⟨_, o, rfl, ho, hv, HB.out.grown hg HB.out.size (fun j hj => by cases hj; omega)⟩
end Go.Proofs.Ytjmpakngbdemgaa
namespace Go.Proofs.Ytjmpakngbdemgaa
open Go Go.Lib Go.RowKit
set_option maxRecDepth 20000

/-! deal.Loads. -/
def pairV (p : Int × Int) : Array Value := #[.int .i64 p.1, .int .i64 p.2]
def PairE : El := ⟨33, 26, 2, 16, #[.int .i64 0, .int .i64 0]⟩
theorem PairOk : PairE.Ok := ⟨Try.underlying26, ⟨_, Try.underlying33, rfl⟩, by kernel_rfl, by decide, by decide, by decide, by decide⟩
abbrev PairsAt (w : World) (v : Value) (l : List (Int × Int)) : Prop := GSl PairE pairV w v l
theorem wl_min3 {ops : Array Oper} {rest : List Oper} {o : Oper} {a : Act} {w : World} {Q : Exit → Act → World → Prop} (hgd : o.guard = none) (x y z : Operand) (ho : o.op = .call { callee := .builtin .min, args := #[x, y, z], argTypes := #[3, 3, 3] })
    (p q r m : Int) (hx : a.eval x = .int .i64 p) (hy : a.eval y = .int .i64 q) (hz : a.eval z = .int .i64 r) (hm : m = min (min p q) r) (h : wpList Try.prog ops Q rest (a.put o.dst (.int .i64 m)) w) : wpList Try.prog ops Q (o :: rest) a w := by
  obtain ⟨dst, op, ty, pos, after, guard⟩ := o
  subst ho
  have hr : (execOp a.eval ⟨dst, .call { callee := .builtin .min, args := #[x, y, z], argTypes := #[3, 3, 3] }, ty, pos, after, guard⟩).run Try.prog w = .ok (.value (.int .i64 m)) w := by
    subst hm
    unfold execOp
    by_cases h1 : p ≤ q
    · rw [show min p q = p by omega]
      by_cases h2 : p ≤ r
      · rw [show min p r = p by omega]
        simp [resolve, invoke, builtin, hx, hy, hz, Builtin.min_, Builtin.min2, show ¬ q < p by omega, show ¬ r < p by omega]
      · rw [show min p r = r by omega]
        simp [resolve, invoke, builtin, hx, hy, hz, Builtin.min_, Builtin.min2, show ¬ q < p by omega, show r < p by omega]
    · rw [show min p q = q by omega]
      by_cases h2 : q ≤ r
      · rw [show min q r = q by omega]
        simp [resolve, invoke, builtin, hx, hy, hz, Builtin.min_, Builtin.min2, show q < p by omega, show ¬ r < q by omega]
      · rw [show min q r = r by omega]
        simp [resolve, invoke, builtin, hx, hy, hz, Builtin.min_, Builtin.min2, show q < p by omega, show r < q by omega]
  refine wpList_plain hgd fun K hK => ?_
  unfold Oper.wp
  rw [hr]
  exact hK _ _ h
def clip13 (x : Int) : Int := min (max x 0) 1048576
theorem clip_le (x : Int) : 0 ≤ clip13 x ∧ clip13 x ≤ 1048576 := by unfold clip13; omega
def ldS (z : List Int) (l : List (Int × Int)) (n : Int) : Nat → Int
  | 0 => 0
  | k + 1 => ldS z l n k + (match z[k]?, l[k]? with | some x, some p => if p.1 = n ∨ p.2 = n then clip13 x else 0 | _, _ => 0)
theorem ldS_le (z : List Int) (l : List (Int × Int)) (n : Int) : ∀ k, 0 ≤ ldS z l n k ∧ ldS z l n k ≤ 1048576 * (k : Int)
  | 0 => by simp [ldS]
  | k + 1 => by
    have ih := ldS_le z l n k
    unfold ldS
    split
    · rename_i x p _ _
      have hc := clip_le x
      split <;> omega
    · omega
def loadsT (z : List Int) (l : List (Int × Int)) (n : Int) : Int := ldS z l n (min (min z.length l.length) 4096)
set_option maxHeartbeats 8000000 in
theorem loads_any (z : List Int) (l : List (Int × Int)) (n : Int) (vz vl : Value) (w : World) (hz : ISl w vz z) (hl : PairsAt w vl l) :
    Calls Try.prog 6 #[vz, vl, .int .i64 n] w fun e w' => e = .returned (.int .i64 (loadsT z l n)) ∧ Below w.heap.size w w' := by
  obtain ⟨oz, cz, rfl, hz1, hz2⟩ := hz.slice
  obtain ⟨ol, cl, rfl, hl1, hl2⟩ := GSl.slice hl
  unfold maxLen at hz2 hl2
  obtain ⟨a, ha⟩ : ∃ a, a = z.length := ⟨_, rfl⟩
  obtain ⟨c, hc⟩ : ∃ c, c = l.length := ⟨_, rfl⟩
  rw [← ha] at hz hz1 ⊢
  rw [← hc] at hl hl1 ⊢
  obtain ⟨m, hm⟩ : ∃ m, m = min (min a c) 4096 := ⟨_, rfl⟩
  have HM : Hid ((m : Int) = min (min (a : Int) (c : Int)) 4096) := (by omega : (m : Int) = min (min (a : Int) (c : Int)) 4096)
  have hma : m ≤ a := by omega
  have hmc : m ≤ c := by omega
  have hm4 : m ≤ 4096 := by omega
  have RES : Hid (loadsT z l n = ldS z l n m) := by show _ = _; unfold loadsT; rw [← ha, ← hc, ← hm]
  have HZ : Hid (ISl w (.slice oz a cz) z) := hz
  have HL : Hid (PairsAt w (.slice ol c cl) l) := hl
  have LE : Hid (∀ k, 0 ≤ ldS z l n k ∧ ldS z l n k ≤ 1048576 * (k : Int)) := ldS_le z l n
  rw [RES.out]
  clear hz hl ha hc hm RES
  go_enter Try.func6, Try.ntmps6
  go_wp2_with (refine wl_min3 rfl _ _ _ rfl (a : Int) (c : Int) 4096 (m : Int) rfl rfl rfl HM.out ?_)
  go_loopw [7, 14] (fun v i wr => ∃ (k : Nat) (s : Int), k ≤ m ∧ i = .int .i64 (k : Int) ∧ v = .int .i64 s ∧ Hid (s = ldS z l n k) ∧ wr = w) (fun _ i _ => m - (intOf i).toNat)
  case atStart => exact ⟨0, 0, Nat.zero_le _, rfl, rfl, rfl, rfl⟩
  case round =>
    obtain ⟨k, s, hk, rfl, rfl, HSS, rfl⟩ := hrel
    by_cases hlt : k < m
    · have hlt' : (k : Int) < (m : Int) := by omega
      have hka : (k : Int) < (a : Int) := by omega
      have hkc : (k : Int) < (c : Int) := by omega
      obtain ⟨g, off, x, rfl, hx, hzk⟩ := HZ.out.cell k (by omega)
      obtain ⟨g2, off2, cur2, t2, fr2, p, rfl, hg2, hc2, hlk⟩ := HL.out.at k (by omega)
      have p0 : wr.cell? ⟨g2, off2 + k * 2, none⟩ = some (.int .i64 p.1) := (cell_of_row _ _ _ _ _ _ hg2).trans (hc2 0 (by show 0 < 2; omega))
      have p1 : wr.cell? ⟨g2, off2 + k * 2 + 1, none⟩ = some (.int .i64 p.2) := (cell_of_row _ _ _ _ _ _ hg2).trans (hc2 1 (by show 1 < 2; omega))
      have hs := LE.out k
      have ST : Hid (ldS z l n (k + 1) = s + if p.1 = n ∨ p.2 = n then clip13 x else 0) := by
        show _ = _
        rw [ldS, hzk, hlk, HSS.out]
      rw [← HSS.out] at hs
      obtain ⟨mx, hmx⟩ : ∃ mx, mx = max x 0 := ⟨_, rfl⟩
      obtain ⟨mi, hmi⟩ : ∃ mi, mi = min mx 1048576 := ⟨_, rfl⟩
      have HMX : Hid (mx = max x 0) := hmx
      have HMI : Hid (mi = min mx 1048576) := hmi
      have hmi0 : 0 ≤ mi := by omega
      have hmi1 : mi ≤ 1048576 := by omega
      obtain ⟨pa, pb⟩ := p
      simp only at p0 p1 ST
      have hsum : s + mi ≤ 9223372036854775807 := by omega
      have hsum2 : -9223372036854775808 ≤ s + mi := by omega
      clear hg2 hc2 hzk hlk hmx hmi hs
      by_cases h1 : pa = n
      · have h1' : (pa == n) = true := by simpa using h1
        have HE : Hid (s + mi = ldS z l n (k + 1)) := by show _ = _; rw [ST.out, if_pos (.inl h1), clip13, ← HMX.out, ← HMI.out]
        clear h1 ST
        go_wp2_with (first | (refine wl_maxI rfl _ _ rfl x 0 mx rfl rfl HMX.out ?_) | (refine wl_minI rfl _ _ rfl mx 1048576 mi rfl rfl HMI.out ?_))
        go_roundw
        case rel => exact ⟨k + 1, s + mi, by omega, by go_num, by go_num, HE, trivial⟩
        case measure => simp [intOf]; omega
      · have h1' : (pa == n) = false := by simpa using h1
        by_cases h2 : pb = n
        · have h2' : (pb == n) = true := by simpa using h2
          have HE : Hid (s + mi = ldS z l n (k + 1)) := by show _ = _; rw [ST.out, if_pos (.inr h2), clip13, ← HMX.out, ← HMI.out]
          clear h1 h2 ST
          go_wp2_with (first | (refine wl_maxI rfl _ _ rfl x 0 mx rfl rfl HMX.out ?_) | (refine wl_minI rfl _ _ rfl mx 1048576 mi rfl rfl HMI.out ?_))
          go_roundw
          case rel => exact ⟨k + 1, s + mi, by omega, by go_num, by go_num, HE, trivial⟩
          case measure => simp [intOf]; omega
        · have h2' : (pb == n) = false := by simpa using h2
          have HE : Hid (s = ldS z l n (k + 1)) := by show _ = _; rw [ST.out, if_neg (fun h => by rcases h with h | h; exact h1 h; exact h2 h), Int.add_zero]
          clear h1 h2 ST
          go_wp2_with fail
          go_roundw
          case rel => exact ⟨k + 1, s, by omega, by go_num, rfl, HE, trivial⟩
          case measure => simp [intOf]; omega
    · have hlt' : ¬ (k : Int) < (m : Int) := by omega
      obtain rfl : m = k := by omega
      go_wp2_with fail
      go_ret
      exact ⟨by rw [← HSS.out]; rfl, Below.refl _ _⟩
end Go.Proofs.Ytjmpakngbdemgaa
namespace Go.Proofs.Ytjmpakngbdemgaa
open Go Go.Lib Go.RowKit
set_option maxRecDepth 20000

/-! Pairs in a row of one's own. -/
def POwn (B : Nat) (w : World) (v : Value) (l : List (Int × Int)) : Prop := w.ownsRow B 33 2 v l.length (gcells pairV l)
theorem POwn.at_ {B : Nat} {w : World} {v : Value} {l : List (Int × Int)} (h : POwn B w v l) : PairsAt w v l := gsl_of (E := PairE) h fun _ _ => rfl
theorem gcells_set : ∀ (l : List (Int × Int)) (i : Nat) (a b : Int), i < l.length → ((gcells pairV l).set (i * 2) (.int .i64 a)).set (i * 2 + 1) (.int .i64 b) = gcells pairV (l.set i (a, b))
  | p :: l, 0, a, b, _ => by simp [gcells, pairV]
  | p :: l, i + 1, a, b, h => by
    have ih := gcells_set l i a b (by simpa using h)
    rw [gcells_cons, List.set_cons_succ, gcells_cons, ← ih]
    rw [show (i + 1) * 2 = (pairV p).toList.length + i * 2 by simp [pairV]; omega, List.set_append_right _ _ (by omega)]
    rw [show (pairV p).toList.length + i * 2 + 1 = (pairV p).toList.length + (i * 2 + 1) by omega, List.set_append_right _ _ (by omega)]
    rw [Nat.add_sub_cancel_left, Nat.add_sub_cancel_left]
theorem gcells_len2 (l : List (Int × Int)) : (gcells pairV l).length = l.length * 2 := by
  induction l with
  | nil => rfl
  | cons p l ih => rw [gcells_cons, List.length_append, ih]; simp [pairV]; omega
theorem POwn.set {B : Nat} {w : World} {g n cap : Nat} {l : List (Int × Int)} (h : POwn B w (.slice (some ⟨g, 0, none⟩) n cap) l) (hn : n = l.length) (i : Nat) (hi : i < n) (a b : Int) :
    POwn B ((w.setCell ⟨g, i * 2, none⟩ (.int .i64 a)).setCell ⟨g, i * 2 + 1, none⟩ (.int .i64 b)) (.slice (some ⟨g, 0, none⟩) n cap) (l.set i (a, b)) ∧ w.grownBy ((w.setCell ⟨g, i * 2, none⟩ (.int .i64 a)).setCell ⟨g, i * 2 + 1, none⟩ (.int .i64 b)) (some g) := by
  subst hn
  unfold POwn at h ⊢
  obtain ⟨h1, h2⟩ := World.ownsRow.stored h (i * 2) (.int .i64 a)
  obtain ⟨h3, h4⟩ := World.ownsRow.stored h1 (i * 2 + 1) (.int .i64 b)
  rw [List.length_set, ← gcells_set l i a b hi]
  refine ⟨h3, ⟨h4.os.trans h2.os, h4.tape.trans h2.tape, h4.output.trans h2.output, Nat.le_trans h2.size h4.size, fun j hj hne => (h4.block j (Nat.lt_of_lt_of_le hj h2.size) hne).trans (h2.block j hj hne)⟩⟩
theorem POwn.cell {B : Nat} {w : World} {g n cap : Nat} {l : List (Int × Int)} (h : POwn B w (.slice (some ⟨g, 0, none⟩) n cap) l) (i : Nat) (hi : i < n) : ∃ p, l[i]? = some p ∧ w.cell? ⟨g, i * 2, none⟩ = some (.int .i64 p.1) ∧ w.cell? ⟨g, i * 2 + 1, none⟩ = some (.int .i64 p.2) ∧ (∀ k, w.frozen? ⟨g, k, none⟩ = false) := by
  obtain ⟨g', off, cur, t, fr, p, e, hg, hc, hp⟩ := (POwn.at_ h).at i hi
  simp only [Option.some.injEq, Addr.mk.injEq, and_true] at e
  obtain ⟨rfl, rfl⟩ := e
  refine ⟨p, hp, ?_, ?_, ?_⟩
  · rw [cell_of_row _ _ _ _ _ _ hg]; have := hc 0 (by show 0 < 2; omega); rw [Nat.zero_add] at this; exact this
  · rw [cell_of_row _ _ _ _ _ _ hg]; have := hc 1 (by show 1 < 2; omega); rw [Nat.zero_add] at this; exact this
  · intro k
    obtain ⟨_, ⟨e, _⟩ | ⟨g', cap', cur', e, _, hcur, _⟩⟩ := h
    · cases e
    · simp only [Value.slice.injEq, Option.some.injEq, Addr.mk.injEq, and_true] at e
      obtain ⟨⟨rfl, _⟩, _⟩ := e
      simp [World.frozen?, hcur]
theorem made_pairs (n : Nat) : (madeCells #[.int .i64 0, .int .i64 0] (n * 2)).toList = gcells pairV (List.replicate n (0, 0)) := by
  apply List.ext_getElem?
  intro j
  have hl : (gcells pairV (List.replicate n ((0, 0) : Int × Int))).length = n * 2 := by rw [gcells_len2, List.length_replicate]
  rcases Nat.lt_or_ge j (n * 2) with hj | hj
  · have h1 : (madeCells #[.int .i64 0, .int .i64 0] (n * 2)).toList[j]? = some (.int .i64 0) := by
      rcases (show j % 2 = 0 ∨ j % 2 = 1 by omega) with h | h <;> simp [madeCells, hj, h]
    have h2 : ∀ c ∈ gcells pairV (List.replicate n ((0, 0) : Int × Int)), c = Value.int .i64 0 := fun c hc => by
      unfold gcells at hc
      obtain ⟨p, hp, hc2⟩ := List.mem_flatMap.1 hc
      rw [(List.mem_replicate.1 hp).2] at hc2
      simpa [pairV] using hc2
    rw [h1, List.getElem?_eq_getElem (by omega), h2 _ (List.getElem_mem _)]
  · rw [List.getElem?_eq_none (by simpa [size_madeCells] using hj), List.getElem?_eq_none (by omega)]
theorem wl_makeP {ops : Array Oper} {rest : List Oper} {o : Oper} {a : Act} {w : World} {Q : Exit → Act → World → Prop} (hgd : o.guard = none) (x y : Operand) (ho : o.op = .makeSlice 26 x y)
    (n : Nat) (hx : a.eval x = .int .i64 (n : Int)) (hy : a.eval y = .int .i64 (n : Int)) (hn : n ≤ 1000000)
    (h : ∀ w', POwn w.heap.size w' (.slice (some ⟨w.heap.size, 0, none⟩) n n) (List.replicate n (0, 0)) → Below w.heap.size w w' → wpList Try.prog ops Q rest (a.put o.dst (.slice (some ⟨w.heap.size, 0, none⟩) n n)) w') : wpList Try.prog ops Q (o :: rest) a w := by
  obtain ⟨i, hi, hz, h1, h2⟩ := PairOk.info
  refine wpList_plain hgd fun K hK => ?_
  obtain ⟨w', hr, hown, hgr⟩ := run_make_full (P := Try.prog) w w.heap.size 26 33 i (.agg #[.int .i64 0, .int .i64 0]) 2 Try.underlying26 hi hz h1 .i64 .i64 n (by rw [h2]; show 16 * n ≤ _; omega) (by unfold maxLen; omega) (Nat.le_refl _)
  unfold Oper.wp execOp
  simp only [ho, hx, hy, hr, Sem.run_bind, Sem.run_pure, Result.andThen_ok]
  refine hK _ _ (h w' ?_ ((Below.refl _ _).grown hgr (Nat.le_refl _) fun k hk => by cases hk))
  unfold POwn
  rw [List.length_replicate, ← made_pairs]
  exact hown
end Go.Proofs.Ytjmpakngbdemgaa
namespace Go.Proofs.Ytjmpakngbdemgaa
open Go Go.RowKit
set_option maxRecDepth 20000

/-- An operation that only reckons or reads. -/
def isRead (o : Oper) : Bool :=
  match o.op with
  | .move _ | .load _ _ | .binOp _ _ _ _ _ | .indexAddr _ _ _ | .extract _ _ | .assign _ | .fieldAddr _ _ _ | .slice _ _ _ _ _ => true
  | _ => false

theorem read_value {P : Program} {ρ : Operand → Value} {o : Oper} (h : isRead o = true) (w : World) (nx : Next) (w' : World) (hr : (execOp ρ o).run P w = .ok nx w') : ∃ u, nx = .value u := by
  unfold isRead at h
  unfold execOp at hr
  split at h
  · rename_i x e
    simp only [e, Sem.run_pure, Result.ok.injEq] at hr
    exact ⟨_, hr.1.symm⟩
  · rename_i t x e
    simp only [e, Sem.run_bind, Sem.run_pure] at hr
    revert hr
    generalize (Instr.loadAt t (ρ x)).run P w = r
    intro hr
    cases r with
    | ok a w1 => simp only [Result.andThen_ok, Result.ok.injEq] at hr; exact ⟨_, hr.1.symm⟩
    | halt x w1 => simp [Result.andThen] at hr
  · rename_i op t x y z e
    simp only [e, Sem.run_bind, Sem.run_pure] at hr
    revert hr
    generalize ((eqGuard op t x y (ρ x) (ρ y)).run P w).andThen (fun _ w' => (binOp op t (ρ x) (ρ y)).run P w') = r
    intro hr
    cases r with
    | ok a w1 => simp only [Result.andThen_ok, Result.ok.injEq] at hr; exact ⟨_, hr.1.symm⟩
    | halt x w1 => simp [Result.andThen] at hr
  · rename_i t x y e
    simp only [e, Sem.run_bind, Sem.run_pure] at hr
    revert hr
    generalize (Instr.indexAt t (ρ x) (ρ y)).run P w = r
    intro hr
    cases r with
    | ok a w1 => simp only [Result.andThen_ok, Result.ok.injEq] at hr; exact ⟨_, hr.1.symm⟩
    | halt x w1 => simp [Result.andThen] at hr
  · rename_i x i e
    simp only [e, Sem.run_bind, Sem.run_pure] at hr
    revert hr
    generalize (Instr.extract (ρ x) i).run P w = r
    intro hr
    cases r with
    | ok a w1 => simp only [Result.andThen_ok, Result.ok.injEq] at hr; exact ⟨_, hr.1.symm⟩
    | halt x w1 => simp [Result.andThen] at hr
  · rename_i x e
    simp only [e, Sem.run_pure, Result.ok.injEq] at hr
    exact ⟨_, hr.1.symm⟩
  · rename_i t x i e
    simp only [e, Sem.run_bind, Sem.run_pure] at hr
    revert hr
    generalize (Instr.fieldAt t (ρ x) i).run P w = r
    intro hr
    cases r with
    | ok a w1 => simp only [Result.andThen_ok, Result.ok.injEq] at hr; exact ⟨_, hr.1.symm⟩
    | halt x w1 => simp [Result.andThen] at hr
  · rename_i t x lo hi mx e
    simp only [e, Sem.run_bind, Sem.run_pure] at hr
    revert hr
    generalize (Instr.sliceAt t (ρ x) (lo.map ρ) (hi.map ρ) (mx.map ρ)).run P w = r
    intro hr
    cases r with
    | ok a w1 => simp only [Result.andThen_ok, Result.ok.injEq] at hr; exact ⟨_, hr.1.symm⟩
    | halt x w1 => simp [Result.andThen] at hr
  · cases h

theorem yieldsIf_of_in {P : Program} {ops : Array Oper} {S : World → Prop} {o : Oper} {v : Value} {a : Act} (h : isRead o = true) (hy : YieldsIn P ops S o v a) : YieldsIf P ops S o v a := by
  rcases hy with ⟨hw, hv⟩ | hn
  · refine .inl ⟨hw, fun w hS => ?_⟩
    have hq := hv w hS
    unfold Oper.quietAt at hq
    cases hr : (execOp a.eval o).run P w with
    | ok nx w' =>
      obtain ⟨u, rfl⟩ := read_value h w nx w' hr
      rw [hr] at hq
      obtain ⟨rfl, rfl⟩ := hq
      rfl
    | halt x w' => rw [hr] at hq; exact hq.elim
  · exact .inr hn

def headFrom (md : Region.Mode) (ops : Array Oper) : Nat → Nat → Array Bool → Bool
  | 0, _, _ => true
  | f + 1, k, listed => (Region.ready md ops listed).contains k && Region.free md ops listed k && headFrom md ops f (k + 1) (listed.setIfInBounds k true)
def listedFrom : Nat → Nat → Array Bool → Array Bool
  | 0, _, l => l
  | f + 1, k, l => listedFrom f (k + 1) (l.setIfInBounds k true)

theorem reads_held {P : Program} {md : Region.Mode} {ops : Array Oper} {Q : Exit → Act → World → Prop} {S : World → Prop} {g : Nat} (hs : Region.noSelect ops = true) (hQ : ∀ d v c a w, Q (.panic c) (Act.put a d v) w → Q (.panic c) a w) (w : World) (hS : S w) :
    ∀ (l : List Oper) (k : Nat) (listed : Array Bool) (a : Act), (∀ j, j < l.length → l[j]? = ops[k + j]?) → headFrom md ops l.length k listed = true → l.all isRead = true →
      wpQuiet P ops S (fun a' => wpAnyH P md ops Q S g (listedFrom l.length k listed) a' w) l a → wpAnyH P md ops Q S (l.length + g) listed a w
  | [], _, _, _, _, _, _, h => by simpa [wpQuiet, listedFrom] using h
  | o :: l, k, listed, a, hl, hB, hr, h => by
    have h0 : ops[k]? = some o := by simpa using (hl 0 (by simp)).symm
    simp only [List.length_cons, headFrom, Bool.and_eq_true] at hB
    simp only [List.all_cons, Bool.and_eq_true] at hr
    have hst : qOp P ops S k (wpQuiet P ops S (fun a' => wpAnyH P md ops Q S g (listedFrom (o :: l).length k listed) a' w) l) a := by
      unfold qOp; simp only [h0]; exact h
    obtain ⟨v, hy, hK⟩ := yieldsIn_of_qOp h0 hst
    have ih := reads_held hs hQ w hS l (k + 1) (listed.setIfInBounds k true) (a.put o.dst v) (fun j hj => by
      have := hl (j + 1) (by simp; omega)
      simpa [Nat.add_assoc, Nat.add_comm 1 j] using this) hB.2 hr.2 hK
    rw [show (o :: l).length + g = (l.length + g) + 1 by simp; omega]
    exact wpAnyH_take h0 hs hB.1.2 hB.1.1 (fun c a w => hQ o.dst v c a w) (yieldsIf_of_in hr.1 hy) hS ih

/-- A drawn region, from its beginning. -/
theorem region_begin {P : Program} {id : Nat} {Q : Exit → Act → World → Prop} {a : Act} {w : World} {lo : List Oper} (n : Nat) (hn : lo.length = n) (hm : P.follows .mixedOrders = true)
    (h : wpAnyH P .any lo.toArray Q (fun w' => ∃ u : Later w, w' = u.world) n (Array.replicate n false) a w.drew) : (Code.region id lo.toArray true).wp P Q a w := by
  refine wp_region_held (S := fun w' => ∃ u : Later w, w' = u.world) hm ?_
  rw [show lo.toArray.size = n by simpa using hn]
  exact h
/-- The same with a class of worlds of one's own. -/
theorem region_beginS {P : Program} {id : Nat} {Q : Exit → Act → World → Prop} {a : Act} {w : World} {lo : List Oper} (S : World → Prop) (n : Nat) (hn : lo.length = n) (hm : P.follows .mixedOrders = true)
    (h : wpAnyH P .any lo.toArray Q S n (Array.replicate n false) a w.drew) : (Code.region id lo.toArray true).wp P Q a w := by
  refine wp_region_held (S := S) hm ?_
  rw [show lo.toArray.size = n by simpa using hn]
  exact h
/-- n operations, from number k on, that only read, are taken first. -/
theorem region_reads {P : Program} {Q : Exit → Act → World → Prop} {S : World → Prop} {a : Act} {w : World} {lo : List Oper} {listed : Array Bool} (k n g : Nat) (hl : ((lo.drop k).take n).length = n) (hs : Region.noSelect lo.toArray = true)
    (hB : headFrom .any lo.toArray n k listed = true) (hr : ((lo.drop k).take n).all isRead = true) (hQ : ∀ d v c a w, Q (.panic c) (Act.put a d v) w → Q (.panic c) a w) (hS : S w)
    (h : wpQuiet P lo.toArray S (fun a' => wpAnyH P .any lo.toArray Q S g (listedFrom n k listed) a' w) ((lo.drop k).take n) a) : wpAnyH P .any lo.toArray Q S (n + g) listed a w := by
  have := reads_held (P := P) (md := .any) (Q := Q) (g := g) hs hQ w hS ((lo.drop k).take n) k listed a (fun j hj => by
    rw [hl] at hj
    rw [List.getElem?_take_of_lt hj, List.getElem?_drop]
    simp) (by rw [hl]; exact hB) hr (by rw [hl]; exact h)
  rwa [hl] at this
theorem noPanic {F : Act → World → Prop} : ∀ (d : Option Tmp) (v : Value) c (a : Act) (w : World), (fun (e : Exit) a w => e = .normal ∧ F a w) (.panic c) (Act.put a d v) w → (fun (e : Exit) a w => e = .normal ∧ F a w) (.panic c) a w :=
  fun _ _ _ _ _ h => absurd h.1 (by simp)
/-- A cut behind a region. -/
theorem region_cut {P : Program} {c : Code} {Q : Exit → Act → World → Prop} {a : Act} {w : World} (F : Act → Act → World → Prop) (h1 : c.wp P (fun e a' w' => e = .normal ∧ F a a' w') a w) (h2 : ∀ a' w', F a a' w' → Q .normal a' w') : c.wp P Q a w :=
  Code.wp_mono (by rintro e a' w' ⟨rfl, h⟩; exact h2 a' w' h) h1

theorem wpOp_wanted {P : Program} {ops : Array Oper} {Q : Exit → Act → World → Prop} {i : Nat} {o : Oper} {K : Act → World → Prop} {a : Act} {w : World} (hi : ops[i]? = some o) (hw : Region.wanted o (yielded ops a.tmps) = true) (h : o.wp P a w K Q) : wpOp P ops Q i K a w := by
  unfold Go.wpOp
  simp only [hi, hw, if_true]
  exact .inl h
theorem wpOp_call {ops : Array Oper} {Q : Exit → Act → World → Prop} {i : Nat} {o : Oper} {K : Act → World → Prop} {a : Act} {w : World} (hi : ops[i]? = some o) (hw : Region.wanted o (yielded ops a.tmps) = true) (f : FuncId) (xs : Array Operand)
    (hf : ∀ (b : Act) (w : World), (execOp b.eval o).run Try.prog w = .ok (.enter f (xs.map b.eval)) w) (vs : Array Value) (hvs : xs.toList.map a.eval = vs.toList)
    (D : Value → World → Prop) (h : Calls Try.prog f vs w fun e w' => ∃ v, e = .returned v ∧ D v w') (d : Option Tmp) (hd : o.dst = d) (hK : ∀ v w', D v w' → K (a.put d v) w') : wpOp Try.prog ops Q i K a w := by
  subst hd
  refine wpOp_wanted hi hw ?_
  unfold Oper.wp
  rw [hf a w, show xs.map a.eval = vs from Array.ext' (by rw [Array.toList_map]; exact hvs)]
  refine h.mono ?_
  rintro e w' ⟨v, rfl, hc⟩
  exact hK v w' hc
theorem wpOp_assign {P : Program} {ops : Array Oper} {Q : Exit → Act → World → Prop} {i : Nat} {o : Oper} {K : Act → World → Prop} {a : Act} {w : World} (hi : ops[i]? = some o) (hw : Region.wanted o (yielded ops a.tmps) = true) (x : Operand) (ho : o.op = .assign x) (v : Value) (hx : a.eval x = v) (d : Option Tmp) (hd : o.dst = d)
    (hK : K (a.put d v) w) : wpOp P ops Q i K a w := by
  subst hd hx
  refine wpOp_wanted hi hw ?_
  unfold Oper.wp execOp
  simp only [ho, Sem.run_pure]
  exact hK
end Go.Proofs.Ytjmpakngbdemgaa
namespace Go.Proofs.Ytjmpakngbdemgaa
open Go Go.RowKit
set_option maxRecDepth 20000

/-- One operation of a drawn region, by the laws for a list of them. -/
theorem wpOp_of_list {P : Program} {ops : Array Oper} {Q : Exit → Act → World → Prop} {i : Nat} {o : Oper} {K : Act → World → Prop} {a : Act} {w : World} (hi : ops[i]? = some o)
    (h : wpList P ops (fun e a' w' => match e with | .normal => K a' w' | e => Q e a' w') [o] a w) : wpOp P ops Q i K a w := by
  unfold Go.wpOp
  simp only [hi]
  unfold wpList at h
  by_cases hw : Region.wanted o (yielded ops a.tmps) = true
  · rw [if_pos hw] at h ⊢
    rcases h with h | h
    · refine .inl ?_
      unfold Oper.wp at h ⊢
      revert h
      generalize (execOp a.eval o).run P w = r
      intro h
      unfold Oper.upon at h ⊢
      split at h
      · exact h
      · exact h
      · exact h
      · refine h.mono ?_
        intro e w1 h1
        cases e <;> exact h1
      · exact h
      · exact h
      · exact h.elim
    · exact .inr h
  · rw [if_neg hw] at h ⊢
    exact h
theorem eval_put (a : Act) (k j : Nat) (v : Value) (hk : k < a.tmps.size) : (a.put (some k) v).eval (.tmp j) = if j = k then v else a.eval (.tmp j) := by
  simp only [Act.eval, Act.put, Array.getElem?_setIfInBounds, Array.getD_eq_getD_getElem?]
  by_cases h : j = k
  · subst h; simp [hk]
  · simp [h, Ne.symm h]
theorem size_put (a : Act) (d : Option Tmp) (v : Value) : (a.put d v).tmps.size = a.tmps.size := by
  cases d <;> simp [Act.put]
theorem w_set_heap (w : World) : w.drew.heap = w.heap := rfl
theorem gb_drew (w : World) (g : Nat) : w.grownBy w.drew (some g) := ⟨rfl, rfl, rfl, Nat.le_refl _, fun _ _ _ => rfl⟩
theorem load_cell {ty e : TypeId} (hu : Try.prog.underlying ty = some (.slice e)) (W : World) (ad : Addr) (v : Value) (h : W.cell? ad = some v) : (Instr.loadAt ty (.pointer (some ad))).run Try.prog W = .ok v W := by
  have ha : (isAgg ty).run Try.prog W = .ok false W := by unfold isAgg; rw [Sem.run_bind, run_underlying hu W]; simp [go_sem]
  simp [Instr.loadAt, Instr.sureAddr, loadVar, Sem.run_bind, ha, go_sem, h]
theorem store_cell {ty : TypeId} (hsz : ∀ W, (sizeOf ty).run Try.prog W = .ok 1 W) (W : World) (ad : Addr) (v u : Value) (hv : ∃ o n c, v = .slice o n c) (h : W.cell? ad = some u) (hz : W.frozen? ad = false) : (Instr.storeAt ty (.pointer (some ad)) v).run Try.prog W = .ok () (W.setCell ad v) := by
  obtain ⟨o, n, c, rfl⟩ := hv
  simp [Instr.storeAt, Instr.sureAddr, storeVar, Sem.run_bind, hsz, go_sem, h, hz]
/-- One operation whose value is known. -/
theorem wpOp_val {ops : Array Oper} {Q : Exit → Act → World → Prop} {i : Nat} {o : Oper} {K : Act → World → Prop} {a : Act} {w w' : World} (hi : ops[i]? = some o) (hw : Region.wanted o (yielded ops a.tmps) = true) (v : Value)
    (hx : (execOp a.eval o).run Try.prog w = .ok (.value v) w') (d : Option Tmp) (hd : o.dst = d) (hK : K (a.put d v) w') : wpOp Try.prog ops Q i K a w := by
  subst hd
  refine wpOp_wanted hi hw ?_
  unfold Oper.wp
  rw [hx]
  exact hK
theorem wpOp_skip6 {ops : Array Oper} {Q : Exit → Act → World → Prop} {i : Nat} {o : Oper} {K : Act → World → Prop} {a : Act} {w w' : World} (hi : ops[i]? = some o) (hw : Region.wanted o (yielded ops a.tmps) = true)
    (hx : (execOp a.eval o).run Try.prog w = .ok .skip w') (d : Option Tmp) (hd : o.dst = d) (hK : K (a.put d undef) w') : wpOp Try.prog ops Q i K a w := by
  subst hd
  refine wpOp_wanted hi hw ?_
  unfold Oper.wp
  rw [hx]
  exact hK
theorem wpOp_skip0 {ops : Array Oper} {Q : Exit → Act → World → Prop} {i : Nat} {o : Oper} {K : Act → World → Prop} {a : Act} {w w' : World} (hi : ops[i]? = some o) (hw : Region.wanted o (yielded ops a.tmps) = true)
    (hx : (execOp a.eval o).run Try.prog w = .ok .skip w') (hd : o.dst = none) (hK : K a w') : wpOp Try.prog ops Q i K a w :=
  wpOp_skip6 hi hw hx none hd hK
theorem wpOp_callQ {ops : Array Oper} {Q : Exit → Act → World → Prop} {i : Nat} {o : Oper} {K : Act → World → Prop} {a : Act} {w : World} (hi : ops[i]? = some o) (hw : Region.wanted o (yielded ops a.tmps) = true) (f : FuncId) (vs : Array Value)
    (hf : (execOp a.eval o).run Try.prog w = .ok (.enter f vs) w) (D : Ending → World → Prop) (h : Calls Try.prog f vs w D) (d : Option Tmp) (hd : o.dst = d) (hK : ∀ v w', D (.returned v) w' → K (a.put d v) w') (hP : ∀ ch w', D (.panicked ch) w' → Q (.panic ch) a w') (hO : ∀ w', ¬ D .outgrown w') : wpOp Try.prog ops Q i K a w := by
  subst hd
  refine wpOp_wanted hi hw ?_
  unfold Oper.wp
  rw [hf]
  refine h.mono ?_
  intro e w' hD
  cases e with
  | returned v => exact hK v w' hD
  | panicked ch => exact hP ch w' hD
  | outgrown => exact absurd hD (hO w')

theorem run_fieldOp {o : Oper} {t i : Nat} {x : Operand} (ho : o.op = .fieldAddr t x i) (a : Act) (W : World) (v : Value) (h : (Instr.fieldAt t (a.eval x) i).run Try.prog W = .ok v W) : (execOp a.eval o).run Try.prog W = .ok (.value v) W := by
  unfold execOp
  simp only [ho, Sem.run_bind, h, Result.andThen_ok, Sem.run_pure]
theorem run_moveOp {o : Oper} {x : Operand} (ho : o.op = .move x) (a : Act) (W : World) (v : Value) (h : a.eval x = v) : (execOp a.eval o).run Try.prog W = .ok (.value v) W := by
  unfold execOp
  simp only [ho, Sem.run_pure, h]
theorem run_loadOp {o : Oper} {t : Nat} {x : Operand} (ho : o.op = .load t x) (a : Act) (W : World) (u v : Value) (hu : a.eval x = u) (h : (Instr.loadAt t u).run Try.prog W = .ok v W) : (execOp a.eval o).run Try.prog W = .ok (.value v) W := by
  unfold execOp
  simp only [ho, Sem.run_bind, hu, h, Result.andThen_ok, Sem.run_pure]
theorem run_storeOp {o : Oper} {t : Nat} {x y : Operand} (ho : o.op = .store t x y) (a : Act) (W W' : World) (u v : Value) (hu : a.eval x = u) (hv : a.eval y = v) (h : (Instr.storeAt t u v).run Try.prog W = .ok () W') : (execOp a.eval o).run Try.prog W = .ok .skip W' := by
  unfold execOp
  simp only [ho, Sem.run_bind, hu, hv, h, Result.andThen_ok, Sem.run_pure]
theorem run_callOp {o : Oper} {f : Nat} {x : Operand} {ts : Array TypeId} (ho : o.op = .call { callee := .value (.func f), args := #[x], argTypes := ts }) (hf : ∀ vs W, (callFunc f vs).run Try.prog W = .ok (.enter f vs) W) (a : Act) (W : World) (v : Value) (h : a.eval x = v) : (execOp a.eval o).run Try.prog W = .ok (.enter f #[v]) W := by
  unfold execOp
  have hef : a.eval (.func f) = .func (.func f) #[] #[] := rfl
  simp only [ho, resolve, hef, List.map_toArray, List.map_cons, List.map_nil, h]
  simp [go_sem, hf]
end Go.Proofs.Ytjmpakngbdemgaa
