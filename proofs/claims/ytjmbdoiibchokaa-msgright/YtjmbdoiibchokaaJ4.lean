import Derived.Test.YtjmbdoiibchokaaJ3
import Derived.Great.BuildSlice
import Derived.Test.YtjmbdoiibchokaaJ1
import Derived.Test.YtjmbdoiibchokaaJ2
import Derived.OrdersHeld
namespace Go.Proofs.Ytjmbdoiibchokaa
open Go Go.RowKit
set_option maxRecDepth 20000

/-- Some lists of bytes, and the values that hold them. -/
def Lists (w : World) : List Value → List (List UInt8) → Prop
  | [], [] => True
  | v :: vs, L :: Ls => BSl w v L ∧ Lists w vs Ls
  | _, _ => False
theorem Lists.len {w : World} : ∀ {vs : List Value} {Ls : List (List UInt8)}, Lists w vs Ls → vs.length = Ls.length
  | [], [], _ => rfl
  | [], _ :: _, h => False.elim h
  | _ :: _, [], h => False.elim h
  | _ :: vs, _ :: Ls, h => by rw [List.length_cons, List.length_cons, Lists.len (vs := vs) (Ls := Ls) h.2]
theorem Lists.below {w w' : World} (hb : Below w.heap.size w w') : ∀ {vs : List Value} {Ls : List (List UInt8)}, Lists w vs Ls → Lists w' vs Ls
  | [], [], _ => trivial
  | [], _ :: _, h => False.elim h
  | _ :: _, [], h => False.elim h
  | _ :: vs, _ :: Ls, h => ⟨h.1.below hb, Lists.below hb (vs := vs) (Ls := Ls) h.2⟩
theorem Lists.at {w : World} : ∀ {vs : List Value} {Ls : List (List UInt8)}, Lists w vs Ls → ∀ (k : Nat) (hk : k < vs.length), ∃ L, Ls[k]? = some L ∧ BSl w vs[k] L
  | [], _, _, _, hk => absurd hk (by simp)
  | _ :: _, [], h, _, _ => False.elim h
  | v :: vs, L :: Ls, h, 0, _ => ⟨L, rfl, h.1⟩
  | v :: vs, L :: Ls, h, k + 1, hk => Lists.at (vs := vs) (Ls := Ls) h.2 k (by simpa using hk)
theorem flatten_take {Ls : List (List UInt8)} {k : Nat} {L : List UInt8} (h : Ls[k]? = some L) : (Ls.take (k + 1)).flatten = (Ls.take k).flatten ++ L := by
  rw [List.take_add_one, h]
  simp
theorem flatten_take_le (Ls : List (List UInt8)) (k : Nat) : (Ls.take k).flatten.length ≤ Ls.flatten.length := by
  conv => rhs; rw [← List.take_append_drop k Ls]
  rw [List.flatten_append, List.length_append]
  omega

set_option maxHeartbeats 2000000 in
theorem join_any (g : Nat) (vs : List Value) (Ls : List (List UInt8)) (w : World) (hg : w.heap[g]? = some (.cells vs.toArray 30 (0, 0))) (hvs : vs.length ≤ 100) (hL : Lists w vs Ls) (hn : Ls.flatten.length ≤ 140737488355328) :
    Calls Try.prog 39 #[.slice (some ⟨g, 0, none⟩) vs.length vs.length] w fun e w' => ∃ v, e = .returned v ∧ BOwn w.heap.size w' v Ls.flatten ∧ Below w.heap.size w w' := by
  obtain ⟨n, hnn⟩ : ∃ n, n = vs.length := ⟨_, rfl⟩
  have HN : Hid (n = vs.length) := hnn
  have HL : Hid (Lists w vs Ls) := hL
  have HG : Hid (w.heap[g]? = some (.cells vs.toArray 30 (0, 0))) := hg
  have hgl : g < w.heap.size := (Array.getElem?_eq_some_iff.1 hg).1
  have HF : Hid (∀ k L, Ls[k]? = some L → (Ls.take k).flatten.length + L.length ≤ 140737488355328) := fun k L h => by
    have h1 := flatten_take_le Ls (k + 1)
    rw [flatten_take h, List.length_append] at h1
    omega
  rw [← hnn] at hvs ⊢
  clear hnn hL hg hn
  go_enter Try.func39, Try.ntmps39
  go_wp2_with fail
  go_loopw [3, 8] (fun o i W => ∃ k : Nat, k ≤ n ∧ i = .int .i64 k ∧ BOwn w.heap.size W o (Ls.take k).flatten ∧ Below w.heap.size w W) (fun _ i _ => n - (intOf i).toNat)
  case atStart => exact ⟨0, Nat.zero_le _, rfl, by simpa using BOwn.nil _ _, Below.refl _ _⟩
  case round =>
    obtain ⟨k, hk, rfl, ho, hb⟩ := hrel
    have hsl := ho.sl.slice
    obtain ⟨D, hD⟩ : ∃ D, D = (Ls.take k).flatten := ⟨_, rfl⟩
    have HD : Hid (D = (Ls.take k).flatten) := hD
    rw [← hD] at ho hsl
    obtain ⟨m, hm⟩ : ∃ m, m = D.length := ⟨_, rfl⟩
    have HM : Hid (m = D.length) := hm
    rw [← hm] at hsl
    obtain ⟨o3, cap3, rfl, _, _⟩ := hsl
    have HO : Hid (BOwn w.heap.size wr (.slice o3 m cap3) D) := ho
    have HB : Hid (Below w.heap.size w wr) := hb
    by_cases hlt : k < n
    · have hkv : k < vs.length := by rw [← HN.out]; exact hlt
      obtain ⟨L, hLk, hLs⟩ := HL.out.at k hkv
      obtain ⟨u, hu⟩ : ∃ u, u = vs[k] := ⟨_, rfl⟩
      have hU : BSl wr u L := by rw [hu]; exact hLs.below hb
      have hc : wr.cell? ⟨g, k, none⟩ = some u := by
        rw [cell_of_row _ _ _ _ _ _ ((hb.block g hgl).trans HG.out), hu]
        simp [hkv]
      obtain ⟨l, hl⟩ : ∃ l, l = L.length := ⟨_, rfl⟩
      have HLL : Hid (l = L.length) := hl
      have hsl := hU.slice
      rw [← hl] at hsl
      clear hu
      obtain ⟨ou, capu, rfl, _, _⟩ := hsl
      have HU : Hid (BSl wr (.slice ou l capu) L) := hU
      have HFK : Hid (D.length + L.length ≤ 140737488355328) := by rw [HD.out]; exact HF.out k L hLk
      have HFT : Hid ((Ls.take (k + 1)).flatten = D ++ L) := by rw [HD.out]; exact flatten_take hLk
      have hsz := hb.size
      clear hLs hU ho hb hkv hLk hD hm hl
      go_wp2_with (first
        | (at_builtin; refine of_stopW ?_))
      unfold StopW
      refine wl_appW rfl _ _ rfl w.heap.size (.slice o3 m cap3) (.slice ou l capu) D L rfl HO.out rfl HU.out HFK.out (by omega) ?_
      intro v' w' ho' hgr _
      have HO2 : Hid (BOwn w.heap.size w' v' (Ls.take (k + 1)).flatten) := by rw [HFT.out]; exact ho'
      have HB2 : Hid (Below w.heap.size w w') := HB.out.grown hgr hsz fun q hq => (HO.out.ge q hq).1
      simp only [Act.put, List.setIfInBounds_toArray, List.set_cons_succ, List.set_cons_zero]
      clear ho' hgr
      go_wp2_with fail
      go_roundw
      case rel => exact ⟨k + 1, by omega, by go_num, HO2.out, HB2.out⟩
      case measure => simp [intOf]; omega
    · obtain rfl : k = n := by omega
      clear ho hb hD hm
      go_wp2_with fail
      go_ret
      refine ⟨_, rfl, ?_, HB.out⟩
      have := HO.out
      rw [HD.out, HN.out, HL.out.len, List.take_length] at this
      exact this
end Go.Proofs.Ytjmbdoiibchokaa
namespace Go.Proofs.Ytjmbdoiibchokaa
open Go Go.RowKit
set_option maxRecDepth 20000

/-- What Put answers. -/
def putT (L : List UInt8) (n : Nat) (s : Int) : List UInt8 × Int := if canB s = true then if n < 256 ^ s.toNat then (L ++ beB s.toNat n, 0) else ([], 10) else ([], 1)
/-- What Take answers. -/
def takeT (L : List UInt8) (p s : Int) : Nat × Int := if canB s = true ∧ 0 ≤ p then if p + s ≤ L.length then (valB ((L.drop p.toNat).take s.toNat), 0) else (0, 12) else (0, 1)
theorem canB_iff (s : Int) : canB s = true ↔ 1 ≤ s ∧ s ≤ 8 := by unfold canB; simp

/-- A slice of some lists of bytes. -/
theorem wl_lists {ops : Array Oper} {rest : List Oper} {o : Oper} {a : Act} {w : World} {Q : Exit → Act → World → Prop} (hg : o.guard = none) (len : Nat) (parts : Array (Nat × Operand)) (ho : o.op = .buildSlice 76 len parts) (vs : Array Value)
    (hlen : ¬ len > 2 ^ 24) (h0 : len ≠ 0) (hf : Instr.fill (fun i => some (i * 1, 1)) ((Array.range (len * 1)).map ((Value.slice none 0 0).cells[· % (Value.slice none 0 0).cells.size]!)) (parts.map fun (i, x) => (i, a.eval x)).toList = some vs)
    (h : wpList Try.prog ops Q rest (a.put o.dst (.slice (some ⟨w.heap.size, 0, none⟩) len len)) (w.alloc (.cells vs 30))) : wpList Try.prog ops Q (o :: rest) a w := by
  have hq : (Try.prog.info? 30).map (fun i => (i.zero, i.size)) = some (some (.slice none 0 0), 1) := by kernel_rfl
  cases hi : Try.prog.info? 30 with
  | none => rw [hi] at hq; simp at hq
  | some i =>
    rw [hi] at hq
    simp only [Option.map_some, Option.some.injEq, Prod.mk.injEq] at hq
    refine wpList_buildSlice hg 76 30 len parts ho vs i (.slice none 0 0) Try.underlying76 hi hq.1 (by rw [hq.2]; omega) (by rw [hq.2]; omega) (by rw [hq.2]; exact hf) h

theorem shr_nil (n m : Nat) (h : n < 256 ^ m) : ((n : Int) / 2 ^ (m * 8) == 0) = true := by
  have e : (2 : Int) ^ (m * 8) = ((256 ^ m : Nat) : Int) := by
    rw [Nat.mul_comm, Int.pow_mul]
    simp
  rw [e, beq_iff_eq, ← Int.natCast_ediv, Nat.div_eq_of_lt h]
  rfl
theorem shr_not (n m : Nat) (h : ¬ n < 256 ^ m) : ((n : Int) / 2 ^ (m * 8) == 0) = false := by
  have e : (2 : Int) ^ (m * 8) = ((256 ^ m : Nat) : Int) := by
    rw [Nat.mul_comm, Int.pow_mul]
    simp
  rw [e, ← Int.natCast_ediv]
  have h1 : 1 ≤ n / 256 ^ m := (Nat.le_div_iff_mul_le (Nat.pow_pos (by decide))).2 (by omega)
  rw [beq_eq_false_iff_ne]
  omega

set_option maxHeartbeats 2000000 in
theorem put_any (v : Value) (L : List UInt8) (n : Nat) (s : Int) (w : World) (hL : BSl w v L) (hl : L.length ≤ 140737488351232) :
    Calls Try.prog 41 #[v, .int .u64 (n : Int), .int .i64 s] w fun e w' => ∃ u, e = .returned (.tuple #[u, .int .i64 (putT L n s).2]) ∧ BOwn w.heap.size w' u (putT L n s).1 ∧ Below w.heap.size w w' := by
  have C1 : Hid (∀ W, Calls Try.prog 50 #[.int .i64 s] W fun e w' => e = .returned (.bool (canB s)) ∧ w' = W) := canBe_any s
  have HL : Hid (BSl w v L) := hL
  obtain ⟨ov, nv, cv, rfl⟩ : ∃ o n c, v = .slice o n c := by obtain ⟨o, c, h, _⟩ := hL.slice; exact ⟨o, _, c, h⟩
  clear hL
  by_cases hc : canB s = true
  · rw [hc] at C1
    have hs := (canB_iff s).1 hc
    obtain ⟨m, rfl⟩ : ∃ m : Nat, s = m := ⟨s.toNat, by omega⟩
    have hs1 : 1 ≤ (m : Int) := hs.1
    have hs2 : (m : Int) ≤ 8 := hs.2
    by_cases hr : n < 256 ^ m
    · have HP : Hid (putT L n m = (L ++ beB m n, 0)) := by show _ = _; unfold putT; rw [if_pos hc, if_pos (by simpa using hr)]; simp
      have hsh := shr_nil n m hr
      have CD : Hid (∀ W, Calls Try.prog 40 #[.int .u64 (n : Int), .int .i64 (m : Int)] W fun e w' => ∃ v, e = .returned v ∧ BOwn W.heap.size w' v (beB m n) ∧ Below W.heap.size W w') := digits_any n m (by omega)
      have HJ : Hid (∀ (g : Nat) (u : Value) (W : World), W.heap[g]? = some (.cells #[.slice ov nv cv, u] 30 (0, 0)) → BSl W (.slice ov nv cv) L → BSl W u (beB m n) → Calls Try.prog 39 #[.slice (some ⟨g, 0, none⟩) 2 2] W fun e w' => ∃ v, e = .returned v ∧ BOwn W.heap.size w' v (L ++ beB m n) ∧ Below W.heap.size W w') := fun g u W h1 h2 h3 => by
        refine (join_any g [.slice ov nv cv, u] [L, beB m n] W h1 (by simp) ⟨h2, h3, trivial⟩ ?_).mono ?_
        · simp [beB_len]; omega
        · rintro e w' ⟨u, rfl, h4, h5⟩
          exact ⟨u, rfl, by simpa using h4, h5⟩
      clear hc hs hr hl
      go_enter Try.func41, Try.ntmps41
      go_wp2_with (first
        | (go_at_call 50; refine (C1.out _).mono ?_; rintro e w1 ⟨rfl, rfl⟩))
      refine (CD.out _).mono ?_
      rintro e w2 ⟨u, rfl, ho, hb⟩
      have HU : Hid (BSl w2 u (beB m n)) := ho.sl
      obtain ⟨ou, nu, cu, rfl⟩ : ∃ o n c, u = .slice o n c := by obtain ⟨o, c, h, _⟩ := ho.sl.slice; exact ⟨o, _, c, h⟩
      have HV : Hid (BSl w2 (.slice ov nv cv) L) := HL.out.below hb
      have HB : Hid (Below w1.heap.size w1 w2) := hb
      have hsz := hb.size
      clear ho hb
      go_wp2_with (refine wl_lists rfl 2 _ rfl #[.slice ov nv cv, .slice ou nu cu] (by decide) (by decide) rfl ?_)
      refine (HJ.out w2.heap.size (.slice ou nu cu) _ (heap_new _ _ _ rfl) (HV.out.alloc _) (HU.out.alloc _)).mono ?_
      rintro e w3 ⟨x, rfl, ho, hb⟩
      have HO : Hid (BOwn w1.heap.size w3 x (L ++ beB m n)) := ho.base (by simp; omega)
      have HB3 : Hid (Below w1.heap.size w1 w3) := (HB.out.alloc hsz _).trans (hb.mono (by simp; omega))
      clear ho hb
      go_wp2_with fail
      go_ret2
      rw [HP.out]
      exact ⟨x, rfl, HO.out, HB3.out⟩
    · have HP : Hid (putT L n m = ([], 10)) := by show _ = _; unfold putT; rw [if_pos hc, if_neg (by simpa using hr)]
      have hsh := shr_not n m hr
      clear hc hs hr hl
      go_enter Try.func41, Try.ntmps41
      go_wp2_with (first
        | (go_at_call 50; refine (C1.out _).mono ?_; rintro e w1 ⟨rfl, rfl⟩))
      go_ret2
      rw [HP.out]
      exact ⟨_, rfl, BOwn.nil _ _, Below.refl _ _⟩
  · have HP : Hid (putT L n s = ([], 1)) := by show _ = _; unfold putT; rw [if_neg hc]
    have hc' : canB s = false := by simpa using hc
    rw [hc'] at C1
    clear hc hc' hl
    go_enter Try.func41, Try.ntmps41
    go_wp2_with (first
      | (go_at_call 50; refine (C1.out _).mono ?_; rintro e w1 ⟨rfl, rfl⟩))
    go_ret2
    rw [HP.out]
    exact ⟨_, rfl, BOwn.nil _ _, Below.refl _ _⟩
end Go.Proofs.Ytjmbdoiibchokaa
namespace Go.Proofs.Ytjmbdoiibchokaa
open Go Go.RowKit
set_option maxRecDepth 20000

set_option maxHeartbeats 2000000 in
theorem take_any (v : Value) (L : List UInt8) (p s : Int) (w : World) (hL : BSl w v L) (hp : p ≤ 9223372036854775807) :
    Calls Try.prog 45 #[v, .int .i64 p, .int .i64 s] w fun e w' => e = .returned (.tuple #[.int .u64 ((takeT L p s).1 : Int), .int .i64 (takeT L p s).2]) ∧ w' = w := by
  have C1 : Hid (∀ W, Calls Try.prog 50 #[.int .i64 s] W fun e w' => e = .returned (.bool (canB s)) ∧ w' = W) := canBe_any s
  have HL : Hid (BSl w v L) := hL
  obtain ⟨ov, cv, hv, hc1, hc2⟩ := hL.slice
  subst hv
  clear hL
  obtain ⟨n, hn⟩ : ∃ n, n = L.length := ⟨_, rfl⟩
  have HN : Hid (n = L.length) := hn
  rw [← hn] at HL hc1 ⊢
  clear hn
  by_cases hc : canB s = true
  · rw [hc] at C1
    have hs := (canB_iff s).1 hc
    obtain ⟨m, rfl⟩ : ∃ m : Nat, s = m := ⟨s.toNat, by omega⟩
    have hs1 : 1 ≤ (m : Int) := hs.1
    have hs2 : (m : Int) ≤ 8 := hs.2
    by_cases h0 : 0 ≤ p
    · obtain ⟨k, rfl⟩ : ∃ k : Nat, p = k := ⟨p.toNat, by omega⟩
      have CR : Hid (∀ W, Calls Try.prog 51 #[.slice ov n cv, .int .i64 (k : Int), .int .i64 (m : Int)] W fun e w' => e = .returned (.bool (decide ((m : Int) ≤ (n : Int) - k))) ∧ w' = W) := reaches_any ov n cv (by omega) k m h0 hp
      have hcm := hc2
      unfold maxLen at hc2
      by_cases hr : k + m ≤ n
      · have HP : Hid (takeT L k m = (valB ((L.drop k).take m), 0)) := by
          show _ = _; unfold takeT; rw [if_pos ⟨hc, h0⟩, if_pos (by rw [← HN.out]; omega)]; simp
        have hd : decide ((m : Int) ≤ (n : Int) - k) = true := by simp; omega
        rw [hd] at CR
        obtain ⟨g, off, c, rfl, _, _⟩ := HL.out.at k (by omega)
        have CN : Hid (∀ W, W = w → Calls Try.prog 43 #[.slice (some ⟨g, off + k, none⟩) m (cv - k)] W fun e w' => e = .returned (.int .u64 (valB ((L.drop k).take m) : Int)) ∧ w' = W) := fun W hW => by
          subst hW
          exact number_any _ _ W (HL.out.part g off k m (cv - k) rfl hr (by omega) (by omega)) (by simp; omega)
        clear hc hs hd hcm
        go_enter Try.func45, Try.ntmps45
        go_wp2_with (first
          | (go_at_call 50; refine (C1.out _).mono ?_; rintro e w1 ⟨rfl, rfl⟩)
          | (go_at_call 51; refine (CR.out _).mono ?_; rintro e w2 ⟨rfl, rfl⟩))
        refine (CN.out _ rfl).mono ?_
        rintro e w3 ⟨rfl, rfl⟩
        go_wp2_with fail
        go_ret2
        rw [HP.out]
        exact ⟨rfl, rfl⟩
      · have HP : Hid (takeT L k m = (0, 12)) := by
          show _ = _; unfold takeT; rw [if_pos ⟨hc, h0⟩, if_neg (by rw [← HN.out]; omega)]
        have hd : decide ((m : Int) ≤ (n : Int) - k) = false := by simp; omega
        rw [hd] at CR
        clear hc hs hd hcm
        go_enter Try.func45, Try.ntmps45
        go_wp2_with (first
          | (go_at_call 50; refine (C1.out _).mono ?_; rintro e w1 ⟨rfl, rfl⟩)
          | (go_at_call 51; refine (CR.out _).mono ?_; rintro e w2 ⟨rfl, rfl⟩))
        go_ret2
        rw [HP.out]
        exact ⟨rfl, rfl⟩
    · have HP : Hid (takeT L p m = (0, 1)) := by
        show _ = _; unfold takeT; rw [if_neg (fun h => h0 h.2)]
      clear hc hs
      have h0' : p < 0 := by omega
      go_enter Try.func45, Try.ntmps45
      go_wp2_with (first
        | (go_at_call 50; refine (C1.out _).mono ?_; rintro e w1 ⟨rfl, rfl⟩))
      go_ret2
      rw [HP.out]
      exact ⟨rfl, rfl⟩
  · have HP : Hid (takeT L p s = (0, 1)) := by
      show _ = _; unfold takeT; rw [if_neg (fun h => hc h.1)]
    have hc' : canB s = false := by simpa using hc
    rw [hc'] at C1
    clear hc hc'
    go_enter Try.func45, Try.ntmps45
    go_wp2_with (first
      | (go_at_call 50; refine (C1.out _).mono ?_; rintro e w1 ⟨rfl, rfl⟩))
    go_ret2
    rw [HP.out]
    exact ⟨rfl, rfl⟩

theorem digits_kind (k : Nat) (h : k < 256) : beB 1 k = [UInt8.ofNat k] := by
  simp [beB, Nat.mod_eq_of_lt h]
theorem seal_join (k : Nat) (h : k < 256) (L : List UInt8) : [beB 2 L.length, beB 1 k, L].flatten = sealB k L := by
  rw [digits_kind k h]
  simp [sealB]
/-- What Seal answers. -/
def sealT (k : Int) (L : List UInt8) : List UInt8 × Int := if 0 ≤ k ∧ k ≤ 255 then if L.length ≤ 65535 then (sealB k.toNat L, 0) else ([], 5) else ([], 1)
set_option maxHeartbeats 2000000 in
theorem seal_any (k : Int) (v : Value) (L : List UInt8) (w : World) (hL : BSl w v L) :
    Calls Try.prog 24 #[.int .i64 k, v] w fun e w' => ∃ u, e = .returned (.tuple #[u, .int .i64 (sealT k L).2]) ∧ BOwn w.heap.size w' u (sealT k L).1 ∧ Below w.heap.size w w' := by
  have HL : Hid (BSl w v L) := hL
  obtain ⟨ov, cv, hv, hc1, hc2⟩ := hL.slice
  subst hv
  clear hL
  obtain ⟨n, hn⟩ : ∃ n, n = L.length := ⟨_, rfl⟩
  have HN : Hid (n = L.length) := hn
  rw [← hn] at HL hc1 ⊢
  clear hn
  unfold maxLen at hc2
  by_cases h0 : 0 ≤ k
  · by_cases h1 : k ≤ 255
    · obtain ⟨q, rfl⟩ : ∃ q : Nat, k = q := ⟨k.toNat, by omega⟩
      by_cases h2 : n ≤ 65535
      · have HP : Hid (sealT q L = (sealB q L, 0)) := by show _ = _; unfold sealT; rw [if_pos ⟨h0, h1⟩, if_pos (by rw [← HN.out]; exact h2)]; simp
        have CD : Hid (∀ W, Calls Try.prog 40 #[.int .u64 (n : Int), .int .i64 2] W fun e w' => ∃ v, e = .returned v ∧ BOwn W.heap.size w' v (beB 2 n) ∧ Below W.heap.size W w') := digits_any n 2 (by decide)
        have CE : Hid (∀ W, Calls Try.prog 40 #[.int .u64 (q : Int), .int .i64 1] W fun e w' => ∃ v, e = .returned v ∧ BOwn W.heap.size w' v (beB 1 q) ∧ Below W.heap.size W w') := digits_any q 1 (by decide)
        have HJ : Hid (∀ (g : Nat) (u x : Value) (W : World), W.heap[g]? = some (.cells #[u, x, .slice ov n cv] 30 (0, 0)) → BSl W u (beB 2 n) → BSl W x (beB 1 q) → BSl W (.slice ov n cv) L → Calls Try.prog 39 #[.slice (some ⟨g, 0, none⟩) 3 3] W fun e w' => ∃ v, e = .returned v ∧ BOwn W.heap.size w' v (sealB q L) ∧ Below W.heap.size W w') := fun g u x W g1 g2 g3 g4 => by
          refine (join_any g [u, x, .slice ov n cv] [beB 2 n, beB 1 q, L] W g1 (by simp) ⟨g2, g3, g4, trivial⟩ ?_).mono ?_
          · simp [beB_len]; rw [← HN.out]; omega
          · rintro e w' ⟨u, rfl, h4, h5⟩
            rw [HN.out, seal_join q (by omega)] at h4
            exact ⟨u, rfl, h4, h5⟩
        have hn : ¬ (65535 : Int) < (n : Int) := by omega
        go_enter Try.func24, Try.ntmps24
        go_wp2_with fail
        refine (CD.out _).mono ?_
        rintro e w1 ⟨u, rfl, ho1, hb1⟩
        have HU : Hid (BSl w1 u (beB 2 n)) := ho1.sl
        obtain ⟨ou, nu, cu, rfl⟩ : ∃ o n c, u = .slice o n c := by obtain ⟨o, c, h, _⟩ := ho1.sl.slice; exact ⟨o, _, c, h⟩
        have HB1 : Hid (Below w.heap.size w w1) := hb1
        clear ho1 hb1
        go_wp2_with fail
        refine (CE.out _).mono ?_
        rintro e w2 ⟨x, rfl, ho2, hb2⟩
        have HX : Hid (BSl w2 x (beB 1 q)) := ho2.sl
        obtain ⟨ox, nx, cx, rfl⟩ : ∃ o n c, x = .slice o n c := by obtain ⟨o, c, h, _⟩ := ho2.sl.slice; exact ⟨o, _, c, h⟩
        have HU2 : Hid (BSl w2 (.slice ou nu cu) (beB 2 n)) := HU.out.below hb2
        have HB2 : Hid (Below w.heap.size w w2) := HB1.out.trans (hb2.mono HB1.out.size)
        have HL2 : Hid (BSl w2 (.slice ov n cv) L) := HL.out.below HB2.out
        have hsz := HB2.out.size
        clear ho2 hb2
        go_wp2_with (refine wl_lists rfl 3 _ rfl #[.slice ou nu cu, .slice ox nx cx, .slice ov n cv] (by decide) (by decide) rfl ?_)
        refine (HJ.out w2.heap.size _ _ _ (heap_new _ _ _ rfl) (HU2.out.alloc _) (HX.out.alloc _) (HL2.out.alloc _)).mono ?_
        rintro e w3 ⟨y, rfl, ho, hb⟩
        have HO : Hid (BOwn w.heap.size w3 y (sealB q L)) := ho.base (by simp; omega)
        have HB3 : Hid (Below w.heap.size w w3) := (HB2.out.alloc hsz _).trans (hb.mono (by simp; omega))
        clear ho hb
        go_wp2_with fail
        go_ret2
        rw [HP.out]
        exact ⟨y, rfl, HO.out, HB3.out⟩
      · have HP : Hid (sealT q L = ([], 5)) := by show _ = _; unfold sealT; rw [if_pos ⟨h0, h1⟩, if_neg (by rw [← HN.out]; exact h2)]
        have hn : (65535 : Int) < (n : Int) := by omega
        go_enter Try.func24, Try.ntmps24
        go_wp2_with fail
        go_ret2
        rw [HP.out]
        exact ⟨_, rfl, BOwn.nil _ _, Below.refl _ _⟩
    · have HP : Hid (sealT k L = ([], 1)) := by show _ = _; unfold sealT; rw [if_neg (fun h => h1 h.2)]
      have hn : (255 : Int) < k := by omega
      go_enter Try.func24, Try.ntmps24
      go_wp2_with fail
      go_ret2
      rw [HP.out]
      exact ⟨_, rfl, BOwn.nil _ _, Below.refl _ _⟩
  · have HP : Hid (sealT k L = ([], 1)) := by show _ = _; unfold sealT; rw [if_neg (fun h => h0 h.1)]
    have hn : k < 0 := by omega
    go_enter Try.func24, Try.ntmps24
    go_wp2_with fail
    go_ret2
    rw [HP.out]
    exact ⟨_, rfl, BOwn.nil _ _, Below.refl _ _⟩

/-- What Open answers. -/
def openT (L : List UInt8) : Int × List UInt8 × Int := match openB L with
  | some (k, body) => ((k : Int), body, 0)
  | none => (0, [], 12)
theorem openB_form (L : List UInt8) (h : 3 ≤ L.length) : openB L = if valB (L.take 2) = L.length - 3 then some (valB ((L.drop 2).take 1), L.drop 3) else none := by
  match L, h with
  | a :: b :: c :: body, _ =>
    show (if a.toNat * 256 + b.toNat = body.length then some (c.toNat, body) else none) = _
    have e1 : valB ((a :: b :: c :: body).take 2) = a.toNat * 256 + b.toNat := by simp [valB]
    have e2 : valB (((a :: b :: c :: body).drop 2).take 1) = c.toNat := by simp [valB]
    have e3 : (a :: b :: c :: body).length - 3 = body.length := by simp
    rw [e1, e2, e3]
    rfl
theorem openB_short (L : List UInt8) (h : ¬ 3 ≤ L.length) : openB L = none := by
  match L, h with
  | [], _ => rfl
  | [_], _ => rfl
  | [_, _], _ => rfl
  | a :: b :: c :: body, h => exact absurd (by simp) h
end Go.Proofs.Ytjmbdoiibchokaa
namespace Go.Proofs.Ytjmbdoiibchokaa
open Go Go.RowKit
set_option maxRecDepth 20000

/-- An operation that only reckons or reads. -/
def isRead (o : Oper) : Bool :=
  match o.op with
  | .move _ | .load _ _ | .binOp _ _ _ _ _ | .indexAddr _ _ _ | .extract _ _ | .assign _ | .fieldAddr _ _ _ | .slice _ _ _ _ _ | .nilCheck _ => true
  | _ => false

theorem read_value {P : Program} {ρ : Operand → Value} {o : Oper} (h : isRead o = true) (w : World) (nx : Next) (w' : World) (hr : (execOp ρ o).run P w = .ok nx w') : ∃ u, nx = .value u := by
  unfold isRead at h
  unfold execOp at hr
  split at h
  · rename_i x e
    simp only [e, Sem.run_pure, Result.ok.injEq] at hr
    exact ⟨_, hr.1.symm⟩
  · rename_i t x e
    simp only [e, Sem.run_bind, Sem.run_pure] at hr
    revert hr
    generalize (Instr.loadAt t (ρ x)).run P w = r
    intro hr
    cases r with
    | ok a w1 => simp only [Result.andThen_ok, Result.ok.injEq] at hr; exact ⟨_, hr.1.symm⟩
    | halt x w1 => simp [Result.andThen] at hr
  · rename_i op t x y z e
    simp only [e, Sem.run_bind, Sem.run_pure] at hr
    revert hr
    generalize ((eqGuard op t x y (ρ x) (ρ y)).run P w).andThen (fun _ w' => (binOp op t (ρ x) (ρ y)).run P w') = r
    intro hr
    cases r with
    | ok a w1 => simp only [Result.andThen_ok, Result.ok.injEq] at hr; exact ⟨_, hr.1.symm⟩
    | halt x w1 => simp [Result.andThen] at hr
  · rename_i t x y e
    simp only [e, Sem.run_bind, Sem.run_pure] at hr
    revert hr
    generalize (Instr.indexAt t (ρ x) (ρ y)).run P w = r
    intro hr
    cases r with
    | ok a w1 => simp only [Result.andThen_ok, Result.ok.injEq] at hr; exact ⟨_, hr.1.symm⟩
    | halt x w1 => simp [Result.andThen] at hr
  · rename_i x i e
    simp only [e, Sem.run_bind, Sem.run_pure] at hr
    revert hr
    generalize (Instr.extract (ρ x) i).run P w = r
    intro hr
    cases r with
    | ok a w1 => simp only [Result.andThen_ok, Result.ok.injEq] at hr; exact ⟨_, hr.1.symm⟩
    | halt x w1 => simp [Result.andThen] at hr
  · rename_i x e
    simp only [e, Sem.run_pure, Result.ok.injEq] at hr
    exact ⟨_, hr.1.symm⟩
  · rename_i t x i e
    simp only [e, Sem.run_bind, Sem.run_pure] at hr
    revert hr
    generalize (Instr.fieldAt t (ρ x) i).run P w = r
    intro hr
    cases r with
    | ok a w1 => simp only [Result.andThen_ok, Result.ok.injEq] at hr; exact ⟨_, hr.1.symm⟩
    | halt x w1 => simp [Result.andThen] at hr
  · rename_i t x lo hi mx e
    simp only [e, Sem.run_bind, Sem.run_pure] at hr
    revert hr
    generalize (Instr.sliceAt t (ρ x) (lo.map ρ) (hi.map ρ) (mx.map ρ)).run P w = r
    intro hr
    cases r with
    | ok a w1 => simp only [Result.andThen_ok, Result.ok.injEq] at hr; exact ⟨_, hr.1.symm⟩
    | halt x w1 => simp [Result.andThen] at hr
  · rename_i x e
    simp only [e] at hr
    split at hr
    case h_4 =>
      split at hr
      case h_2 =>
        rename_i nm cap0 q t0 w0 _
        simp only [Sem.run_bind] at hr
        revert hr
        generalize (program.run P w : Result Program) = r0
        intro hr
        cases r0 with
        | halt x w1 => simp [Result.andThen] at hr
        | ok a w1 =>
          rw [Result.andThen_ok] at hr
          revert hr
          generalize (nilAhead (a.types.size + Made.depth) t0 w0 _).run P w1 = r1
          intro hr
          cases r1 with
          | halt x w2 => simp [Result.andThen] at hr
          | ok b w2 =>
            rw [Result.andThen_ok] at hr
            split at hr
            · simp [unsupported, go_sem] at hr
            · simp only [Sem.run_pure, Result.ok.injEq] at hr
              exact ⟨_, hr.1.symm⟩
      all_goals first
        | (simp only [Sem.run_pure, Result.ok.injEq] at hr; exact ⟨_, hr.1.symm⟩)
        | (simp [runtimePanic, go_sem] at hr; done)
    all_goals first
      | (simp only [Sem.run_pure, Result.ok.injEq] at hr; exact ⟨_, hr.1.symm⟩)
      | (simp [runtimePanic, go_sem] at hr; done)
  · cases h

theorem yieldsIf_of_in {P : Program} {ops : Array Oper} {S : World → Prop} {o : Oper} {v : Value} {a : Act} (h : isRead o = true) (hy : YieldsIn P ops S o v a) : YieldsIf P ops S o v a := by
  rcases hy with ⟨hw, hv⟩ | hn
  · refine .inl ⟨hw, fun w hS => ?_⟩
    have hq := hv w hS
    unfold Oper.quietAt at hq
    cases hr : (execOp a.eval o).run P w with
    | ok nx w' =>
      obtain ⟨u, rfl⟩ := read_value h w nx w' hr
      rw [hr] at hq
      obtain ⟨rfl, rfl⟩ := hq
      rfl
    | halt x w' => rw [hr] at hq; exact hq.elim
  · exact .inr hn

def headFrom (md : Region.Mode) (ops : Array Oper) : Nat → Nat → Array Bool → Bool
  | 0, _, _ => true
  | f + 1, k, listed => (Region.ready md ops listed).contains k && Region.free md ops listed k && headFrom md ops f (k + 1) (listed.setIfInBounds k true)
def listedFrom : Nat → Nat → Array Bool → Array Bool
  | 0, _, l => l
  | f + 1, k, l => listedFrom f (k + 1) (l.setIfInBounds k true)

theorem reads_held {P : Program} {md : Region.Mode} {ops : Array Oper} {Q : Exit → Act → World → Prop} {S : World → Prop} {g : Nat} (hs : Region.noSelect ops = true) (hQ : ∀ d v c a w, Q (.panic c) (Act.put a d v) w → Q (.panic c) a w) (w : World) (hS : S w) :
    ∀ (l : List Oper) (k : Nat) (listed : Array Bool) (a : Act), (∀ j, j < l.length → l[j]? = ops[k + j]?) → headFrom md ops l.length k listed = true → l.all isRead = true →
      wpQuiet P ops S (fun a' => wpAnyH P md ops Q S g (listedFrom l.length k listed) a' w) l a → wpAnyH P md ops Q S (l.length + g) listed a w
  | [], _, _, _, _, _, _, h => by simpa [wpQuiet, listedFrom] using h
  | o :: l, k, listed, a, hl, hB, hr, h => by
    have h0 : ops[k]? = some o := by simpa using (hl 0 (by simp)).symm
    simp only [List.length_cons, headFrom, Bool.and_eq_true] at hB
    simp only [List.all_cons, Bool.and_eq_true] at hr
    have hst : qOp P ops S k (wpQuiet P ops S (fun a' => wpAnyH P md ops Q S g (listedFrom (o :: l).length k listed) a' w) l) a := by
      unfold qOp; simp only [h0]; exact h
    obtain ⟨v, hy, hK⟩ := yieldsIn_of_qOp h0 hst
    have ih := reads_held hs hQ w hS l (k + 1) (listed.setIfInBounds k true) (a.put o.dst v) (fun j hj => by
      have := hl (j + 1) (by simp; omega)
      simpa [Nat.add_assoc, Nat.add_comm 1 j] using this) hB.2 hr.2 hK
    rw [show (o :: l).length + g = (l.length + g) + 1 by simp; omega]
    exact wpAnyH_take h0 hs hB.1.2 hB.1.1 (fun c a w => hQ o.dst v c a w) (yieldsIf_of_in hr.1 hy) hS ih

/-- A drawn region, from its beginning. -/
theorem region_begin {P : Program} {id : Nat} {Q : Exit → Act → World → Prop} {a : Act} {w : World} {lo : List Oper} (n : Nat) (hn : lo.length = n) (hm : P.follows .mixedOrders = true)
    (h : wpAnyH P .any lo.toArray Q (fun w' => ∃ u : Later w, w' = u.world) n (Array.replicate n false) a w.drew) : (Code.region id lo.toArray true).wp P Q a w := by
  refine wp_region_held (S := fun w' => ∃ u : Later w, w' = u.world) hm ?_
  rw [show lo.toArray.size = n by simpa using hn]
  exact h
/-- The same with a class of worlds of one's own. -/
theorem region_beginS {P : Program} {id : Nat} {Q : Exit → Act → World → Prop} {a : Act} {w : World} {lo : List Oper} (S : World → Prop) (n : Nat) (hn : lo.length = n) (hm : P.follows .mixedOrders = true)
    (h : wpAnyH P .any lo.toArray Q S n (Array.replicate n false) a w.drew) : (Code.region id lo.toArray true).wp P Q a w := by
  refine wp_region_held (S := S) hm ?_
  rw [show lo.toArray.size = n by simpa using hn]
  exact h
/-- n operations, from number k on, that only read, are taken first. -/
theorem region_reads {P : Program} {Q : Exit → Act → World → Prop} {S : World → Prop} {a : Act} {w : World} {lo : List Oper} {listed : Array Bool} (k n g : Nat) (hl : ((lo.drop k).take n).length = n) (hs : Region.noSelect lo.toArray = true)
    (hB : headFrom .any lo.toArray n k listed = true) (hr : ((lo.drop k).take n).all isRead = true) (hQ : ∀ d v c a w, Q (.panic c) (Act.put a d v) w → Q (.panic c) a w) (hS : S w)
    (h : wpQuiet P lo.toArray S (fun a' => wpAnyH P .any lo.toArray Q S g (listedFrom n k listed) a' w) ((lo.drop k).take n) a) : wpAnyH P .any lo.toArray Q S (n + g) listed a w := by
  have := reads_held (P := P) (md := .any) (Q := Q) (g := g) hs hQ w hS ((lo.drop k).take n) k listed a (fun j hj => by
    rw [hl] at hj
    rw [List.getElem?_take_of_lt hj, List.getElem?_drop]
    simp) (by rw [hl]; exact hB) hr (by rw [hl]; exact h)
  rwa [hl] at this
/-- A cut behind a region. -/
theorem region_cut {P : Program} {c : Code} {Q : Exit → Act → World → Prop} {a : Act} {w : World} (F : Act → Act → World → Prop) (h1 : c.wp P (fun e a' w' => e = .normal ∧ F a a' w') a w) (h2 : ∀ a' w', F a a' w' → Q .normal a' w') : c.wp P Q a w :=
  Code.wp_mono (by rintro e a' w' ⟨rfl, h⟩; exact h2 a' w' h) h1

theorem wpOp_wanted {P : Program} {ops : Array Oper} {Q : Exit → Act → World → Prop} {i : Nat} {o : Oper} {K : Act → World → Prop} {a : Act} {w : World} (hi : ops[i]? = some o) (hw : Region.wanted o (yielded ops a.tmps) = true) (h : o.wp P a w K Q) : wpOp P ops Q i K a w := by
  unfold Go.wpOp
  simp only [hi, hw, if_true]
  exact .inl h
theorem wpOp_call {ops : Array Oper} {Q : Exit → Act → World → Prop} {i : Nat} {o : Oper} {K : Act → World → Prop} {a : Act} {w : World} (hi : ops[i]? = some o) (hw : Region.wanted o (yielded ops a.tmps) = true) (f : FuncId) (xs : Array Operand)
    (hf : ∀ (b : Act) (w : World), (execOp b.eval o).run Try.prog w = .ok (.enter f (xs.map b.eval)) w) (vs : Array Value) (hvs : xs.toList.map a.eval = vs.toList)
    (D : Value → World → Prop) (h : Calls Try.prog f vs w fun e w' => ∃ v, e = .returned v ∧ D v w') (d : Option Tmp) (hd : o.dst = d) (hK : ∀ v w', D v w' → K (a.put d v) w') : wpOp Try.prog ops Q i K a w := by
  subst hd
  refine wpOp_wanted hi hw ?_
  unfold Oper.wp
  rw [hf a w, show xs.map a.eval = vs from Array.ext' (by rw [Array.toList_map]; exact hvs)]
  refine h.mono ?_
  rintro e w' ⟨v, rfl, hc⟩
  exact hK v w' hc
theorem wpOp_assign {P : Program} {ops : Array Oper} {Q : Exit → Act → World → Prop} {i : Nat} {o : Oper} {K : Act → World → Prop} {a : Act} {w : World} (hi : ops[i]? = some o) (hw : Region.wanted o (yielded ops a.tmps) = true) (x : Operand) (ho : o.op = .assign x) (v : Value) (hx : a.eval x = v) (d : Option Tmp) (hd : o.dst = d)
    (hK : K (a.put d v) w) : wpOp P ops Q i K a w := by
  subst hd hx
  refine wpOp_wanted hi hw ?_
  unfold Oper.wp execOp
  simp only [ho, Sem.run_pure]
  exact hK
end Go.Proofs.Ytjmbdoiibchokaa
namespace Go.Proofs.Ytjmbdoiibchokaa
open Go Go.RowKit
set_option maxRecDepth 20000

set_option maxHeartbeats 2000000 in
theorem wright_any (V M : List Int) (hV : Byt V) (hM : Byt M) (w : World) :
    Calls Try.prog 36 #[.agg (cv V M)] w fun e w' => e = .returned (.bool (V == can V M)) ∧ Below w.heap.size w w' := by
  have hVl := hV.1
  have hMl := hM.1
  have hCl := (can_byt V M).1
  have C1 : Hid (∀ W, Calls Try.prog 47 #[.agg (cv V M)] W fun e w' => e = .returned (.agg (cv (can V M) M)) ∧ Below W.heap.size W w') := canon_any V M hV hM
  have eC : ∀ w, (Op.equalIn 10000 25 (.agg (cv V M)) (.agg (cv (can V M) M))).run Try.prog w = .ok (V == can V M) w := fun w => by rw [eqC V M (can V M) M hVl hMl hCl hMl]; simp
  have eg : ∀ op x y (xs ys : Array Value) w, (eqGuard op 25 x y (.agg xs) (.agg ys)).run Try.prog w = .ok () w := egC
  clear hV hM
  go_enter Try.func36, Try.ntmps36
  go_wp2_with fail
  have g0 := heap_new w (.cells (cv V M) 25) _ rfl
  have hb := (Below.refl w.heap.size w).alloc (Nat.le_refl _) (.cells (cv V M) 25)
  obtain ⟨W, hW⟩ : ∃ W, W = w.alloc (.cells (cv V M) 25) := ⟨_, rfl⟩
  rw [← hW] at g0 hb ⊢
  clear hW
  have ne1 := Later.ne W
  refine wp_region_later (by kernel_rfl) (by kernel_rfl) ?_
  refine qlC rfl _ rfl w.heap.size rfl V M g0 hVl hMl ?_
  simp only [Act.put, List.setIfInBounds_toArray, List.set_cons_succ, List.set_cons_zero]
  refine qlC rfl _ rfl w.heap.size rfl V M g0 hVl hMl ?_
  simp only [Act.put, List.setIfInBounds_toArray, List.set_cons_succ, List.set_cons_zero]
  go_big_quiet_want; go_big_quiet_op
  refine ⟨_, fun u => Calls.later_of (C1.out u.world), ?_⟩
  go_big_quiet_on
  repeat go_big_quiet_step (fail)
  refine wpQuiet_nil ?_
  rintro w' ⟨u, rfl⟩
  go_wp2
  go_ret
  exact ⟨rfl, hb.trans (u.below.mono hb.size)⟩
end Go.Proofs.Ytjmbdoiibchokaa
namespace Go.Proofs.Ytjmbdoiibchokaa
open Go Go.RowKit
set_option maxRecDepth 20000

/-- A bit of a cube: 0, 1, or 2, if it is free. -/
def atI (V M : List Int) (i : Nat) : Int := if bt M i then (if bt V i then 1 else 0) else 2
theorem at_ne2 (V M : List Int) (i : Nat) : (atI V M i != 2) = bt M i := by
  unfold atI; cases bt M i <;> cases bt V i <;> rfl
theorem at_eq1 (V M : List Int) (i : Nat) : (atI V M i == 1) = (bt V i && bt M i) := by
  unfold atI; cases bt M i <;> cases bt V i <;> rfl
set_option maxHeartbeats 1000000 in
theorem at_any (V M : List Int) (hV : Byt V) (hM : Byt M) (i : Nat) (hi : i < 104) (w : World) :
    Calls Try.prog 38 #[.agg (cv V M), .int .i64 (i : Int)] w fun e w' => e = .returned (.int .i64 (atI V M i)) ∧ Below w.heap.size w w' := by
  have hVl := hV.1
  have hMl := hM.1
  have CM : Hid (∀ W, Calls Try.prog 49 #[.agg (hv M), .int .i64 (i : Int)] W fun e w' => e = .returned (.bool (bt M i)) ∧ Below W.heap.size W w') := rbit_nat M hM i hi
  have CV : Hid (∀ W, Calls Try.prog 49 #[.agg (hv V), .int .i64 (i : Int)] W fun e w' => e = .returned (.bool (bt V i)) ∧ Below W.heap.size W w') := rbit_nat V hV i hi
  clear hV hM
  unfold atI
  obtain ⟨bm, hbm⟩ : ∃ b, b = bt M i := ⟨_, rfl⟩
  obtain ⟨bv, hbv⟩ : ∃ b, b = bt V i := ⟨_, rfl⟩
  rw [← hbm] at CM ⊢
  rw [← hbv] at CV ⊢
  clear hbm hbv
  go_enter Try.func38, Try.ntmps38
  go_wp2_with (first
    | (refine wl_loadM rfl _ rfl w.heap.size rfl V M (heap_new _ _ _ rfl) hVl hMl ?_))
  refine (CM.out _).mono ?_
  rintro e w1 ⟨rfl, hb1⟩
  have g0 : w1.heap[w.heap.size]? = some (.cells (cv V M) 25 (0, 0)) := by rw [hb1.block _ (by simp)]; exact heap_new _ _ _ rfl
  have B1 : Below w.heap.size w w1 := ((Below.refl _ _).alloc (Nat.le_refl _) _).trans (hb1.mono (by simp))
  clear hb1 CM
  cases bm
  · go_wp2_with fail
    go_ret
    exact ⟨rfl, B1⟩
  · go_wp2_with (first
      | (refine wl_loadV rfl _ rfl w.heap.size rfl V M g0 hVl ?_))
    refine (CV.out _).mono ?_
    rintro e w2 ⟨rfl, hb2⟩
    have B2 := B1.trans (hb2.mono B1.size)
    clear hb2 CV
    cases bv
    · go_wp2_with fail
      go_ret
      exact ⟨rfl, B2⟩
    · go_wp2_with fail
      go_ret
      exact ⟨rfl, B2⟩

set_option maxHeartbeats 1000000 in
theorem rset_any (V M : List Int) (hV : Byt V) (hM : Byt M) (i : Nat) (hi : i < 104) (v : Int) (w : World) :
    Calls Try.prog 37 #[.agg (cv V M), .int .i64 (i : Int), .int .i64 v] w fun e w' => e = .returned (.agg (cv (setb V i (v == 1)) (setb M i (v != 2)))) ∧ Below w.heap.size w w' := by
  have hVl := hV.1
  have hMl := hM.1
  have hFl : (setb M i (v != 2)).length = 13 := (setb_byt M i _).1
  have hGl : (setb V i (v == 1)).length = 13 := (setb_byt V i _).1
  have C1 : Hid (∀ W, Calls Try.prog 48 #[.agg (hv M), .int .i64 (i : Int), .bool (v != 2)] W fun e w' => e = .returned (.agg (hv (setb M i (v != 2)))) ∧ Below W.heap.size W w') := rput_nat M hM i hi _
  have C2 : Hid (∀ W, Calls Try.prog 48 #[.agg (hv V), .int .i64 (i : Int), .bool (v == 1)] W fun e w' => e = .returned (.agg (hv (setb V i (v == 1)))) ∧ Below W.heap.size W w') := rput_nat V hV i hi _
  clear hV hM
  obtain ⟨N, hN⟩ : ∃ N, N = setb M i (v != 2) := ⟨_, rfl⟩
  obtain ⟨U, hU⟩ : ∃ U, U = setb V i (v == 1) := ⟨_, rfl⟩
  rw [← hN] at C1 hFl ⊢
  rw [← hU] at C2 hGl ⊢
  clear hN hU
  go_enter Try.func37, Try.ntmps37
  have g0 : ((w.alloc (.cells (cv V M) 25)).alloc (.cells zeroC 25)).heap[w.heap.size]? = some (.cells (cv V M) 25 (0, 0)) := heap_past _ _ _ _ (heap_new _ _ _ rfl)
  have g1 : ((w.alloc (.cells (cv V M) 25)).alloc (.cells zeroC 25)).heap[w.heap.size + 1]? = some (.cells zeroC 25 (0, 0)) := heap_new _ _ _ (by simp)
  have hb : Below w.heap.size w ((w.alloc (.cells (cv V M) 25)).alloc (.cells zeroC 25)) := ((Below.refl _ _).alloc (Nat.le_refl _) _).alloc (by simp) _
  go_wp2_with (first
    | (refine wl_loadM rfl _ rfl w.heap.size rfl V M g0 hVl hMl ?_))
  refine (C1.out _).mono ?_
  rintro e w2 ⟨rfl, hb2⟩
  have m0 : w2.heap[w.heap.size]? = some (.cells (cv V M) 25 (0, 0)) := by rw [hb2.block _ (by simp; omega)]; exact g0
  have m1 : w2.heap[w.heap.size + 1]? = some (.cells zeroC 25 (0, 0)) := by rw [hb2.block _ (by simp)]; exact g1
  have hz2 : w.heap.size + 2 ≤ w2.heap.size := Nat.le_trans (by simp) hb2.size
  have hB2 := hb.trans (hb2.mono hb.size)
  clear g0 g1 hb hb2 C1
  have n0 : (w2.setRow w.heap.size (cv V N)).heap[w.heap.size]? = some (.cells (cv V N) 25 (0, 0)) := setRow_heap _ _ _ _ _ _ m0
  have n1 : (w2.setRow w.heap.size (cv V N)).heap[w.heap.size + 1]? = some (.cells zeroC 25 (0, 0)) := (setRow_other _ _ _ _ (by omega)).trans m1
  go_wp2_with (first
    | (refine wl_storeM rfl _ _ rfl w.heap.size rfl V M N rfl hVl hMl hFl m0 _ rfl ?_)
    | (refine wl_loadV rfl _ rfl w.heap.size rfl V N n0 hVl ?_))
  refine (C2.out _).mono ?_
  rintro e w3 ⟨rfl, hb3⟩
  have p0 : w3.heap[w.heap.size]? = some (.cells (cv V N) 25 (0, 0)) := by rw [hb3.block _ (by simp; omega)]; exact n0
  have p1 : w3.heap[w.heap.size + 1]? = some (.cells zeroC 25 (0, 0)) := by rw [hb3.block _ (by simp; omega)]; exact n1
  have hB3 := (below_setRow hB2 (Nat.le_refl _) (cv V N)).trans (hb3.mono (by simpa using hB2.size))
  clear m0 m1 n0 n1 hB2 hb3 hz2 C2
  have q0 : (w3.setRow w.heap.size (cv U N)).heap[w.heap.size]? = some (.cells (cv U N) 25 (0, 0)) := setRow_heap _ _ _ _ _ _ p0
  have q1 : (w3.setRow w.heap.size (cv U N)).heap[w.heap.size + 1]? = some (.cells zeroC 25 (0, 0)) := (setRow_other _ _ _ _ (by omega)).trans p1
  go_wp2_with (first
    | (refine wl_storeV rfl _ _ rfl w.heap.size rfl V N U rfl hVl hFl hGl p0 _ rfl ?_)
    | (refine wl_loadC rfl _ rfl w.heap.size rfl U N q0 hGl hFl ?_)
    | (refine wl_storeC rfl _ _ rfl (w.heap.size + 1) U N rfl rfl _ q1 rfl hGl hFl _ rfl ?_))
  refine retC (p := 6) rfl rfl (w.heap.size + 1) rfl _ _ hGl hFl (setRow_heap _ _ _ _ _ _ q1) ⟨rfl, ?_⟩
  exact below_setRow (below_setRow hB3 (Nat.le_refl _) _) (by omega) _

/-- The bits ahead of a place, all others nought. -/
def upto (k : Nat) (f : Nat → Bool) : List Int := mk fun j => decide (j < k) && f j
theorem upto_byt (k : Nat) (f : Nat → Bool) : Byt (upto k f) := mk_byt _
theorem upto_zero (f : Nat → Bool) : upto 0 f = Z := mk_ext _ _ fun i _ => by simp
theorem upto_all (f : Nat → Bool) : upto 104 f = mk f := mk_ext _ _ fun i hi => by simp [hi]
theorem upto_succ (k : Nat) (f : Nat → Bool) : setb (upto k f) k (f k) = upto (k + 1) f :=
  mk_ext _ _ fun i hi => by
    by_cases e : i = k
    · subst e; simp
    · rw [if_neg e]
      unfold upto
      rw [mk_bt _ i hi]
      congr 1
      rw [decide_eq_decide]
      omega
end Go.Proofs.Ytjmbdoiibchokaa
