import Derived.Test.YtfbphblodankmaaWMem
import Derived.Laws.Bits64b
namespace Go.Proofs.Ytfbphblodankmaa
open Go Go.RowKit
set_option maxRecDepth 20000

def canB (n : Int) : Bool := decide (1 ≤ n) && decide (n ≤ 8)
set_option maxHeartbeats 2000000 in
theorem canBe_any (n : Int) (w : World) :
    Calls Try.prog 25 #[.int .i64 n] w fun e w' => e = .returned (.bool (canB n)) ∧ w' = w := by
  by_cases h1 : 1 ≤ n
  · by_cases h2 : n ≤ 8
    · have HC : Hid (canB n = true) := by show _ = _; unfold canB; simp [h1, h2]
      go_enter Try.func25, Try.ntmps25
      go_wp2_with fail
      go_ret
      rw [HC.out]
      exact ⟨rfl, rfl⟩
    · have HC : Hid (canB n = false) := by show _ = _; unfold canB; simp [h2]
      go_enter Try.func25, Try.ntmps25
      go_wp2_with fail
      go_ret
      rw [HC.out]
      exact ⟨rfl, rfl⟩
  · have HC : Hid (canB n = false) := by show _ = _; unfold canB; simp [h1]
    go_enter Try.func25, Try.ntmps25
    go_wp2_with fail
    go_ret
    rw [HC.out]
    exact ⟨rfl, rfl⟩

set_option maxHeartbeats 2000000 in
theorem reaches_any (o : Option Addr) (n cap : Nat) (hn : n ≤ maxLen) (p q : Int) (hp : 0 ≤ p) (hp2 : p ≤ 9223372036854775807) (w : World) :
    Calls Try.prog 28 #[.slice o n cap, .int .i64 p, .int .i64 q] w fun e w' => e = .returned (.bool (decide (q ≤ (n : Int) - p))) ∧ w' = w := by
  unfold maxLen at hn
  go_enter Try.func28, Try.ntmps28
  go_wp2_with fail
  go_ret
  exact ⟨rfl, rfl⟩

theorem valB_take (L : List UInt8) (k : Nat) (c : UInt8) (h : L[k]? = some c) : valB (L.take (k + 1)) = valB (L.take k) * 256 + c.toNat := by
  have hk := (List.getElem?_eq_some_iff.1 h).1
  rw [List.take_succ_eq_append_getElem hk, valB_snoc, (List.getElem?_eq_some_iff.1 h).2]
theorem valB_take_lt (L : List UInt8) (k : Nat) (hk : k ≤ L.length) : valB (L.take k) < 256 ^ k := by
  have := valB_lt (L.take k)
  rwa [List.length_take, Nat.min_eq_left hk] at this
theorem valB_take7 (L : List UInt8) (k : Nat) (hk : k < L.length) (h8 : L.length ≤ 8) : valB (L.take k) < 72057594037927936 :=
  Nat.lt_of_lt_of_le (valB_take_lt L k (by omega)) (Nat.le_trans (Nat.pow_le_pow_right (by decide) (show k ≤ 7 by omega)) (by decide))
theorem or_byte (n x : Nat) (hx : x < 256) : n * 256 ||| x = n * 256 + x := by
  have := Nat.shiftLeft_add_eq_or_of_lt (show x < 2 ^ 8 from hx) n
  rw [Nat.shiftLeft_eq] at this
  exact this.symm

theorem or_u64 (n x : Nat) (hn : n < 72057594037927936) (hx : x < 256) : bits .or .u64 ((n : Int) * 256) (x : Int) = ((n * 256 + x : Nat) : Int) := by
  have e : ((n : Int) * 256) = ((n * 256 : Nat) : Int) := by omega
  have hb : n * 256 + x < 18446744073709551616 := by omega
  rw [e, bits_or_u64_nat _ _ (by omega) (by omega), or_byte n x hx]

set_option maxHeartbeats 2000000 in
theorem number_any (v : Value) (L : List UInt8) (w : World) (hL : BSl w v L) (h8 : L.length ≤ 8) :
    Calls Try.prog 29 #[v] w fun e w' => e = .returned (.int .u64 (valB L : Int)) ∧ w' = w := by
  have hL' := hL
  obtain ⟨o, cap, rfl, h1, h2⟩ := hL'.slice
  have HL : Hid (BSl w (.slice o L.length cap) L) := hL
  obtain ⟨n, hn⟩ : ∃ n, n = L.length := ⟨_, rfl⟩
  have HN : Hid (n = L.length) := hn
  rw [← hn] at HL h1 h8 ⊢
  clear hn hL hL'
  go_enter Try.func29, Try.ntmps29
  go_wp2_with fail
  go_loop [3, 8] (fun a i => ∃ k : Nat, k ≤ n ∧ i = .int .i64 k ∧ a = .int .u64 (valB (L.take k) : Int)) (fun _ i => n - (intOf i).toNat)
  case atStart => exact ⟨0, Nat.zero_le _, rfl, rfl⟩
  case round =>
    obtain ⟨k, hk, rfl, rfl⟩ := hrel
    by_cases hlt : k < n
    · obtain ⟨g, off, c, rfl, hc, hck⟩ := HL.out.at k hlt
      have HV : Hid (valB (L.take (k + 1)) = valB (L.take k) * 256 + c.toNat) := valB_take L k c hck
      have hv := valB_take7 L k (by rw [← HN.out]; omega) (by rw [← HN.out]; omega)
      obtain ⟨x, hx⟩ : ∃ x, x = valB (L.take k) := ⟨_, rfl⟩
      rw [← hx] at HV hv ⊢
      have hcl := c.toNat_lt
      clear hx hck
      go_wp2_with fail
      refine ⟨⟨k + 1, by omega, by go_num, ?_⟩, by simp [intOf]; omega⟩
      rw [HV.out, or_u64 x c.toNat hv hcl]
    · go_wp2_with fail
      go_ret
      obtain rfl : k = n := by omega
      rw [HN.out, List.take_length]
      exact ⟨rfl, rfl⟩

theorem beB_at (s n k : Nat) (hk : k < s) : (beB s n)[k]? = some (UInt8.ofNat (n / 256 ^ (s - 1 - k) % 256)) := by
  induction s generalizing k with
  | zero => omega
  | succ s ih =>
    rw [beB_ahead]
    cases k with
    | zero => simp
    | succ k => rw [List.getElem?_cons_succ, ih k (by omega), show s + 1 - 1 - (k + 1) = s - 1 - k by omega]
/-- So many bytes as are laid already, and noughts. -/
def digP (s n k : Nat) : List UInt8 := (beB s n).take k ++ List.replicate (s - k) 0
theorem digP_len (s n k : Nat) (h : k ≤ s) : (digP s n k).length = s := by unfold digP; rw [List.length_append, List.length_take, beB_len, List.length_replicate]; omega
theorem digP_zero (s n : Nat) : digP s n 0 = List.replicate s 0 := by unfold digP; simp
theorem digP_all (s n : Nat) : digP s n s = beB s n := by unfold digP; rw [List.take_of_length_le (by rw [beB_len]; exact Nat.le_refl _)]; simp
theorem digP_succ (s n k : Nat) (h : k < s) : digP s n (k + 1) = (digP s n k).set k (UInt8.ofNat (n / 256 ^ (s - 1 - k) % 256)) := by
  unfold digP
  have hl : ((beB s n).take k).length = k := by rw [List.length_take, beB_len]; omega
  rw [List.set_append_right _ _ (by omega), hl, Nat.sub_self, List.take_add_one, beB_at s n k h]
  obtain ⟨m, hm⟩ : ∃ m, s - k = m + 1 := ⟨s - k - 1, by omega⟩
  rw [hm, show s - (k + 1) = m by omega]
  simp [List.replicate_succ]
theorem BOwn.set {B : Nat} {w : World} {g n cap : Nat} {L : List UInt8} (h : BOwn B w (.slice (some ⟨g, 0, none⟩) n cap) L) (k : Nat) (b : UInt8) : BOwn B (w.setCell ⟨g, k, none⟩ (.int .u8 (b.toNat : Int))) (.slice (some ⟨g, 0, none⟩) n cap) (L.set k b) := by
  have hn := h.sl.len
  subst hn
  have := (World.ownsRow.stored h k (.int .u8 (b.toNat : Int))).1
  unfold BOwn
  rw [List.length_set]
  have e : Lib.byteCells (L.set k b) = (Lib.byteCells L).set k (.int .u8 (b.toNat : Int)) := by unfold Lib.byteCells; rw [List.map_set]
  rw [e]
  exact this
theorem dig_byte (n m : Nat) : (n : Int) / 2 ^ (m * 8) % 256 = ((UInt8.ofNat (n / 256 ^ m % 256)).toNat : Int) := by
  rw [UInt8.toNat_ofNat', Nat.mod_mod]
  have e : (2 : Int) ^ (m * 8) = ((256 ^ m : Nat) : Int) := by
    rw [Nat.mul_comm, Int.pow_mul]
    simp
  rw [e]
  simp
/-- Bytes that are made: noughts. -/
theorem wl_makeW {ops : Array Oper} {rest : List Oper} {o : Oper} {a : Act} {w : World} {Q : Exit → Act → World → Prop} (hgd : o.guard = none) (x y : Operand) (ho : o.op = .makeSlice 22 x y)
    (n : Nat) (hx : a.eval x = .int .i64 (n : Int)) (hy : a.eval y = .int .i64 (n : Int)) (hn : n ≤ 1000)
    (h : ∀ w', BOwn w.heap.size w' (.slice (some ⟨w.heap.size, 0, none⟩) n n) (List.replicate n 0) → Below w.heap.size w w' → wpList Try.prog ops Q rest (a.put o.dst (.slice (some ⟨w.heap.size, 0, none⟩) n n)) w') : wpList Try.prog ops Q (o :: rest) a w := by
  obtain ⟨i, hi, hz, h1, h2⟩ := infoB
  refine wpList_plain hgd fun K hK => ?_
  obtain ⟨w', hr, hown, hgr⟩ := run_make_full (P := Try.prog) w w.heap.size 22 5 i (.int .u8 0) 1 Try.underlying22 hi hz h1 .i64 .i64 n (by rw [h2]; omega) (by unfold maxLen; omega) (Nat.le_refl _)
  unfold Oper.wp execOp
  simp only [ho, hx, hy, hr, Sem.run_bind, Sem.run_pure, Result.andThen_ok]
  refine hK _ _ (h w' ?_ ((Below.refl _ _).grown hgr (Nat.le_refl _) fun k hk => by cases hk))
  unfold BOwn
  rw [List.length_replicate]
  have e : Lib.byteCells (List.replicate n 0) = (madeCells (Value.int .u8 0).cells (n * 1)).toList := by
    show _ = (madeCells #[.int .u8 0] (n * 1)).toList
    rw [toList_madeCells_one, Nat.mul_one]
    unfold Lib.byteCells
    simp
  rw [e]
  exact hown
set_option maxHeartbeats 2000000 in
theorem digits_any (n s : Nat) (hs : s ≤ 8) (w : World) :
    Calls Try.prog 27 #[.int .u64 (n : Int), .int .i64 (s : Int)] w fun e w' => ∃ v, e = .returned v ∧ BOwn w.heap.size w' v (beB s n) ∧ Below w.heap.size w w' := by
  go_enter Try.func27, Try.ntmps27
  go_wp2_with (refine wl_makeW rfl _ _ rfl s rfl rfl (by omega) ?_; intro w1 ho hb)
  have HO : Hid (BOwn w.heap.size w1 (.slice (some ⟨w.heap.size, 0, none⟩) s s) (digP s n 0)) := by rw [digP_zero]; exact ho
  have HB : Hid (Below w.heap.size w w1) := hb
  clear ho hb
  go_wp2_with fail
  go_loopw [11] (fun i W => ∃ k : Nat, k ≤ s ∧ i = .int .i64 k ∧ BOwn w.heap.size W (.slice (some ⟨w.heap.size, 0, none⟩) s s) (digP s n k) ∧ Below w.heap.size w W) (fun i _ => s - (intOf i).toNat)
  case atStart => exact ⟨0, Nat.zero_le _, rfl, HO.out, HB.out⟩
  case round =>
    obtain ⟨k, hk, rfl, ho, hb⟩ := hrel
    have HO1 : Hid (BOwn w.heap.size wr (.slice (some ⟨w.heap.size, 0, none⟩) s s) (digP s n k)) := ho
    have HB1 : Hid (Below w.heap.size w wr) := hb
    by_cases hlt : k < s
    · obtain ⟨_, _, c, e, hc, _⟩ := ho.sl.at k hlt
      simp only [Option.some.injEq, Addr.mk.injEq, and_true] at e
      obtain ⟨rfl, rfl⟩ := e
      have hf : wr.frozen? ⟨w.heap.size, k, none⟩ = false := World.ownsRow.frozenAt (n := s) (by have := HO1.out; unfold BOwn at this; rw [digP_len s n k hk] at this; exact this) k
      rw [Nat.zero_add] at hc
      clear ho hb
      have HD : Hid ((n : Int) / 2 ^ ((s - 1 - k) * 8) % 256 = ((UInt8.ofNat (n / 256 ^ (s - 1 - k) % 256)).toNat : Int)) := dig_byte n (s - 1 - k)
      go_wp2_with fail
      refine ⟨⟨k + 1, by omega, by go_num, ?_, HB1.out.setCell (by simp) _⟩, by simp [intOf]; omega⟩
      rw [HD.out, digP_succ s n k hlt]
      exact HO1.out.set k _
    · obtain rfl : k = s := by omega
      clear ho hb
      go_wp2_with fail
      go_ret
      refine ⟨_, rfl, ?_, HB1.out⟩
      have := HO1.out
      rw [digP_all] at this
      exact this
end Go.Proofs.Ytfbphblodankmaa
