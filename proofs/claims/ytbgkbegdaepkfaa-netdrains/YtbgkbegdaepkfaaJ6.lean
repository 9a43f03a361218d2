import Derived.Test.YtbgkbegdaepkfaaJ4
import Derived.BigRegion
import Derived.Test.YtbgkbegdaepkfaaJ5
import Derived.Test.YtbgkbegdaepkfaaJ3
namespace Go.Proofs.Ytbgkbegdaepkfaa
open Go Go.RowKit
set_option maxRecDepth 20000

/-- What is known of the oldest one behind a link. -/
theorem old_none (a : Option LetM) : oldT (elder a none) = oldT a := by cases a <;> rfl
theorem old_new {a : Option LetM} {y : LetM} (h : (oldT a).2.2 = 0 ∨ (y.no : Int) < (oldT a).2.2) (hp : ∀ x, a = some x → 1 ≤ x.no) : oldT (elder a (some y)) = (y.src, y.dst, (y.no : Int)) := by
  cases a with
  | none => rfl
  | some x =>
    have h1 := hp x rfl
    have h2 : y.no < x.no := by
      rcases h with h | h
      · have : (x.no : Int) = 0 := h; omega
      · have : (y.no : Int) < (x.no : Int) := h; omega
    show oldT (if y.no < x.no then some y else some x) = _
    rw [if_pos h2]; rfl
theorem old_stay {a : Option LetM} {y : LetM} (h : (oldT a).2.2 ≠ 0) (h' : ¬ (y.no : Int) < (oldT a).2.2) : oldT (elder a (some y)) = oldT a := by
  cases a with
  | none => exact absurd rfl h
  | some x =>
    have h2 : ¬ y.no < x.no := by
      have : ¬ (y.no : Int) < (x.no : Int) := h'
      omega
    show oldT (if y.no < x.no then some y else some x) = _
    rw [if_neg h2]
theorem link_on {n : NetM} {k : Nat} {x : LetM} (h : x ∈ linkK n k) : x.src = ((k / 7 : Nat) : Int) ∧ x.dst = ((k % 7 : Nat) : Int) := by
  have := (List.mem_filter.1 h).2
  unfold onL at this
  simpa using this
/-- The links from one address. -/
def rowA (vs : List Value) (F : Nat) : Array Value := ((vs.drop (F * 7)).take 7).toArray
def RowG : Ag := ⟨50, 7⟩
theorem RowGOk : RowG.Ok := ⟨⟨_, Try.underlying50, rfl⟩, by kernel_rfl⟩
theorem rowA_size {vs : List Value} (h : vs.length = 49) {F : Nat} (hF : F < 7) : (rowA vs F).size = 7 := by
  unfold rowA
  rw [List.size_toArray, List.length_take, List.length_drop]
  omega
theorem rowA_at {vs : List Value} {F T : Nat} (hT : T < 7) : (rowA vs F)[T]? = vs[F * 7 + T]? := by
  unfold rowA
  rw [List.getElem?_toArray, List.getElem?_take_of_lt hT, List.getElem?_drop]
theorem net_row {n : NetM} {vs : List Value} {F : Nat} : ∀ j, j < 7 → (netV n vs)[3 + F * 7 + j]? = (rowA vs F)[j]? := fun j hj => by
  rw [rowA_at hj]
  unfold netV
  rw [List.getElem?_toArray, show 3 + F * 7 + j = F * 7 + j + 1 + 1 + 1 by omega, List.getElem?_cons_succ, List.getElem?_cons_succ, List.getElem?_cons_succ]
theorem index_row {vs : List Value} {F T : Nat} (hT : T < 7) {v : Value} (h : vs[F * 7 + T]? = some v) (W : World) : (Instr.index 50 (.agg (rowA vs F)) (.int .i64 (T : Int))).run Try.prog W = .ok v W := by
  have z49 : (sizeOf 49).run Try.prog W = .ok 1 W := by kernel_rfl
  have a49 : (isAgg 49).run Try.prog W = .ok false W := by kernel_rfl
  have u50 := run_underlying (P := Try.prog) Try.underlying50 W
  simp [Instr.index, u50, z49, hT, rowA_at hT, h, go_sem]
set_option maxHeartbeats 16000000 in
theorem oldest_any (B : Nat) (w : World) (g : Nat) (n : NetM) (vs : List Value) (h : NetV B w g n vs) (hn : NetIn n) :
    Calls Try.prog 11 #[.pointer (some ⟨g, 0, none⟩)] w fun e w' => e = .returned (.tuple #[.int .i64 (oldN n).1, .int .i64 (oldN n).2.1, .bool (oldN n).2.2]) ∧ Below w.heap.size w w' := by
  have HB : Hid (∀ W, Below w.heap.size w W → W.heap[g]? = some (.cells (netV n vs) 53 (0, 0))) := fun W hb => (h.below hb).blk
  have HV : Hid (NetV B w g n vs) := h
  have HI : Hid (NetIn n) := hn
  have HL : Hid (∀ F T : Nat, F < 7 → T < 7 → ∃ (o : Option Addr) (q cap : Nat), q = (linkK n (F * 7 + T)).length ∧ (q ≤ cap ∧ cap ≤ 9223372036854775807) ∧ (∀ W, (Instr.index 50 (.agg (rowA vs F)) (.int .i64 (T : Int))).run Try.prog W = .ok (.slice o q cap) W) ∧ GSl LetE letV w (.slice o q cap) (linkK n (F * 7 + T))) := fun F T hF hT => by
    obtain ⟨v, hv, ho⟩ := h.at (F * 7 + T) (by omega)
    obtain ⟨o, cap, rfl, h1, h2⟩ := ho.slice
    exact ⟨o, _, cap, rfl, ⟨h1, h2⟩, fun W => index_row hT hv W, ho.sl⟩
  have HH : Hid (∀ k, (lowN n.row (k + 1)).head? = elder (lowN n.row k).head? (linkK n k).head?) := fun k => low_headK hn k
  have H0 : Hid ((lowN n.row 0).head? = none) := by show _ = _; rw [low_zero (in7 hn)]; rfl
  have HE : Hid (oldN n = ((oldT (lowN n.row 49).head?).1, (oldT (lowN n.row 49).head?).2.1, decide (0 < (oldT (lowN n.row 49).head?).2.2))) := by show _ = _; rw [low_all (in7 hn)]; exact old_end hn
  have HP : Hid (∀ k x, (lowN n.row k).head? = some x → 1 ≤ x.no) := fun k x hx => hn.pos x (List.mem_filter.1 (List.mem_of_mem_head? hx)).1
  have hlen : Hid (vs.length = 49) := h.len
  clear h hn
  go_enter Try.func11, Try.ntmps11
  go_wp2_with fail
  go_loopw [5, 6, 7, 13] (fun s5 s6 s7 s13 wr => ∃ F : Nat, F ≤ 7 ∧ s13 = .int .i64 (F : Int) ∧ s5 = .int .i64 (oldT (lowN n.row (F * 7)).head?).1 ∧ s6 = .int .i64 (oldT (lowN n.row (F * 7)).head?).2.1 ∧ s7 = .int .i64 (oldT (lowN n.row (F * 7)).head?).2.2 ∧ Hid (Below w.heap.size w wr)) (fun _ _ _ s13 _ => 7 - (intOf s13).toNat)
  case atStart => exact ⟨0, by omega, rfl, by rw [Nat.zero_mul, H0.out]; rfl, by rw [Nat.zero_mul, H0.out]; rfl, by rw [Nat.zero_mul, H0.out]; rfl, Below.refl _ _⟩
  case round =>
    obtain ⟨F, hF, rfl, rfl, rfl, rfl, HW⟩ := hrel
    by_cases hlt : F < 7
    · have hlt' : (F : Int) < 7 := by omega
      have hz : Hid ((rowA vs F).size = 7) := rowA_size hlen.out hlt
      have hbk : Hid (wr.heap[g]? = some (.cells (netV n vs) 53 (0, 0))) := HB.out wr HW.out
      go_wp2_with (refine wl_loadA (E := RowG) RowGOk rfl _ rfl g (3 + F * 7) rfl (netV n vs) _ (0, 0) (rowA vs F) hz.out hbk.out net_row ?_)
      go_loopw [5, 6, 7, 22] (fun s5 s6 s7 s22 wr' => ∃ T : Nat, T ≤ 7 ∧ s22 = .int .i64 (T : Int) ∧ s5 = .int .i64 (oldT (lowN n.row (F * 7 + T)).head?).1 ∧ s6 = .int .i64 (oldT (lowN n.row (F * 7 + T)).head?).2.1 ∧ s7 = .int .i64 (oldT (lowN n.row (F * 7 + T)).head?).2.2 ∧ Hid (Below w.heap.size w wr')) (fun _ _ _ s22 _ => 7 - (intOf s22).toNat)
      case atStart => exact ⟨0, by omega, rfl, rfl, rfl, rfl, HW⟩
      case round =>
        obtain ⟨T, hT, rfl, rfl, rfl, rfl, HW2⟩ := hrel
        by_cases hlt2 : T < 7
        · have hlt2' : (T : Int) < 7 := by omega
          obtain ⟨o, q, cap, hq, ⟨hq1, hq2⟩, hix, hgs⟩ := HL.out F T hlt hlt2
          have ho1 : Hid ((lowN n.row (F * 7 + (T + 1))).head? = elder (lowN n.row (F * 7 + T)).head? (linkK n (F * 7 + T)).head?) := HH.out (F * 7 + T)
          have hp1 : Hid (∀ x, (lowN n.row (F * 7 + T)).head? = some x → 1 ≤ x.no) := HP.out (F * 7 + T)
          obtain ⟨a, ha⟩ : ∃ a, a = (lowN n.row (F * 7 + T)).head? := ⟨_, rfl⟩
          rw [← ha] at ho1 hp1 ⊢
          obtain ⟨x1, hx1⟩ : ∃ x, x = (oldT a).1 := ⟨_, rfl⟩
          obtain ⟨x2, hx2⟩ : ∃ x, x = (oldT a).2.1 := ⟨_, rfl⟩
          obtain ⟨x3, hx3⟩ : ∃ x, x = (oldT a).2.2 := ⟨_, rfl⟩
          have HX : Hid (x1 = (oldT a).1 ∧ x2 = (oldT a).2.1 ∧ x3 = (oldT a).2.2) := ⟨hx1, hx2, hx3⟩
          rw [← hx1, ← hx2, ← hx3]
          clear ha hx1 hx2 hx3
          by_cases hq0 : q = 0
          · have hnil : Hid (linkK n (F * 7 + T) = []) := List.eq_nil_of_length_eq_zero (hq.symm.trans hq0)
            subst hq0
            clear hq hgs
            go_wp2_with fail
            go_roundw
            case rel => exact ⟨T + 1, by omega, by go_num, by rw [ho1.out, hnil.out, List.head?_nil, old_none, HX.out.1], by rw [ho1.out, hnil.out, List.head?_nil, old_none, HX.out.2.1], by rw [ho1.out, hnil.out, List.head?_nil, old_none, HX.out.2.2], HW2⟩
            case measure => simp [intOf]; omega
          · have hqp : (0 : Int) < (q : Int) := by omega
            obtain ⟨g', off, cur, ty, fr, y, rfl, hg, hcc, hy0⟩ := (GSl.below hgs HW2.out).at 0 (by omega)
            have hh : Hid ((linkK n (F * 7 + T)).head? = some y) := by show _ = _; rw [List.head?_eq_getElem?]; exact hy0
            have hon : Hid (y.src = (F : Int) ∧ y.dst = (T : Int)) := by
              have h1 := link_on (List.mem_of_mem_head? hh.out)
              rw [show (F * 7 + T) / 7 = F by omega, show (F * 7 + T) % 7 = T by omega] at h1
              exact h1
            have cy : wr.cell? ⟨g', off, none⟩ = some (.int .i64 (y.no : Int)) := by
              rw [cell_of_row _ _ _ _ _ _ hg]
              exact hcc 0 (by decide)
            obtain ⟨m, hm⟩ : ∃ m : Int, m = (y.no : Int) := ⟨_, rfl⟩
            have HM : Hid (m = (y.no : Int)) := hm
            rw [← hm] at cy
            clear hm hg hcc hy0 hgs hq
            by_cases hx0 : x3 = 0
            · have HN : Hid (oldT (elder a (some y)) = (y.src, y.dst, (y.no : Int))) := old_new (.inl (by rw [← HX.out.2.2]; exact hx0)) hp1.out
              subst hx0
              go_wp2_with fail
              go_region
              go_wp2_with fail
              go_roundw
              case rel => exact ⟨T + 1, by omega, by go_num, by rw [ho1.out, hh.out, HN.out, hon.out.1], by rw [ho1.out, hh.out, HN.out, hon.out.2], by rw [ho1.out, hh.out, HN.out, HM.out], HW2.out.drew⟩
              case measure => simp [intOf]; omega
            · by_cases hlt3 : m < x3
              · have HN : Hid (oldT (elder a (some y)) = (y.src, y.dst, (y.no : Int))) := old_new (.inr (by rw [← HX.out.2.2, ← HM.out]; exact hlt3)) hp1.out
                have hd0 : (x3 == 0) = false := by simpa using hx0
                go_wp2_with fail
                go_region
                go_wp2_with fail
                go_roundw
                case rel => exact ⟨T + 1, by omega, by go_num, by rw [ho1.out, hh.out, HN.out, hon.out.1], by rw [ho1.out, hh.out, HN.out, hon.out.2], by rw [ho1.out, hh.out, HN.out, HM.out], HW2.out.drew⟩
                case measure => simp [intOf]; omega
              · have HN : Hid (oldT (elder a (some y)) = oldT a) := old_stay (by rw [← HX.out.2.2]; exact hx0) (by rw [← HX.out.2.2, ← HM.out]; exact hlt3)
                have hd0 : (x3 == 0) = false := by simpa using hx0
                have hd1 : decide (m < x3) = false := decide_eq_false hlt3
                go_wp2_with fail
                go_roundw
                case rel => exact ⟨T + 1, by omega, by go_num, by rw [ho1.out, hh.out, HN.out, HX.out.1], by rw [ho1.out, hh.out, HN.out, HX.out.2.1], by rw [ho1.out, hh.out, HN.out, HX.out.2.2], HW2⟩
                case measure => simp [intOf]; omega
        · obtain rfl : T = 7 := by omega
          go_wp2_with fail
          go_roundw
          case rel => exact ⟨F + 1, by omega, by go_num, by rw [show (F + 1) * 7 = F * 7 + 7 by omega], by rw [show (F + 1) * 7 = F * 7 + 7 by omega], by rw [show (F + 1) * 7 = F * 7 + 7 by omega], HW2⟩
          case measure => simp [intOf]; omega
    · obtain rfl : F = 7 := by omega
      go_wp2_with fail
      go_ret3
      exact ⟨by rw [HE.out]; rfl, HW.out⟩
end Go.Proofs.Ytbgkbegdaepkfaa
namespace Go.Proofs.Ytbgkbegdaepkfaa
open Go Go.RowKit
set_option maxRecDepth 20000

theorem NetTo.belowN {B : Nat} {w w' : World} {g : Nat} {n n' : NetM} {vs : List Value} (h : NetV B w g n vs) (ht : NetTo B w w' g n' vs) : ∃ us, NetV B w' g n' us ∧ Below B w w' := by
  obtain ⟨us, h1, h2, _⟩ := ht
  exact ⟨us, h1, h2.below (fun k e => (h.foot_in k e).1) h.hw⟩
def aw0 : NetM := ⟨1, 1, [], 0⟩
def aw1 : NetM := ⟨1, 1, [⟨0, 1, [97], 1⟩], 1⟩
def aw2 : NetM := ⟨1, 1, [⟨0, 1, [97], 1⟩, ⟨1, 0, [98], 2⟩], 2⟩
theorem aw_s1 : sendN aw0 0 1 [97] = (aw1, 0) := by rfl
theorem aw_s2 : sendN aw1 0 1 [98] = (aw1, 13) := by rfl
theorem aw_s3 : sendN aw1 1 0 [98] = (aw2, 0) := by rfl
theorem aw_i0 : NetIn aw0 := new_in (nodes := 1) (room := 1) rfl
theorem aw_i1 : NetIn aw1 := by have := send_in aw_i0 0 1 (s := [97]) (by decide); rw [aw_s1] at this; exact this
theorem aw_i2 : NetIn aw2 := by have := send_in aw_i1 1 0 (s := [98]) (by decide); rw [aw_s3] at this; exact this
set_option maxHeartbeats 8000000 in
theorem awake17_any (w : World) : Calls Try.prog 7 #[] w fun e w' => e = .returned (.bool true) ∧ Below w.heap.size w w' := by
  have HN := newN_yes 1 1 (by decide) w
  have S1 : Hid (∀ W g vs, NetV w.heap.size W g aw0 vs → Calls Try.prog 16 #[.pointer (some ⟨g, 0, none⟩), .int .i64 0, .int .i64 1, .string ⟨#[97]⟩] W fun e w' => e = .returned (.int .i64 0) ∧ NetTo w.heap.size W w' g aw1 vs) := fun W g vs h => by
    have := send_any w.heap.size W g aw0 vs h aw_i0 0 1 ⟨#[97]⟩ (by decide) (by decide)
    rw [show (⟨#[97]⟩ : ByteArray).data.toList = [97] from rfl, aw_s1] at this
    exact this
  have S2 : Hid (∀ W g vs, NetV w.heap.size W g aw1 vs → Calls Try.prog 16 #[.pointer (some ⟨g, 0, none⟩), .int .i64 0, .int .i64 1, .string ⟨#[98]⟩] W fun e w' => e = .returned (.int .i64 13) ∧ NetTo w.heap.size W w' g aw1 vs) := fun W g vs h => by
    have := send_any w.heap.size W g aw1 vs h aw_i1 0 1 ⟨#[98]⟩ (by decide) (by decide)
    rw [show (⟨#[98]⟩ : ByteArray).data.toList = [98] from rfl, aw_s2] at this
    exact this
  have S3 : Hid (∀ W g vs, NetV w.heap.size W g aw1 vs → Calls Try.prog 16 #[.pointer (some ⟨g, 0, none⟩), .int .i64 1, .int .i64 0, .string ⟨#[98]⟩] W fun e w' => e = .returned (.int .i64 0) ∧ NetTo w.heap.size W w' g aw2 vs) := fun W g vs h => by
    have := send_any w.heap.size W g aw1 vs h aw_i1 1 0 ⟨#[98]⟩ (by decide) (by decide)
    rw [show (⟨#[98]⟩ : ByteArray).data.toList = [98] from rfl, aw_s3] at this
    exact this
  have S4 : Hid (∀ W g vs, NetV w.heap.size W g aw2 vs → Calls Try.prog 11 #[.pointer (some ⟨g, 0, none⟩)] W fun e w' => e = .returned (.tuple #[.int .i64 0, .int .i64 1, .bool true]) ∧ Below W.heap.size W w') := fun W g vs h => oldest_any w.heap.size W g aw2 vs h aw_i2
  go_enter Try.func7, Try.ntmps7
  go_wp2_with (go_at_call 8; refine HN.mono ?_; rintro e w1 ⟨g, vs1, rfl, hV1, hb1⟩; refine of_stopT ?_)
  unfold StopT
  have hV1 : NetV w.heap.size w1 g aw0 vs1 := hV1
  have c1 := S1.out w1 g vs1 hV1
  have HV1 : Hid (NetV w.heap.size w1 g aw0 vs1) := hV1
  have HB1 : Hid (Below w.heap.size w w1) := hb1
  clear hV1 hb1 HN
  go_wp2_with (go_at_call 16; refine c1.mono ?_; rintro e w2 ⟨rfl, ht⟩; refine of_stopT ?_)
  unfold StopT
  obtain ⟨vs2, hV2, hb2⟩ := NetTo.belowN HV1.out ht
  have c2 := S2.out w2 g vs2 hV2
  have HV2 : Hid (NetV w.heap.size w2 g aw1 vs2) := hV2
  have HB2 : Hid (Below w.heap.size w w2) := HB1.out.trans hb2
  clear hV2 hb2 ht c1
  go_wp2_with (go_at_call 16; refine c2.mono ?_; rintro e w3 ⟨rfl, ht⟩; refine of_stopT ?_)
  unfold StopT
  obtain ⟨vs3, hV3, hb3⟩ := NetTo.belowN HV2.out ht
  have c3 := S3.out w3 g vs3 hV3
  have HV3 : Hid (NetV w.heap.size w3 g aw1 vs3) := hV3
  have HB3 : Hid (Below w.heap.size w w3) := HB2.out.trans hb3
  clear hV3 hb3 ht c2
  go_wp2_with (go_at_call 16; refine c3.mono ?_; rintro e w4 ⟨rfl, ht⟩; refine of_stopT ?_)
  unfold StopT
  obtain ⟨vs4, hV4, hb4⟩ := NetTo.belowN HV3.out ht
  have c4 := S4.out w4 g vs4 hV4
  have HB4 : Hid (Below w.heap.size w w4) := HB3.out.trans hb4
  clear hV4 hb4 ht c3
  go_wp2_with (go_at_call 11; refine c4.mono ?_; rintro e w5 ⟨rfl, hb5⟩; refine of_stopT ?_)
  unfold StopT
  have HB5 : Hid (Below w.heap.size w w5) := below_step HB4.out HB4.out.size hb5
  clear hb5 c4
  go_wp2_with fail
  go_ret
  exact ⟨rfl, HB5.out⟩
end Go.Proofs.Ytbgkbegdaepkfaa
namespace Go.Proofs.Ytbgkbegdaepkfaa
open Go Go.RowKit
set_option maxRecDepth 20000

set_option maxHeartbeats 8000000 in
theorem total_any (B : Nat) (w : World) (g : Nat) (n : NetM) (vs : List Value) (h : NetV B w g n vs) (hn : NetIn n) :
    Calls Try.prog 13 #[.pointer (some ⟨g, 0, none⟩)] w fun e w' => e = .returned (.int .i64 (n.row.length : Int)) ∧ w' = w := by
  have HK : Hid (∀ F T : Nat, F < 7 → T < 7 → ∃ o cap, w.cell? ⟨g, 3 + F * 7 + T, none⟩ = some (.slice o (linkK n (F * 7 + T)).length cap)) := fun F T hF hT => by
    obtain ⟨v, hv, ho⟩ := h.at (F * 7 + T) (by omega)
    obtain ⟨o, cap, rfl, _, _⟩ := ho.slice
    have := h.f.ck _ _ hv
    rw [show 3 + (F * 7 + T) = 3 + F * 7 + T by omega] at this
    exact ⟨o, cap, this⟩
  have HS : Hid (∀ k, (lowN n.row (k + 1)).length = (lowN n.row k).length + (linkK n k).length) := fun k => low_lenK hn k
  have HM : Hid (∀ k, (lowN n.row k).length ≤ 25088) := fun k => Nat.le_trans (low_le _ _) (row_few hn)
  have HE : Hid ((lowN n.row 49).length = n.row.length) := by show _ = _; rw [low_all (in7 hn)]
  have H0 : Hid ((lowN n.row 0).length = 0) := by show _ = _; rw [low_zero (in7 hn)]; rfl
  clear h hn
  go_enter Try.func13, Try.ntmps13
  go_wp2_with fail
  go_loopw [3, 8] (fun s3 s8 wr => ∃ F : Nat, F ≤ 7 ∧ s8 = .int .i64 (F : Int) ∧ s3 = .int .i64 ((lowN n.row (F * 7)).length : Int) ∧ wr = w) (fun _ s8 _ => 7 - (intOf s8).toNat)
  case atStart => exact ⟨0, by omega, rfl, by rw [Nat.zero_mul, H0.out]; rfl, rfl⟩
  case round =>
    obtain ⟨F, hF, rfl, rfl, rfl⟩ := hrel
    by_cases hlt : F < 7
    · have hlt' : (F : Int) < 7 := by omega
      go_wp2_with fail
      go_loopw [3, 11] (fun s3 s11 wr' => ∃ T : Nat, T ≤ 7 ∧ s11 = .int .i64 (T : Int) ∧ s3 = .int .i64 ((lowN n.row (F * 7 + T)).length : Int) ∧ wr' = wr) (fun _ s11 _ => 7 - (intOf s11).toNat)
      case atStart => exact ⟨0, by omega, rfl, rfl, rfl⟩
      case round =>
        obtain ⟨T, hT, rfl, rfl, rfl⟩ := hrel
        by_cases hlt2 : T < 7
        · have hlt2' : (T : Int) < 7 := by omega
          obtain ⟨o, cap, hc⟩ := HK.out F T hlt hlt2
          have hs := HS.out (F * 7 + T)
          have hm := HM.out (F * 7 + T + 1)
          obtain ⟨a, ha⟩ : ∃ a, a = (lowN n.row (F * 7 + T)).length := ⟨_, rfl⟩
          obtain ⟨b, hb⟩ : ∃ b, b = (linkK n (F * 7 + T)).length := ⟨_, rfl⟩
          obtain ⟨c, hc3⟩ : ∃ c, c = (lowN n.row (F * 7 + (T + 1))).length := ⟨_, rfl⟩
          have hs' : Hid (c = (lowN n.row (F * 7 + (T + 1))).length) := hc3
          rw [show F * 7 + T + 1 = F * 7 + (T + 1) by omega, ← ha, ← hb, ← hc3] at hs
          rw [show F * 7 + T + 1 = F * 7 + (T + 1) by omega, ← hc3] at hm
          rw [← hb] at hc
          rw [← ha]
          clear ha hb hc3
          go_wp2_with fail
          go_roundw
          case rel => exact ⟨T + 1, by omega, by go_num, by rw [← hs'.out]; congr 1; omega, by trivial⟩
          case measure => simp [intOf]; omega
        · obtain rfl : T = 7 := by omega
          go_wp2_with fail
          go_roundw
          case rel => exact ⟨F + 1, by omega, by go_num, by rw [show (F + 1) * 7 = F * 7 + 7 by omega], by trivial⟩
          case measure => simp [intOf]; omega
    · obtain rfl : F = 7 := by omega
      go_wp2_with fail
      go_ret
      exact ⟨by rw [HE.out]; rfl, rfl⟩
end Go.Proofs.Ytbgkbegdaepkfaa
namespace Go.Proofs.Ytbgkbegdaepkfaa
open Go Go.RowKit
set_option maxRecDepth 20000

theorem NetV.base {B B' : Nat} {w : World} {g : Nat} {n : NetM} {vs : List Value} (h : NetV B w g n vs) (hB : B' ≤ B) : NetV B' w g n vs := ⟨h.blk, h.len, fun k v e => gown_base (h.own k v e) hB, h.apart, Nat.le_trans hB h.hB⟩
theorem RNetV.base {B B' : Nat} {w : World} {r : Nat} {n : NetM} {v : Value} (h : RNetV B w r n v) (hB : B' ≤ B) : RNetV B' w r n v := ⟨h.blk, gown_base h.own hB, Nat.le_trans hB h.hB⟩
theorem two_new {B : Nat} {w1 w2 : World} {g r : Nat} {n : NetM} {vs : List Value} {v : Value} (h1 : NetV B w1 g n vs) (h2 : RNetV w1.heap.size w2 r n v) (hb : Below w1.heap.size w1 w2) (hB : B ≤ w1.heap.size) : TwM B w2 g r n n vs v :=
  ⟨h1.below hb, h2.base hB, fun k e e' => by have := (h1.foot_in k e).2; have := (h2.foot_in k e').1; omega⟩
theorem TwTo.belowW {B : Nat} {w w' : World} {g r : Nat} {n m n' m' : NetM} {vs : List Value} {v : Value} (h : TwM B w g r n m vs v) (ht : TwTo B w w' g r n' m' vs v) : ∃ us u, TwM B w' g r n' m' us u ∧ Below B w w' := by
  obtain ⟨us, u, h1, h2⟩ := ht
  exact ⟨us, u, h1, h2.kept.below (fun k e => (h.foot k e).1) h.o.hw⟩
set_option maxHeartbeats 16000000 in
theorem lawNPlays_any (w : World) (nodes room : Int) (v : Value) (A : List ActN) (hA : GSl ActNE actN w v A) (hok : ∀ x ∈ A, OkActN x) :
    Calls Try.prog 3 #[.int .i64 nodes, .int .i64 room, v] w fun e w' => e = .returned (.bool true) ∧ Below w.heap.size w w' := by
  have HW := awake17_any w
  by_cases hp : 0 ≤ nodes ∧ nodes ≤ 6 ∧ 1 ≤ room ∧ room ≤ 512
  · have N1 : Hid (∀ W, Calls Try.prog 8 #[.int .i64 nodes, .int .i64 room] W fun e w' => ∃ g vs, e = .returned (.tuple #[.pointer (some ⟨g, 0, none⟩), .int .i64 0]) ∧ NetV W.heap.size w' g ⟨nodes, room, [], 0⟩ vs ∧ Below W.heap.size W w') := fun W => newN_yes nodes room hp W
    have N2 : Hid (∀ W, Calls Try.prog 9 #[.int .i64 nodes, .int .i64 room] W fun e w' => ∃ r v, e = .returned (.tuple #[.pointer (some ⟨r, 0, none⟩), .int .i64 0]) ∧ RNetV W.heap.size w' r ⟨nodes, room, [], 0⟩ v ∧ Below W.heap.size W w') := fun W => rnewN_yes nodes room hp W
    have I0 : Hid (NetIn ⟨nodes, room, [], 0⟩) := new_in (nodes := nodes) (room := room) (by unfold newN; rw [if_pos hp])
    obtain ⟨o, cap, hv, hc1, hc2⟩ := hA.slice
    have HA : Hid (GSl ActNE actN w v A) := hA
    have HK : Hid (∀ x ∈ A, OkActN x) := hok
    obtain ⟨q, hq⟩ : ∃ q, q = A.length := ⟨_, rfl⟩
    have HQ : Hid (q = A.length) := hq
    rw [← hq] at hv
    unfold maxLen at hc2
    have hq2 : q ≤ 9223372036854775807 := by omega
    clear hp hA hok hq hc1 hc2
    subst hv
    go_enter Try.func3, Try.ntmps3
    go_wp2_with (first
      | (go_at_call 7; refine HW.mono ?_; rintro e w1 ⟨rfl, hb1⟩)
      | (go_at_call 8; refine (N1.out _).mono ?_; rintro e w2 ⟨g, vs0, rfl, hV2, hb2⟩)
      | (go_at_call 9; refine (N2.out _).mono ?_; rintro e w3 ⟨r, v0, rfl, hV3, hb3⟩; refine of_stopT ?_))
    unfold StopT
    have B2 : Below w.heap.size w w2 := below_step hb1 hb1.size hb2
    have HT3 : Hid (TwM w.heap.size w3 g r ⟨nodes, room, [], 0⟩ ⟨nodes, room, [], 0⟩ vs0 v0) := two_new (hV2.base hb1.size) hV3 hb3 B2.size
    have HB3 : Hid (Below w.heap.size w w3) := below_step B2 B2.size hb3
    clear hV2 hV3 hb1 hb2 hb3 B2 HW N1 N2
    go_wp2_with fail
    go_loopw [11] (fun s11 wr => ∃ (k : Nat) (vs : List Value) (v : Value) (n : NetM), k ≤ q ∧ s11 = .int .i64 (k : Int) ∧ Hid (TwM w.heap.size wr g r n n vs v) ∧ Hid (NetIn n) ∧ k ≤ 80 ∧ n.last ≤ k ∧ Below w.heap.size w wr) (fun s11 _ => q - (intOf s11).toNat)
    case atStart => exact ⟨0, vs0, v0, _, Nat.zero_le _, rfl, HT3, I0, Nat.zero_le _, Nat.le_refl _, HB3.out⟩
    case round =>
      obtain ⟨k, vs, v, n, hk, rfl, HT, HI, h80, hlast, hb⟩ := hrel
      have HB : Hid (Below w.heap.size w wr) := hb
      clear hb
      by_cases hlt : k < q
      · have hlt' : (k : Int) < (q : Int) := by omega
        by_cases hl80 : k < 80
        · have hl80' : (k : Int) < 80 := by omega
          obtain ⟨g', off, cur, ty, fr, x, rfl, hg, hcc, hxk⟩ := (GSl.below HA.out HB.out).at k hlt
          have KG : Hid (wr.heap[g']? = some (.cells cur ty fr)) := hg
          have H1 : Hid (∀ a, a < 5 → cur[off + k * 5 + a]? = (actN x)[a]?) := hcc
          have HX : Hid (OkActN x) := HK.out x (List.mem_of_getElem? hxk)
          have GL : Hid (g' < w.heap.size) := by
            obtain ⟨g1, off1, cur1, ty1, fr1, x1, e1, hg1, _, _⟩ := HA.out.at k hlt
            have := Option.some.inj e1
            rw [show g' = g1 from congrArg Addr.block this]
            exact (Array.getElem?_eq_some_iff.1 hg1).1
          have hpl := plays_any w.heap.size wr g r n vs v HT.out HI.out (by omega) x HX.out
          have I1 : Hid (NetIn (stepN n x)) := step_in HI.out HX.out
          have L1 : Hid ((stepN n x).last ≤ k + 1) := Nat.le_trans (step_last n x) (by omega)
          obtain ⟨n1, hn1⟩ : ∃ n1, n1 = stepN n x := ⟨_, rfl⟩
          rw [← hn1] at hpl I1 L1
          clear hg hcc hxk hlast hn1
          go_wp2_with (first
            | (refine wl_loadE (E := ActNE) ActNOk rfl _ rfl g' (off + k * 5) rfl cur ty fr (actN x) rfl KG.out H1.out ?_)
            | (go_at_call 10; refine hpl.mono ?_; rintro e w4 ⟨rfl, hto⟩; refine of_stopT ?_))
          unfold StopT
          obtain ⟨vs4, v4, hT4, hb4⟩ := TwTo.belowW HT.out hto
          have T4 : Hid (TwM w.heap.size w4 g r n1 n1 vs4 v4) := hT4
          have B4 : Hid (Below w.heap.size w w4) := HB.out.trans hb4
          have G4 : Hid (w4.heap[g']? = some (.cells cur ty fr)) := (hb4.block g' GL.out).trans KG.out
          have hold := oldest_any w.heap.size w4 g n1 vs4 hT4.o I1.out
          have hrold : Hid (∀ W, Below w4.heap.size w4 W → Calls Try.prog 12 #[.pointer (some ⟨r, 0, none⟩)] W fun e w' => e = .returned (.tuple #[.int .i64 (oldN n1).1, .int .i64 (oldN n1).2.1, .bool (oldN n1).2.2]) ∧ Below W.heap.size W w') := fun W hb => roldest_any w.heap.size W r n1 v4 (T4.out.below hb).f (Nat.le_trans (row_few I1.out) (by decide))
          obtain ⟨o1, ho1⟩ : ∃ o1, o1 = (oldN n1).1 := ⟨_, rfl⟩
          obtain ⟨o2, ho2⟩ : ∃ o2, o2 = (oldN n1).2.1 := ⟨_, rfl⟩
          obtain ⟨o3, ho3⟩ : ∃ o3, o3 = (oldN n1).2.2 := ⟨_, rfl⟩
          rw [← ho1, ← ho2, ← ho3] at hold hrold
          clear ho1 ho2 ho3 hto hT4 hb4 hpl HT KG
          go_wp2_with (first
            | (go_at_call 11; refine hold.mono ?_; rintro e w5 ⟨rfl, hb5⟩)
            | (go_at_call 12; refine (hrold.out _ hb5).mono ?_; rintro e w6 ⟨rfl, hb6⟩; refine of_stopT ?_))
          unfold StopT
          have B56 : Below w4.heap.size w4 w6 := below_step hb5 hb5.size hb6
          have T6 : Hid (TwM w.heap.size w6 g r n1 n1 vs4 v4) := T4.out.below B56
          have B6 : Hid (Below w.heap.size w w6) := below_step B4.out B4.out.size B56
          have G6 : Hid (w6.heap[g']? = some (.cells cur ty fr)) := (B56.block g' (Array.getElem?_eq_some_iff.1 G4.out).1).trans G4.out
          have HTot : Hid (∀ m, Calls Try.prog 13 #[.pointer (some ⟨g, 0, none⟩)] (w6.drewN m) fun e w' => e = .returned (.int .i64 (n1.row.length : Int)) ∧ w' = w6.drewN m) := fun m => total_any w.heap.size _ g n1 vs4 (T6.out.o.below (below_drewN (Below.refl _ _) _)) I1.out
          have HCn : Hid (∀ m, Calls Try.prog 14 #[.pointer (some ⟨g, 0, none⟩), .int .i64 x.src, .int .i64 x.dst] (w6.drewN m) fun e w' => e = .returned (.int .i64 (countL n1 x.src x.dst : Int)) ∧ w' = w6.drewN m) := fun m => by
            have := count_any w.heap.size _ g n1 vs4 (T6.out.o.below (below_drewN (Below.refl _ _) m)) I1.out x.src x.dst
            rw [count_both I1.out] at this
            exact this
          have HRc : Hid (∀ m, Calls Try.prog 15 #[.pointer (some ⟨r, 0, none⟩), .int .i64 x.src, .int .i64 x.dst] (w6.drewN m) fun e w' => e = .returned (.int .i64 (countL n1 x.src x.dst : Int)) ∧ w' = w6.drewN m) := fun m => rcount_any w.heap.size _ r n1 v4 (T6.out.f.below (below_drewN (Below.refl _ _) _)) (Nat.le_trans (row_few I1.out) (by decide)) x.src x.dst
          have k1 : ∀ m, (w6.drewN m).cell? ⟨g', off + k * 5 + 1, none⟩ = some (.int .i64 x.src) := fun m => (actfn_of (w := w6.drewN m) (off := off + k * 5) G6.out H1.out).c1
          have k2 : ∀ m, (w6.drewN m).cell? ⟨g', off + k * 5 + 2, none⟩ = some (.int .i64 x.dst) := fun m => (actfn_of (w := w6.drewN m) (off := off + k * 5) G6.out H1.out).c2
          obtain ⟨or6, cap6, hv6, _, _⟩ := T6.out.f.own.slice
          have k3 : ∀ m, (w6.drewN m).cell? ⟨r, 2, none⟩ = some v4 := fun m => (T6.out.f.below (w' := w6.drewN m) (below_drewN (Below.refl _ _) _)).f.c2
          rw [hv6] at k3
          obtain ⟨qr, hqr⟩ : ∃ qr, qr = n1.row.length := ⟨_, rfl⟩
          obtain ⟨cn, hcn⟩ : ∃ cn, cn = countL n1 x.src x.dst := ⟨_, rfl⟩
          obtain ⟨xs, hxs⟩ : ∃ xs, xs = x.src := ⟨_, rfl⟩
          obtain ⟨xd, hxd⟩ : ∃ xd, xd = x.dst := ⟨_, rfl⟩
          rw [← hqr] at HTot k3
          rw [← hcn, ← hxs, ← hxd] at HCn HRc
          rw [← hxs] at k1
          rw [← hxd] at k2
          clear hqr hcn hxs hxd hv6 hb5 hb6 B56 hold hrold T4 B4 G4
          go_wp2_with fail
          go_quiet (first
            | (go_at_call 13; exact Calls.quiet_of_same (HTot.out _))
            | (go_at_call 14; exact Calls.quiet_of_same (HCn.out _))
            | (go_at_call 15; exact Calls.quiet_of_same (HRc.out _)))
          have B7 : Hid (Below w.heap.size w (w6.drewN nq)) := below_drewN B6.out _
          have T7 : Hid (TwM w.heap.size (w6.drewN nq) g r n1 n1 vs4 v4) := T6.out.below (below_drewN (Below.refl _ _) _)
          go_wp2_with fail
          go_roundw
          case rel => exact ⟨k + 1, vs4, v4, n1, by omega, by go_num, T7, I1, by omega, L1.out, B7.out⟩
          case measure => simp [intOf]; omega
        · have hl80' : ¬ (k : Int) < 80 := by omega
          go_wp2_with fail
          go_ret
          exact ⟨rfl, HB.out⟩
      · have hlt' : ¬ (k : Int) < (q : Int) := by omega
        go_wp2_with fail
        go_ret
        exact ⟨rfl, HB.out⟩
  · have N1 : Hid (∀ W, Calls Try.prog 8 #[.int .i64 nodes, .int .i64 room] W fun e w' => e = .returned (.tuple #[.pointer none, .int .i64 1]) ∧ w' = W) := fun W => newN_no nodes room hp W
    have N2 : Hid (∀ W, Calls Try.prog 9 #[.int .i64 nodes, .int .i64 room] W fun e w' => e = .returned (.tuple #[.pointer none, .int .i64 1]) ∧ w' = W) := fun W => rnewN_no nodes room hp W
    clear hp hA hok
    go_enter Try.func3, Try.ntmps3
    go_wp2_with (first
      | (go_at_call 7; refine HW.mono ?_; rintro e w1 ⟨rfl, hb1⟩)
      | (go_at_call 8; refine (N1.out _).mono ?_; rintro e w2 ⟨rfl, h2⟩; subst h2)
      | (go_at_call 9; refine (N2.out _).mono ?_; rintro e w3 ⟨rfl, h3⟩; subst h3))
    go_ret
    exact ⟨rfl, hb1⟩
end Go.Proofs.Ytbgkbegdaepkfaa
