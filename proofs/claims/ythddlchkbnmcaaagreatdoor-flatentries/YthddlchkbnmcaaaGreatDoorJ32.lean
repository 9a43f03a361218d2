import Derived.Test.YthddlchkbnmcaaaGreatDoorJ5
import Derived.Test.YthddlchkbnmcaaaGreatDoorJ27
import Derived.Test.YthddlchkbnmcaaaGreatDoorJ6
import Derived.Test.YthddlchkbnmcaaaGreatDoorJ1
import Derived.Laws.ResultCell
import Derived.Test.YthddlchkbnmcaaaGreatDoorJ28
import Derived.Test.YthddlchkbnmcaaaGreatDoorJ9
import Derived.LaidMore
import Derived.Lib.OthersKept
import Derived.Lib.LaidTab
import Derived.Lib.ItoaNum
import Derived.Test.YthddlchkbnmcaaaGreatDoorJ16
import Derived.Test.YthddlchkbnmcaaaGreatDoorJ15
namespace Go.Proofs.YthddlchkbnmcaaaGreatDoor
open Go.ChangeShapes Go.WideShapes Go.ChangeAt Go.WideMaps Go.WideElems Go.RowKit
set_option maxRecDepth 20000

theorem bytes_of {H : Type} {enc : TypeId × Value → H} {W : World} {base : Nat} {spare : Nat → Bool} {held : Bool} {fuel : Nat} {cs : List Value} {x : DataW H × List MemPlace} (hl : cs.length = 13)
    (h : DataW.trod enc Tryz.prog W base spare held fuel 31 cs = some x) : ∃ L : List Int, cs = L.map (Value.int .u8) ∧ Byt L := by
  have c5 : Tryz.prog.cellsOf 5 = 1 := by kernel_rfl
  obtain ⟨xs, m, rfl, hx, hlen, hn, hel⟩ := DataW.trod_array Tryz.underlying31 h
  have each : ∀ i, i < 13 → ∃ z : Int, cs[i]? = some (.int .u8 z) ∧ 0 ≤ z ∧ z < 256 := fun i hi => by
    have h1 := hel i hi
    rw [List.getElem?_eq_getElem (show i < xs.length by omega), c5, Nat.mul_one] at h1
    obtain ⟨z, ez, _, wz⟩ := DataW.trod_int Tryz.underlying5 h1
    refine ⟨z, ?_, ?_⟩
    · have := congrArg (·[0]?) ez
      simpa [List.getElem?_take, List.getElem?_drop] using this
    · have := bounds_u8 wz
      omega
  refine ⟨cs.map intOf, ?_, by simp [hl], fun k => ?_⟩
  · apply List.ext_getElem?
    intro k
    rcases Nat.lt_or_ge k 13 with hk | hk
    · obtain ⟨z, hz, _⟩ := each k hk
      simp only [List.getElem?_map, hz]
      rfl
    · rw [List.getElem?_eq_none (by omega), List.getElem?_eq_none (by simpa [hl] using hk)]
  · rcases Nat.lt_or_ge k 13 with hk | hk
    · obtain ⟨z, hz, hb⟩ := each k hk
      rw [List.getD, List.getElem?_map, hz]
      exact hb
    · rw [List.getD, List.getElem?_eq_none (by simpa [hl] using hk)]
      decide

/-- A header that comes in: thirteen bytes. -/
theorem open_head {H : Type} {enc : TypeId × Value → H} {W : World} {r : Reach} {b0 base : Nat} {spare : Nat → Bool} {held : Bool} {v : Value} {d : DataW H} {p : List MemPlace}
    (hok : Value.okWide Tryz.prog W r b0 31 v) (h : DataW.Trod enc Tryz.prog W base spare held 31 v d p) :
    ∃ L : List Int, v = .agg (hv L) ∧ Byt L := by
  have c : Tryz.prog.cellsOf 31 = 13 := by kernel_rfl
  simp only [Value.okWide, Tryz.underlying31] at hok
  obtain ⟨cs, rfl, hsz, _⟩ := hok
  obtain ⟨fuel, hf⟩ := h
  obtain ⟨L, hL, hb⟩ := bytes_of (by simp only [Value.cells, Array.length_toList]; rw [hsz, c]) hf
  refine ⟨L, ?_, hb⟩
  unfold hv
  rw [← hL]
  simp [Value.cells]

theorem ent_of {H : Type} {enc : TypeId × Value → H} {W : World} {base : Nat} {spare : Nat → Bool} {held : Bool} (fuel : Nat) (cs : List Value) (x : DataW H × List MemPlace) (hl : cs.length = 12)
    (h : DataW.trod enc Tryz.prog W base spare held fuel 35 cs = some x) : ∃ e : Ent, cs = (entV e).toList ∧ ((0 ≤ e.src ∧ e.src < 4294967296) ∧ (0 ≤ e.dst ∧ e.dst < 4294967296)) ∧ (wfN e.prio ∧ wfN e.srcBits ∧ wfN e.dstBits ∧ wfN e.slow ∧ wfN e.shigh ∧ wfN e.dlow ∧ wfN e.dhigh ∧ wfN e.proto ∧ wfN e.action) := by
  have c3 : Tryz.prog.cellsOf 3 = 1 := by kernel_rfl
  have c4 : Tryz.prog.cellsOf 4 = 1 := by kernel_rfl
  have cu : Tryz.prog.cellsOf 33 = 1 := by kernel_rfl
  obtain ⟨xs, n, _, _, _, hxl, hf⟩ := DataW.trod_struct Tryz.underlying35 h
  obtain ⟨b0, h0⟩ := field_bool Tryz.underlying4 c4 (hf 0 _ rfl) (xs_some hxl (by decide))
  obtain ⟨n1, h1, w1⟩ := field_int Tryz.underlying3 c3 (hf 1 _ rfl) (xs_some hxl (by decide))
  obtain ⟨n2, h2, w2⟩ := field_int Tryz.underlying33 cu (hf 2 _ rfl) (xs_some hxl (by decide))
  obtain ⟨n3, h3, w3⟩ := field_int Tryz.underlying3 c3 (hf 3 _ rfl) (xs_some hxl (by decide))
  obtain ⟨n4, h4, w4⟩ := field_int Tryz.underlying33 cu (hf 4 _ rfl) (xs_some hxl (by decide))
  obtain ⟨n5, h5, w5⟩ := field_int Tryz.underlying3 c3 (hf 5 _ rfl) (xs_some hxl (by decide))
  obtain ⟨n6, h6, w6⟩ := field_int Tryz.underlying3 c3 (hf 6 _ rfl) (xs_some hxl (by decide))
  obtain ⟨n7, h7, w7⟩ := field_int Tryz.underlying3 c3 (hf 7 _ rfl) (xs_some hxl (by decide))
  obtain ⟨n8, h8, w8⟩ := field_int Tryz.underlying3 c3 (hf 8 _ rfl) (xs_some hxl (by decide))
  obtain ⟨n9, h9, w9⟩ := field_int Tryz.underlying3 c3 (hf 9 _ rfl) (xs_some hxl (by decide))
  obtain ⟨n10, h10, w10⟩ := field_int Tryz.underlying3 c3 (hf 10 _ rfl) (xs_some hxl (by decide))
  obtain ⟨n11, h11, w11⟩ := field_int Tryz.underlying3 c3 (hf 11 _ rfl) (xs_some hxl (by decide))
  have u2 := bounds_u32 w2
  have u4 := bounds_u32 w4
  refine ⟨⟨b0, n1, n11, n2, n3, n4, n5, n6, n7, n8, n9, n10⟩, ?_, ⟨⟨show 0 ≤ n2 by omega, show n2 < 4294967296 by omega⟩, ⟨show 0 ≤ n4 by omega, show n4 < 4294967296 by omega⟩⟩, w1, w3, w5, w6, w7, w8, w9, w10, w11⟩
  match cs, hl with
  | [a0, a1, a2, a3, a4, a5, a6, a7, a8, a9, a10, a11], _ =>
    obtain rfl : a0 = .bool b0 := by simpa using h0
    obtain rfl : a1 = .int .i64 n1 := by simpa using h1
    obtain rfl : a2 = .int .u32 n2 := by simpa using h2
    obtain rfl : a3 = .int .i64 n3 := by simpa using h3
    obtain rfl : a4 = .int .u32 n4 := by simpa using h4
    obtain rfl : a5 = .int .i64 n5 := by simpa using h5
    obtain rfl : a6 = .int .i64 n6 := by simpa using h6
    obtain rfl : a7 = .int .i64 n7 := by simpa using h7
    obtain rfl : a8 = .int .i64 n8 := by simpa using h8
    obtain rfl : a9 = .int .i64 n9 := by simpa using h9
    obtain rfl : a10 = .int .i64 n10 := by simpa using h10
    obtain rfl : a11 = .int .i64 n11 := by simpa using h11
    rfl
/-- Numbers of an entry that comes in. -/
def wfE (e : Ent) : Prop := wfN e.prio ∧ wfN e.srcBits ∧ wfN e.dstBits ∧ wfN e.slow ∧ wfN e.shigh ∧ wfN e.dlow ∧ wfN e.dhigh ∧ wfN e.proto ∧ wfN e.action
/-- Entries that come in. -/
theorem open_ents {H : Type} {enc : TypeId × Value → H} {W : World} {r : Reach} {b0 base : Nat} {spare : Nat → Bool} {held : Bool} {v : Value} {d : DataW H} {p : List MemPlace}
    (hok : Value.okWide Tryz.prog W r b0 22 v) (h : DataW.Trod enc Tryz.prog W base spare held 22 v d p) :
    ∃ l, GSl EntE entV W v l ∧ ∀ e ∈ l, ((0 ≤ e.src ∧ e.src < 4294967296) ∧ (0 ≤ e.dst ∧ e.dst < 4294967296)) ∧ wfE e := by
  obtain ⟨fuel, hf⟩ := h
  have hv1 : v.cells.toList = [v] := by
    simp only [Value.okWide, Cell.okWide, Cell.ok, Tryz.underlying22] at hok
    cases v <;> simp_all [Value.cells]
  rw [hv1] at hf
  have hin : Inhabited Ent := ⟨⟨false, 0, 0, 0, 0, 0, 0, 0, 0, 0, 0, 0⟩⟩
  exact open_any (E := EntE) EntOk entV (fun _ => rfl) (fun e => ((0 ≤ e.src ∧ e.src < 4294967296) ∧ (0 ≤ e.dst ∧ e.dst < 4294967296)) ∧ wfE e) (fun fuel cs x h1 h2 => ent_of fuel cs x h1 h2) hf

theorem pairs_of {H : Type} {enc : TypeId × Value → H} {W : World} {base : Nat} {spare : Nat → Bool} {held : Bool} {fuel n : Nat} {t s : TypeId} {f0 f1 : Field} {cs : List Value} {zs : List (Int × Int)} {ps : List MemPlace}
    (ht : Tryz.prog.underlying t = some (.array n s)) (hs : Tryz.prog.underlying s = some (.struct #[f0, f1])) (c2 : Tryz.prog.cellsOf s = 2) (e0 : f0.type = 3) (e1 : f1.type = 3) (o0 : f0.offset = 0) (o1 : f1.offset = 1)
    (h : DataW.trod enc Tryz.prog W base spare held fuel t cs = some (.agg (zs.map fun z => .agg [.lit (.int .i64 z.1), .lit (.int .i64 z.2)]), ps)) (i : Nat) (hi : i < n) :
    ∃ z, zs[i]? = some z ∧ cs[2 * i]? = some (.int .i64 z.1) ∧ cs[2 * i + 1]? = some (.int .i64 z.2) := by
  have c3 : Tryz.prog.cellsOf 3 = 1 := by kernel_rfl
  obtain ⟨xs, m, rfl, hx, hlen, hn, hel⟩ := DataW.trod_array ht h
  have hi' : i < xs.length := by omega
  have h1 := hel i hi
  rw [List.getElem?_eq_getElem hi', c2] at h1
  obtain ⟨y0, y1, k, hy, _, t0, t1⟩ := trod_struct2 hs h1
  rw [e0, c3, o0] at t0
  rw [e1, c3, o1] at t1
  obtain ⟨a, ca, rfl, _⟩ := DataW.trod_int Tryz.underlying3 t0
  obtain ⟨b, cb, rfl, _⟩ := DataW.trod_int Tryz.underlying3 t1
  simp only [Prod.mk.injEq, DataW.agg.injEq] at hx
  have hm : (zs.map fun z => (DataW.agg [.lit (.int .i64 z.1), .lit (.int .i64 z.2)] : DataW H))[i]? = (xs.map (·.1))[i]? := by rw [hx.1]
  rw [List.getElem?_map, List.getElem?_map, List.getElem?_eq_getElem hi', hy] at hm
  simp only [Option.map_some, Option.map_eq_some_iff, DataW.agg.injEq, List.cons.injEq, DataW.lit.injEq, Lit.int.injEq, true_and, and_true] at hm
  obtain ⟨z, hz, za, zb⟩ := hm
  have ga : cs[2 * i]? = some (.int .i64 a) := by
    have := congrArg (·[0]?) ca
    simpa [List.getElem?_take, List.getElem?_drop, Nat.mul_comm] using this
  have gb : cs[2 * i + 1]? = some (.int .i64 b) := by
    have := congrArg (·[0]?) cb
    simpa [List.getElem?_take, List.getElem?_drop, Nat.mul_comm] using this
  exact ⟨z, hz, by rw [za]; exact ga, by rw [zb]; exact gb⟩

abbrev laid1 : List (String × DataW Unit) := [("milepost/head.places", Rows.laid_milepost_head_places)]
theorem of_laid1 {W : World} (h : laidMetH Tryz.prog laid1 W) : Places W := by
  rw [MakeChecks.laidMetH_plain _ _ _ (by kernel_rfl)] at h
  obtain ⟨ps, ⟨g3, t3, cs3, f3, p3, q3, hg3, ht3, hv3, hd3, _, _⟩, _, _⟩ := h
  obtain rfl := Option.some.inj ((show Tryz.prog.globalNamed "milepost/head.places" = some 0 by kernel_rfl).symm.trans hg3)
  obtain rfl := Option.some.inj ((show (Tryz.prog.globals[0]?).map (·.type) = some 163 by kernel_rfl).symm.trans ht3)
  intro k hk
  rw [World.var?_cell hg3 hv3 k]
  obtain ⟨z, hz, h0, h1⟩ := pairs_of (zs := [(0, 32), (32, 32), (64, 16), (80, 16), (96, 8)]) Tryz.underlying163 Tryz.underlying162 (by kernel_rfl) rfl rfl rfl rfl hd3 (k / 2) (by omega)
  rw [← Array.getElem?_toList]
  rcases (show k = 0 ∨ k = 1 ∨ k = 2 ∨ k = 3 ∨ k = 4 ∨ k = 5 ∨ k = 6 ∨ k = 7 ∨ k = 8 ∨ k = 9 by omega) with h | h | h | h | h | h | h | h | h | h <;> subst h <;> simp at hz <;> subst hz <;> first | exact h0 | exact h1
end Go.Proofs.YthddlchkbnmcaaaGreatDoor
namespace Go.Proofs.YthddlchkbnmcaaaGreatDoor
open Go.ChangeShapes Go.WideShapes Go.ChangeAt Go.WideMaps Go.WideElems Go.RowKit
set_option maxRecDepth 20000

end Go.Proofs.YthddlchkbnmcaaaGreatDoor
namespace Go.Proofs.YthddlchkbnmcaaaGreatDoor
open Go Go.Shelf Go.RowKit Go.Lib Go.Sort
set_option maxRecDepth 20000

def cmpI (a b : Int) : Int := if a < b then -1 else if b < a then 1 else 0
theorem nan_any (x : Int) (w : World) : Calls Tryz.prog 51 #[.int .i64 x] w fun e w' => e = .returned (.bool false) ∧ w' = w := by
  go_enter Tryz.func51, Tryz.ntmps51
  go_wp2
  go_ret
  exact ⟨by simp, rfl⟩
theorem compare_any (x y : Int) (w : World) : Calls Tryz.prog 28 #[.int .i64 x, .int .i64 y] w fun e w' => e = .returned (.int .i64 (cmpI x y)) ∧ w' = w := by
  have HN : Hid (∀ x W, Calls Tryz.prog 51 #[.int .i64 x] W fun e w' => e = .returned (.bool false) ∧ w' = W) := nan_any
  by_cases h1 : x < y
  · have HV : Hid (cmpI x y = -1) := by show _ = _; unfold cmpI; rw [if_pos h1]
    go_enter Tryz.func28, Tryz.ntmps28
    go_wp2_with (go_at_call 51; refine (HN.out _ _).mono ?_; rintro e w' ⟨rfl, rfl⟩)
    go_ret
    exact ⟨by rw [HV.out]; rfl, rfl⟩
  · by_cases h2 : y < x
    · have HV : Hid (cmpI x y = 1) := by show _ = _; unfold cmpI; rw [if_neg h1, if_pos h2]
      go_enter Tryz.func28, Tryz.ntmps28
      go_wp2_with (go_at_call 51; refine (HN.out _ _).mono ?_; rintro e w' ⟨rfl, rfl⟩)
      go_ret
      exact ⟨by rw [HV.out]; rfl, rfl⟩
    · have HV : Hid (cmpI x y = 0) := by show _ = _; unfold cmpI; rw [if_neg h1, if_neg h2]
      go_enter Tryz.func28, Tryz.ntmps28
      go_wp2_with (go_at_call 51; refine (HN.out _ _).mono ?_; rintro e w' ⟨rfl, rfl⟩)
      go_ret
      exact ⟨by rw [HV.out]; rfl, rfl⟩
def prioF (x y : Ent) : Int := cmpI y.prio x.prio
theorem prioF_lt (x y : Ent) : prioF x y < 0 ↔ y.prio < x.prio := by
  unfold prioF cmpI
  split
  · simp; assumption
  · split <;> simp <;> omega
theorem closure_any (x y : Ent) (w : World) : Calls Tryz.prog 27 #[.agg (entV x), .agg (entV y)] w fun e w' => e = .returned (.int .i64 (prioF x y)) ∧ ∃ q os', w' = grow (w.drewN q) os' := by
  have HC : Hid (∀ a b W, Calls Tryz.prog 28 #[.int .i64 a, .int .i64 b] W fun e w' => e = .returned (.int .i64 (cmpI a b)) ∧ w' = W) := compare_any
  obtain ⟨r, hr⟩ : ∃ r, r = prioF x y := ⟨_, rfl⟩
  have HR : Hid (cmpI y.prio x.prio = r) := hr.symm
  rw [← hr]
  clear hr
  unfold entV
  go_enter Tryz.func27, Tryz.ntmps27
  go_wp2_with (go_at_call 28; refine (HC.out _ _ _).mono ?_; rintro e w' ⟨rfl, rfl⟩)
  go_ret
  exact ⟨by rw [HR.out]; rfl, 0, _, by rw [alloc_eq_grow, alloc_eq_grow, grow_grow]; rfl⟩
theorem lays_any [Inhabited Ent] (blk off size : Nat) (w : World) : CmpLays Tryz.prog 27 #[] (fun x => (entV x).toList) 12 prioF blk off size w := fun _ _ _ _ x y => by
  have := closure_any x y
  simpa using this _

/-- Sorted by the falling priority, those of one in their order. -/
structure Sorted8 (m m' : List Ent) : Prop where
  len : m'.length = m.length
  desc : Desc (·.prio) m'
  alike : Alike (·.prio) m' m
set_option maxHeartbeats 4000000 in
set_option maxRecDepth 1000000 in
theorem sortStable_any (B : Nat) (m : List Ent) (v : Value) (w : World) (hown : w.ownsRow B 35 12 v m.length (gcells entV m)) (hm : m.length ≤ 1000000) :
    Calls Tryz.prog 26 #[v, .func (.func 27) #[] #[]] w fun e w' => e = .returned (.tuple #[]) ∧ ∃ m', Sorted8 m m' ∧ w'.ownsRow B 35 12 v m'.length (gcells entV m') ∧ w.grownBy w' v.ownBlock := by
  letI : Inhabited Ent := ⟨⟨false, 0, 0, 0, 0, 0, 0, 0, 0, 0, 0, 0⟩⟩
  obtain ⟨h1, ⟨rfl, h2⟩ | ⟨g, cap, cur, rfl, hB, hcur, h5, h6, h7, h4⟩⟩ := hown
  · have hm0 : m = [] := List.eq_nil_of_length_eq_zero h2
    subst hm0
    have HS : Hid (∀ W, Calls Tryz.prog 50 #[.slice none 0 0, .int .i64 0, .func (.func 27) #[] #[]] W fun e w' => e = .returned (.tuple #[]) ∧ w' = W) := fun W => by
      have HI : Hid (∀ W, Calls Tryz.prog 78 #[.slice none 0 0, .int .i64 0, .int .i64 0, .func (.func 27) #[] #[]] W fun e w' => e = .returned (.tuple #[]) ∧ w' = W) := fun W => by
        go_enter Tryz.func78, Tryz.ntmps78
        go_wp2
        go_loopg [8] 0 (fun kx s wr => s = .int .i64 1 ∧ wr = W)
        case atStart => exact ⟨rfl, rfl⟩
        case round =>
          obtain ⟨rfl, rfl⟩ := hrel
          go_wp2
          go_end0
          exact ⟨rfl, rfl⟩
      go_enter Tryz.func50, Tryz.ntmps50
      go_wp2
      go_loopg [7, 8] 0 (fun kx s7 s8 wr => s7 = .int .i64 0 ∧ s8 = .int .i64 20 ∧ wr = W)
      case atStart => exact ⟨rfl, rfl, rfl⟩
      case round =>
        obtain ⟨rfl, rfl, rfl⟩ := hrel
        go_wp2_with (go_at_call 78; refine (HI.out _).mono ?_; rintro e w' ⟨rfl, rfl⟩)
        go_loopg [6, 7, 8, 9] 0 (fun kx s6 s7 s8 s9 wr2 => ∃ a b c : Value, s6 = .int .i64 20 ∧ s7 = a ∧ s8 = b ∧ s9 = c ∧ wr2 = w')
        case atStart => exact ⟨_, _, _, rfl, rfl, rfl, rfl, rfl⟩
        case round =>
          obtain ⟨a, b, c, rfl, rfl, rfl, rfl, rfl⟩ := hrel
          go_wp2
          go_end0
          exact ⟨rfl, rfl⟩
    go_enter Tryz.func26, Tryz.ntmps26
    go_wp2_with (go_at_call 50; refine (HS.out _).mono ?_; rintro e w' ⟨rfl, rfl⟩)
    go_end0
    exact ⟨rfl, [], ⟨rfl, List.Pairwise.nil, Alike.refl _ _⟩, World.ownsRow_nil _ _ _ _, ⟨rfl, rfl, rfl, Nat.le_refl _, fun k _ _ => rfl⟩⟩
  · have hc := stable_any stP (fun x => (entV x).toList) (fun x => x.prio) prioF prioF_lt 27 #[] g 0 cap m.toArray w (enters_of Tryz.func27 (by kernel_rfl) rfl) (lays_any _ _ _ _) ⟨fun _ => rfl, fun x u hu => by simp [entV] at hu; rcases hu with h | h | h | h | h | h | h | h | h | h | h | h <;> (rw [h]; rfl), holds_of_own (enc := entV) (k := 12) (fun _ => rfl) hcur h4, (Array.getElem?_eq_some_iff.1 hcur).1⟩ (by simp; omega)
    have HC : Hid (∀ W, W = w → Calls Tryz.prog 50 #[.slice (some ⟨g, 0, none⟩) m.length cap, .int .i64 m.length, .func (.func 27) #[] #[]] W fun e w' => e = .returned (.tuple #[]) ∧ ∃ d', d'.size = m.length ∧ SWK (fun x => (entV x).toList) 12 w g 0 d' w' ∧ DescF (·.prio) (arrF d') 0 m.length ∧ Alike (·.prio) (segF (arrF d') 0 m.length) (segF (arrF m.toArray) 0 m.length)) := fun W hW => by
      subst hW
      simpa using hc
    have FIN : Hid (∀ w' (d' : Array Ent), d'.size = m.length → SWK (fun x => (entV x).toList) 12 w g 0 d' w' → DescF (·.prio) (arrF d') 0 m.length → Alike (·.prio) (segF (arrF d') 0 m.length) (segF (arrF m.toArray) 0 m.length) → ∃ m', Sorted8 m m' ∧ w'.ownsRow B 35 12 (.slice (some ⟨g, 0, none⟩) m.length cap) m'.length (gcells entV m') ∧ w.grownBy w' (some g)) := fun w' d' q1 q2 q3 q4 => by
      obtain ⟨cur', c1, c2, c3⟩ := own_of_swk (enc := entV) (k := 12) (fun _ => rfl) q2 hcur (by rw [q1, h7]; exact Nat.mul_le_mul_right _ h5)
      have e1 := segF_all d'
      rw [q1] at e1
      have e2 := segF_all m.toArray
      simp only [List.size_toArray] at e2
      rw [e1, e2] at q4
      refine ⟨d'.toList, ⟨by simpa using q1, ?_, by simpa using q4⟩, ⟨by rw [gcells_len (k := 12) (fun _ => rfl)], .inr ⟨g, cap, cur', by simp [q1], hB, c1, by simpa [q1] using h5, h6, by rw [c2, h7], by simpa [q1] using c3⟩⟩, SWK.grownBy q2⟩
      have := DescF.seg (p := fun x : Ent => x.prio) (f := arrF d') (a := 0) (n := m.length) (by rw [Nat.zero_add]; exact q3)
      rw [e1] at this
      exact this
    clear hc hcur h4 h1 hB
    obtain ⟨n, hn⟩ : ∃ n, n = m.length := ⟨_, rfl⟩
    rw [← hn] at HC FIN hm h5 ⊢
    clear hn
    go_enter Tryz.func26, Tryz.ntmps26
    go_wp2_with (go_at_call 50; refine (HC.out _ rfl).mono ?_; rintro e w' ⟨rfl, d', q1, q2, q3, q4⟩)
    go_end0
    exact ⟨rfl, FIN.out _ _ q1 q2 q3 q4⟩
end Go.Proofs.YthddlchkbnmcaaaGreatDoor
