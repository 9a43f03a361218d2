import Derived.Test.YthddlchkbnmcaaaGreatDoorJ31
import Derived.Test.YthddlchkbnmcaaaGreatDoorJ6
import Derived.Test.YthddlchkbnmcaaaGreatDoorJ1
import Derived.Laws.ResultCell
import Derived.Test.YthddlchkbnmcaaaGreatDoorJ28
import Derived.Test.YthddlchkbnmcaaaGreatDoorJ9
import Derived.Test.YthddlchkbnmcaaaGreatDoorJ11
namespace Go.Proofs.YthddlchkbnmcaaaGreatDoor
open Go Go.RowKit
set_option maxRecDepth 20000

/-- What a check comes to: entries, error, place. -/
def outC : ResI (List Ent) → List Ent × Int × Int
  | .ok m => (m, 0, 0)
  | .error x => ([], (x.1 : Int), x.2)
def checkP (size : Int) (l : List Raw) : List Ent × Int × Int := outC (checkGo size 0 false l)
theorem map_app {m : List Ent} {x : ResI (List Ent)} {r : Ent} : ((x.map fun y => r :: y).map fun y => m ++ y) = x.map fun y => (m ++ [r]) ++ y := by
  cases x <;> simp [Except.map]
theorem map_nil' {x : ResI (List Ent)} : (x.map fun y => [] ++ y) = x := by
  cases x <;> simp [Except.map]
def EntsOwn (B : Nat) (w : World) (m : List Ent) (v : Value) : Prop := w.ownsRow B 35 12 v m.length (gcells entV m)
def EntsAt (w : World) (v : Value) (m : List Ent) : Prop := GSl EntE entV w v m
theorem ents_sl {B : Nat} {w : World} {m : List Ent} {v : Value} (h : EntsOwn B w m v) : EntsAt w v m := gsl_of (E := EntE) h fun _ _ => rfl
set_option maxHeartbeats 16000000 in
set_option maxRecDepth 100000 in
theorem check_any (l : List Raw) (vl : Value) (size : Int) (w : World) (hl : RawsAt w vl l) :
    Calls Tryz.prog 25 #[vl, .int .i64 size] w fun e w' => ∃ v, e = .returned (.tuple #[v, .int .i64 (checkP size l).2.1, .int .i64 (checkP size l).2.2]) ∧ EntsOwn w.heap.size w' (checkP size l).1 v ∧ Below w.heap.size w w' := by
  have ME : Hid (∀ (x : Raw) (u : Value) W, ClasAt W x u → rightR x → Calls Tryz.prog 49 #[.agg (rawV x u)] W fun e w' => e = .returned (.agg (entV (meaning x))) ∧ Below W.heap.size W w') := fun x u W h1 h2 => meaning_any x u W h1 h2.rule
  obtain ⟨o, cap, rfl, hc1, hc2⟩ := NSl.slice hl
  obtain ⟨n, hn⟩ : ∃ n, n = l.length := ⟨_, rfl⟩
  have HN : Hid (n = l.length) := hn
  rw [← hn] at hl hc1 ⊢
  have HL : Hid (RawsAt w (.slice o n cap) l) := hl
  unfold maxLen at hc2
  obtain ⟨P, hP⟩ : ∃ P, P = checkP size l := ⟨_, rfl⟩
  have HP : Hid (P = outC (checkGo size 0 false l)) := hP
  rw [← hP]
  clear hl hn hP
  go_enter Tryz.func25, Tryz.ntmps25
  go_wp2_with fail
  go_loopw [7, 8, 14] (fun v b i wr => ∃ (k : Nat) (had : Bool) (m : List Ent), k ≤ n ∧ k ≤ 64 ∧ i = .int .i64 (k : Int) ∧ b = .bool had ∧ m.length = k ∧ Hid (checkGo size 0 false l = (checkGo size k had (l.drop k)).map fun y => m ++ y) ∧ EntsOwn w.heap.size wr m v ∧ Below w.heap.size w wr) (fun _ _ i _ => n - (intOf i).toNat)
  case atStart => exact ⟨0, false, [], Nat.zero_le _, Nat.zero_le _, rfl, rfl, rfl, (by show _ = _; rw [List.drop_zero, map_nil']), World.ownsRow_nil _ _ _ _, Below.refl _ _⟩
  case round =>
    obtain ⟨k, had, m, hk, hk64, rfl, rfl, hm, HC, hown, hb⟩ := hrel
    have HO : Hid (EntsOwn w.heap.size wr m u7) := hown
    have HB : Hid (Below w.heap.size w wr) := hb
    have HM : Hid (m.length = k) := hm
    clear hown hb hm
    by_cases hlt : k < n
    · have hlt' : (k : Int) < (n : Int) := by omega
      obtain ⟨g, off, cur, ty, fr, r, u', rfl, hg, hc, hCk, hcl⟩ := NSl.at (NSl.below clas_below HL.out HB.out) k hlt
      have HD : Hid (l.drop k = r :: l.drop (k + 1)) := by
        obtain ⟨hk', rfl⟩ := List.getElem?_eq_some_iff.1 hCk
        exact List.drop_eq_getElem_cons hk'
      have K1 : Hid (wr.heap[g]? = some (.cells cur ty fr)) := hg
      have H1 : Hid (∀ i, i < 8 → cur[off + k * 8 + i]? = (rawV r u')[i]?) := hc
      have HF : Hid (ClasAt wr r u') := hcl
      obtain ⟨o1, cap1, rfl, -, -⟩ := NSl.slice hcl
      have BN : Hid (Below wr.heap.size wr (wr.alloc (.cells (rawV r (.slice o1 r.clauses.length cap1)) 92))) := (Below.refl _ _).alloc (Nat.le_refl _) _
      have KN : Hid ((wr.alloc (.cells (rawV r (.slice o1 r.clauses.length cap1)) 92)).heap[wr.heap.size]? = some (.cells (rawV r (.slice o1 r.clauses.length cap1)) 92 (0, 0))) := heap_new _ _ _ rfl
      have HFN : Hid (ClasAt (wr.alloc (.cells (rawV r (.slice o1 r.clauses.length cap1)) 92)) r (.slice o1 r.clauses.length cap1)) := clas_below _ _ _ _ BN.out HF.out
      clear hg hc hCk hcl
      go_wp2_with (first
        | (refine wl_loadE (E := RawE) RawOk rfl _ rfl g (off + k * 8) rfl cur ty fr (rawV r (.slice o1 r.clauses.length cap1)) rfl K1.out H1.out ?_)
        | (refine wl_storeE (E := RawE) RawOk rfl _ _ rfl wr.heap.size (rawV r (.slice o1 r.clauses.length cap1)) ⟨rfl, by simp [rawV, Value.oneCell']⟩ rfl rfl _ (heap_new _ _ _ rfl) rfl _ (setRow_new _ _ _ _ _ rfl) ?_))
      refine chk6_region (by exact Nat.le_refl _) k wr.heap.size had r (.slice o1 r.clauses.length cap1) rfl rfl rfl KN.out HFN.out ?_
      intro y w1 G hy hG hb1 hg1
      simp only [putsD, chk6_D, List.foldl_cons, List.foldl_nil, hy, Act.put, List.setIfInBounds_toArray, List.set_cons_succ, List.set_cons_zero]
      have B1 : Hid (Below wr.heap.size wr w1) := BN.out.trans (hb1.mono BN.out.size)
      have KR : Hid (w1.heap[wr.heap.size]? = some (.cells (rawV r (.slice o1 r.clauses.length cap1)) 92 (0, 0))) := (hb1.block _ (by simp)).trans KN.out
      have HF1 : Hid (ClasAt w1 r (.slice o1 r.clauses.length cap1)) := clas_below _ _ _ _ B1.out HF.out
      have HO1 : Hid (EntsOwn w.heap.size w1 m u7) := gown_below HO.out B1.out
      have BW : Hid (Below w.heap.size w w1) := HB.out.trans (B1.out.mono HB.out.size)
      have G0 : Hid (w1.heap[G]? = some (.cells (fltV (rowF k had r)) 94 (0, 0))) := hg1
      have f0 : w1.cell? ⟨G, 0, none⟩ = some (.int .i64 (rowF k had r).1) := by rw [cell_of_row _ _ _ _ _ _ G0.out]; rfl
      clear hy hG hb1 hg1 BN KN HFN K1 H1
      by_cases hz : (rowF k had r).1 = 0
      · have hz' : ((rowF k had r).1 != 0) = false := by simp [hz]
        obtain ⟨hgo, hright, h64⟩ := check_good size k had r (l.drop (k + 1)) hz
        have HRT : Hid (rightR r) := hright
        have HC2 : Hid (checkGo size 0 false l = (checkGo size (k + 1) (had || r.dflt) (l.drop (k + 1))).map fun y => (m ++ [meaning r]) ++ y) := by
          show _ = _
          rw [HC.out, HD.out, hgo, map_app]
        have hd1 := (raw_f KR.out).2.1
        clear hgo hright hz
        have step : ∀ (w2 : World), Below w1.heap.size w1 w2 → True := fun _ _ => trivial
        clear step
        cases had with
        | false =>
          go_wp2_with (first
            | (refine wl_loadE (E := RawE) RawOk rfl _ rfl wr.heap.size 0 rfl _ _ _ (rawV r (.slice o1 r.clauses.length cap1)) rfl KR.out (own_cells _ _) ?_))
          refine (ME.out _ _ _ HF1.out HRT.out).mono ?_
          rintro e w2 ⟨rfl, hb2⟩
          have B2 : Hid (Below w.heap.size w w2) := BW.out.trans (hb2.mono BW.out.size)
          have HO2 : Hid (EntsOwn w.heap.size (w2.alloc (.cells (entV (meaning r)) 35)) m u7) := (gown_below HO1.out hb2).alloc _
          clear hb2 hd1 f0
          go_wp2_with (first
            | (refine wl_buildE (E := EntE) EntOk rfl _ rfl (entV (meaning r)) rfl rfl ?_)
            | (at_builtin; refine of_stopT ?_))
          unfold StopT
          refine wl_appendE (E := EntE) EntOk entV rfl _ _ rfl w.heap.size u7 m (meaning r) (ent_fits _) rfl HO2.out w2.heap.size 1 rfl (heap_new _ _ _ rfl) (by have := HM.out; omega) (by have := B2.out.size; simp; omega) ?_
          intro v' w3 hown3 hgr3 _
          have B3 : Hid (Below w.heap.size w w3) := (B2.out.alloc B2.out.size _).trans ((Below.refl _ _).grown hgr3 (B2.out.alloc B2.out.size _).size fun k hk => (HO2.out.lt k hk).1)
          have HO3 : Hid (EntsOwn w.heap.size w3 (m ++ [meaning r]) v') := hown3
          clear hown3 hgr3
          simp only [Act.put, List.setIfInBounds_toArray, List.set_cons_succ, List.set_cons_zero]
          go_wp2_with fail
          go_roundw
          case rel => exact ⟨k + 1, r.dflt, m ++ [meaning r], by omega, by omega, by go_num, by simp, by rw [List.length_append, HM.out]; rfl, (by have := HC2.out; rw [Bool.false_or] at this; exact this), HO3.out, B3.out⟩
          case measure => simp [intOf]; omega
        | true =>
          go_wp2_with (first
            | (refine wl_loadE (E := RawE) RawOk rfl _ rfl wr.heap.size 0 rfl _ _ _ (rawV r (.slice o1 r.clauses.length cap1)) rfl KR.out (own_cells _ _) ?_))
          refine (ME.out _ _ _ HF1.out HRT.out).mono ?_
          rintro e w2 ⟨rfl, hb2⟩
          have B2 : Hid (Below w.heap.size w w2) := BW.out.trans (hb2.mono BW.out.size)
          have HO2 : Hid (EntsOwn w.heap.size (w2.alloc (.cells (entV (meaning r)) 35)) m u7) := (gown_below HO1.out hb2).alloc _
          clear hb2 hd1 f0
          go_wp2_with (first
            | (refine wl_buildE (E := EntE) EntOk rfl _ rfl (entV (meaning r)) rfl rfl ?_)
            | (at_builtin; refine of_stopT ?_))
          unfold StopT
          refine wl_appendE (E := EntE) EntOk entV rfl _ _ rfl w.heap.size u7 m (meaning r) (ent_fits _) rfl HO2.out w2.heap.size 1 rfl (heap_new _ _ _ rfl) (by have := HM.out; omega) (by have := B2.out.size; simp; omega) ?_
          intro v' w3 hown3 hgr3 _
          have B3 : Hid (Below w.heap.size w w3) := (B2.out.alloc B2.out.size _).trans ((Below.refl _ _).grown hgr3 (B2.out.alloc B2.out.size _).size fun k hk => (HO2.out.lt k hk).1)
          have HO3 : Hid (EntsOwn w.heap.size w3 (m ++ [meaning r]) v') := hown3
          clear hown3 hgr3
          simp only [Act.put, List.setIfInBounds_toArray, List.set_cons_succ, List.set_cons_zero]
          go_wp2_with fail
          go_roundw
          case rel => exact ⟨k + 1, true, m ++ [meaning r], by omega, by omega, by go_num, by simp, by rw [List.length_append, HM.out]; rfl, (by have := HC2.out; rw [Bool.true_or] at this; exact this), HO3.out, B3.out⟩
          case measure => simp [intOf]; omega
      · have hz' : ((rowF k had r).1 != 0) = true := by simp [hz]
        obtain ⟨e0, hgo, he0⟩ := check_bad size k had r (l.drop (k + 1)) hz
        have HPE : Hid (P = ([], (rowF k had r).1, (rowF k had r).2)) := by
          show _ = _
          rw [HP.out, HC.out, HD.out, hgo, he0]
          rfl
        have l0 : ∀ u : Later w1, u.world.cell? ⟨G, 0, none⟩ = some (.int .i64 (rowF k had r).1) := later_cell7 G0.out rfl
        have l1 : ∀ u : Later w1, u.world.cell? ⟨G, 1, none⟩ = some (.int .i64 (rowF k had r).2) := later_cell7 G0.out rfl
        clear hgo he0 hz
        go_wp2_with fail
        have ne1 := Later.ne w1
        refine wp_region_later (by kernel_rfl) (by kernel_rfl) ?_
        repeat go_big_quiet_step (rfl)
        refine wpQuiet_nil ?_
        rintro w' ⟨v, rfl⟩
        go_wp2_with fail
        go_ret3
        rw [HPE.out]
        exact ⟨_, rfl, World.ownsRow_nil _ _ _ _, BW.out.trans (v.below.mono BW.out.size)⟩
    · have hlt' : (n : Int) ≤ (k : Int) := by omega
      have hdrop : l.drop k = [] := List.drop_of_length_le (by have := HN.out; omega)
      have HC3 : Hid (checkGo size 0 false l = (checkGo size k had []).map fun y => m ++ y) := by rw [← hdrop]; exact HC.out
      clear hlt hdrop
      cases had with
      | true =>
        have HPE : Hid (P = (m, 0, 0)) := by
          show _ = _
          rw [HP.out, HC3.out]
          simp [checkGo, Except.map, outC]
        go_wp2_with fail
        go_ret3
        rw [HPE.out]
        exact ⟨_, rfl, HO.out, HB.out⟩
      | false =>
        have HPE : Hid (P = ([], 11, size)) := by
          show _ = _
          rw [HP.out, HC3.out]
          simp [checkGo, Except.map, outC]
        go_wp2_with fail
        go_ret3
        rw [HPE.out]
        exact ⟨_, rfl, World.ownsRow_nil _ _ _ _, HB.out⟩
end Go.Proofs.YthddlchkbnmcaaaGreatDoor
namespace Go.Proofs.YthddlchkbnmcaaaGreatDoor
open Go Go.RowKit
set_option maxRecDepth 20000

theorem u32_xor7 (a b : Nat) (ha : a < 4294967296) (hb : b < 4294967296) : bits .xor .u32 (a : Int) (b : Int) = ((a ^^^ b : Nat) : Int) := by
  have hx : a ^^^ b < 2 ^ 32 := Nat.xor_lt_two_pow (by omega) (by omega)
  have ha' : a % 2 ^ IntKind.u32.bits = a := Nat.mod_eq_of_lt (by simpa [IntKind.bits] using ha)
  have hb' : b % 2 ^ IntKind.u32.bits = b := Nat.mod_eq_of_lt (by simpa [IntKind.bits] using hb)
  simp only [bits, BitVec.ofInt_natCast, BitVec.toNat_xor, BitVec.toNat_ofNat, ha', hb', IntKind.wrap_u32]
  omega
theorem xor_begins (a b : Int) (k : Nat) (ha : 0 ≤ a ∧ a < 4294967296) (hb : 0 ≤ b ∧ b < 4294967296) : (bits .xor .u32 a b / 2 ^ k == 0) = (a / 2 ^ k == b / 2 ^ k) := by
  obtain ⟨m, rfl⟩ := Int.eq_ofNat_of_zero_le ha.1
  obtain ⟨n, rfl⟩ := Int.eq_ofNat_of_zero_le hb.1
  rw [u32_xor7 m n (by omega) (by omega)]
  have c : ∀ x : Nat, ((x : Int) / 2 ^ k) = ((x >>> k : Nat) : Int) := fun x => by rw [Nat.shiftRight_eq_div_pow]; simp
  rw [c, c, c, Nat.shiftRight_xor_distrib, Bool.eq_iff_iff, beq_iff_eq, beq_iff_eq]
  constructor
  · intro h
    have : (m >>> k) ^^^ (n >>> k) = 0 := by exact_mod_cast h
    have h2 : ((m >>> k) ^^^ (n >>> k)) ^^^ (n >>> k) = 0 ^^^ (n >>> k) := by rw [this]
    rw [Nat.xor_assoc, Nat.xor_self, Nat.xor_zero, Nat.zero_xor] at h2
    rw [h2]
  · intro h
    have : m >>> k = n >>> k := by exact_mod_cast h
    rw [this, Nat.xor_self]; rfl
theorem xor_bd (a b : Int) (ha : 0 ≤ a ∧ a < 4294967296) (hb : 0 ≤ b ∧ b < 4294967296) : 0 ≤ bits .xor .u32 a b ∧ bits .xor .u32 a b < 4294967296 := by
  obtain ⟨m, rfl⟩ := Int.eq_ofNat_of_zero_le ha.1
  obtain ⟨n, rfl⟩ := Int.eq_ofNat_of_zero_le hb.1
  rw [u32_xor7 m n (by omega) (by omega)]
  have hx : m ^^^ n < 2 ^ 32 := Nat.xor_lt_two_pow (by omega) (by omega)
  omega

set_option maxHeartbeats 2000000 in
theorem begins7_any (a b n : Int) (ha : 0 ≤ a ∧ a < 4294967296) (hb : 0 ≤ b ∧ b < 4294967296) (w : World) :
    Calls Tryz.prog 65 #[.int .u32 a, .int .u32 b, .int .i64 n] w fun e w' => e = .returned (.bool (beginsM a b n)) ∧ w' = w := by
  have HX : Hid (∀ k, (bits .xor .u32 a b / 2 ^ k == 0) = (a / 2 ^ k == b / 2 ^ k)) := fun k => xor_begins a b k ha hb
  have hx := xor_bd a b ha hb
  have HBG : Hid (beginsM a b n = (bits .xor .u32 a b / 2 ^ (32 - min (max n 0) 32).toNat == 0)) := by show _ = _; unfold beginsM; rw [show 32 - clB n = (32 - min (max n 0) 32).toNat by unfold clB; omega, HX.out]
  by_cases h0 : n < 0
  · have e : clB n = 0 := by unfold clB; omega
    have HB : Hid (beginsM a b n = (bits .xor .u32 a b / 2 ^ 32 == 0)) := by show _ = _; unfold beginsM; rw [e, HX.out]
    clear e
    go_enter Tryz.func65, Tryz.ntmps65
    go_wp2_with fail
    go_ret
    first
      | (rw [HB.out]; exact ⟨rfl, rfl⟩)
      | (rw [HBG.out]; exact ⟨rfl, rfl⟩)
  · by_cases h1 : n ≤ 32
    · have e : 32 - clB n = (32 - n).toNat := by unfold clB; omega
      have HB : Hid (beginsM a b n = (bits .xor .u32 a b / 2 ^ (32 - n).toNat == 0)) := by show _ = _; unfold beginsM; rw [e, HX.out]
      clear e
      have h0' : 0 ≤ n := by omega
      clear h0
      go_enter Tryz.func65, Tryz.ntmps65
      go_wp2_with fail
      go_ret
      first
        | (rw [HB.out]; exact ⟨rfl, rfl⟩)
        | (rw [HBG.out]; exact ⟨rfl, rfl⟩)
    · have e : 32 - clB n = 0 := by unfold clB; omega
      have HB : Hid (beginsM a b n = (bits .xor .u32 a b == 0)) := by show _ = _; unfold beginsM; rw [e, ← HX.out 0, Int.pow_zero, Int.ediv_one]
      clear e
      have h1' : 32 < n := by omega
      have h0' : 0 ≤ n := by omega
      clear h0 h1
      go_enter Tryz.func65, Tryz.ntmps65
      go_wp2_with fail
      go_ret
      first
        | (rw [HB.out]; exact ⟨rfl, rfl⟩)
        | (rw [HBG.out]; exact ⟨rfl, rfl⟩)

set_option maxHeartbeats 2000000 in
theorem swithin_any (v lo hi : Int) (hv : 0 ≤ v ∧ v < 4294967296) (w : World) :
    Calls Tryz.prog 67 #[.int .u32 v, .int .i64 lo, .int .i64 hi] w fun e w' => e = .returned (.bool (decide (lo ≤ v) && decide (v ≤ hi))) ∧ w' = w := by
  obtain ⟨h1, h2⟩ := hv
  by_cases h3 : lo ≤ v
  · by_cases h4 : v ≤ hi
    · rw [decide_eq_true h3, decide_eq_true h4]
      go_enter Tryz.func67, Tryz.ntmps67
      go_wp2_with fail
      go_ret
      exact ⟨rfl, rfl⟩
    · rw [decide_eq_true h3, decide_eq_false h4]
      go_enter Tryz.func67, Tryz.ntmps67
      go_wp2_with fail
      go_ret
      exact ⟨rfl, rfl⟩
  · rw [decide_eq_false h3]
    go_enter Tryz.func67, Tryz.ntmps67
    go_wp2_with fail
    go_ret
    exact ⟨rfl, rfl⟩
/-- A field's number. -/
def fldN (L : List Int) (f : Int) : Int := getN L (atOf f) (sizeOfF f)
theorem fldN_bd (L : List Int) (hL : Byt L) (f : Int) (h0 : 0 ≤ f) (h1 : f < 5) : 0 ≤ fldN L f ∧ fldN L f < 4294967296 := by
  have h := getN_bd L hL (atOf f) (sizeOfF f)
  have hs := (place_facts f h0 h1).2.2.2.1
  have : (256 : Int) ^ sizeOfF f ≤ 4294967296 := by
    rcases (show sizeOfF f = 0 ∨ sizeOfF f = 1 ∨ sizeOfF f = 2 ∨ sizeOfF f = 3 ∨ sizeOfF f = 4 by omega) with h | h | h | h | h <;> rw [h] <;> decide
  unfold fldN
  omega
set_option maxHeartbeats 2000000 in
theorem field7_any (L : List Int) (hL : Byt L) (f : Int) (h0 : 0 ≤ f) (h1 : f < 5) (w : World) (hP : Places w) :
    Calls Tryz.prog 66 #[.agg (hv L), .int .i64 f] w fun e w' => e = .returned (.int .u32 (fldN L f)) ∧ Below w.heap.size w w' := by
  have hl := hL.1
  have hp := hP.pos
  have FC : Hid (∀ W, Places W → Calls Tryz.prog 90 #[.agg (hv L), .int .i64 f] W fun e w' => e = .returned (.tuple #[.int .u32 (fldN L f), .int .i64 0]) ∧ Below W.heap.size W w') := fun W hW => field_ok L hL f W h0 h1 hW
  have KN : Hid ((w.alloc (.cells (hv L) 31)).heap[w.heap.size]? = some (.cells (hv L) 31 (0, 0)) ∧ Places (w.alloc (.cells (hv L) 31)) ∧ Below w.heap.size w (w.alloc (.cells (hv L) 31))) := ⟨heap_new _ _ _ rfl, hP.later hp ((Below.refl _ _).alloc (Nat.le_refl _) _), (Below.refl _ _).alloc (Nat.le_refl _) _⟩
  clear hP hp
  go_enter Tryz.func66, Tryz.ntmps66
  go_wp2_with (refine wl_load26 rfl _ rfl w.heap.size rfl L KN.out.1 hl ?_)
  refine (FC.out _ KN.out.2.1).mono ?_
  rintro e w1 ⟨rfl, hb1⟩
  go_wp2_with fail
  go_ret
  exact ⟨rfl, KN.out.2.2.trans (hb1.mono KN.out.2.2.size)⟩
end Go.Proofs.YthddlchkbnmcaaaGreatDoor
