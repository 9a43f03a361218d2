import Derived.Test.YtfamnloobmdhdaaDoorJ9
import Derived.Test.YtfamnloobmdhdaaDoorJ7
import Derived.Laws.ResultCell
import Derived.Test.YtfamnloobmdhdaaDoorJ6
namespace Go.Proofs.YtfamnloobmdhdaaDoor
open Go Go.RowKit
set_option maxRecDepth 20000

/-- What a check comes to: entries, error, place. -/
def outC : ResI (List Ent) → List Ent × Int × Int
  | .ok m => (m, 0, 0)
  | .error x => ([], (x.1 : Int), x.2)
def checkP (size : Int) (l : List Raw) : List Ent × Int × Int := outC (checkGo size 0 false l)
theorem map_app {m : List Ent} {x : ResI (List Ent)} {r : Ent} : ((x.map fun y => r :: y).map fun y => m ++ y) = x.map fun y => (m ++ [r]) ++ y := by
  cases x <;> simp [Except.map]
theorem map_nil' {x : ResI (List Ent)} : (x.map fun y => [] ++ y) = x := by
  cases x <;> simp [Except.map]
def EntsOwn (B : Nat) (w : World) (m : List Ent) (v : Value) : Prop := w.ownsRow B 35 12 v m.length (gcells entV m)
def EntsAt (w : World) (v : Value) (m : List Ent) : Prop := GSl EntE entV w v m
theorem ents_sl {B : Nat} {w : World} {m : List Ent} {v : Value} (h : EntsOwn B w m v) : EntsAt w v m := gsl_of (E := EntE) h fun _ _ => rfl
set_option maxHeartbeats 16000000 in
set_option maxRecDepth 100000 in
theorem check_any (l : List Raw) (vl : Value) (size : Int) (w : World) (hl : RawsAt w vl l) :
    Calls Tryd.prog 14 #[vl, .int .i64 size] w fun e w' => ∃ v, e = .returned (.tuple #[v, .int .i64 (checkP size l).2.1, .int .i64 (checkP size l).2.2]) ∧ EntsOwn w.heap.size w' (checkP size l).1 v ∧ Below w.heap.size w w' := by
  have ME : Hid (∀ (x : Raw) (u : Value) W, ClasAt W x u → rightR x → Calls Tryd.prog 29 #[.agg (rawV x u)] W fun e w' => e = .returned (.agg (entV (meaning x))) ∧ Below W.heap.size W w') := fun x u W h1 h2 => meaning_any x u W h1 h2.rule
  obtain ⟨o, cap, rfl, hc1, hc2⟩ := NSl.slice hl
  obtain ⟨n, hn⟩ : ∃ n, n = l.length := ⟨_, rfl⟩
  have HN : Hid (n = l.length) := hn
  rw [← hn] at hl hc1 ⊢
  have HL : Hid (RawsAt w (.slice o n cap) l) := hl
  unfold maxLen at hc2
  obtain ⟨P, hP⟩ : ∃ P, P = checkP size l := ⟨_, rfl⟩
  have HP : Hid (P = outC (checkGo size 0 false l)) := hP
  rw [← hP]
  clear hl hn hP
  go_enter Tryd.func14, Tryd.ntmps14
  go_wp2_with fail
  go_loopw [7, 8, 14] (fun v b i wr => ∃ (k : Nat) (had : Bool) (m : List Ent), k ≤ n ∧ k ≤ 64 ∧ i = .int .i64 (k : Int) ∧ b = .bool had ∧ m.length = k ∧ Hid (checkGo size 0 false l = (checkGo size k had (l.drop k)).map fun y => m ++ y) ∧ EntsOwn w.heap.size wr m v ∧ Below w.heap.size w wr) (fun _ _ i _ => n - (intOf i).toNat)
  case atStart => exact ⟨0, false, [], Nat.zero_le _, Nat.zero_le _, rfl, rfl, rfl, (by show _ = _; rw [List.drop_zero, map_nil']), World.ownsRow_nil _ _ _ _, Below.refl _ _⟩
  case round =>
    obtain ⟨k, had, m, hk, hk64, rfl, rfl, hm, HC, hown, hb⟩ := hrel
    have HO : Hid (EntsOwn w.heap.size wr m u7) := hown
    have HB : Hid (Below w.heap.size w wr) := hb
    have HM : Hid (m.length = k) := hm
    clear hown hb hm
    by_cases hlt : k < n
    · have hlt' : (k : Int) < (n : Int) := by omega
      obtain ⟨g, off, cur, ty, fr, r, u', rfl, hg, hc, hCk, hcl⟩ := NSl.at (NSl.below clas_below HL.out HB.out) k hlt
      have HD : Hid (l.drop k = r :: l.drop (k + 1)) := by
        obtain ⟨hk', rfl⟩ := List.getElem?_eq_some_iff.1 hCk
        exact List.drop_eq_getElem_cons hk'
      have K1 : Hid (wr.heap[g]? = some (.cells cur ty fr)) := hg
      have H1 : Hid (∀ i, i < 8 → cur[off + k * 8 + i]? = (rawV r u')[i]?) := hc
      have HF : Hid (ClasAt wr r u') := hcl
      obtain ⟨o1, cap1, rfl, -, -⟩ := NSl.slice hcl
      have BN : Hid (Below wr.heap.size wr (wr.alloc (.cells (rawV r (.slice o1 r.clauses.length cap1)) 51))) := (Below.refl _ _).alloc (Nat.le_refl _) _
      have KN : Hid ((wr.alloc (.cells (rawV r (.slice o1 r.clauses.length cap1)) 51)).heap[wr.heap.size]? = some (.cells (rawV r (.slice o1 r.clauses.length cap1)) 51 (0, 0))) := heap_new _ _ _ rfl
      have HFN : Hid (ClasAt (wr.alloc (.cells (rawV r (.slice o1 r.clauses.length cap1)) 51)) r (.slice o1 r.clauses.length cap1)) := clas_below _ _ _ _ BN.out HF.out
      clear hg hc hCk hcl
      go_wp2_with (first
        | (refine wl_loadE (E := RawE) RawOk rfl _ rfl g (off + k * 8) rfl cur ty fr (rawV r (.slice o1 r.clauses.length cap1)) rfl K1.out H1.out ?_)
        | (refine wl_storeE (E := RawE) RawOk rfl _ _ rfl wr.heap.size (rawV r (.slice o1 r.clauses.length cap1)) ⟨rfl, by simp [rawV, Value.oneCell']⟩ rfl rfl _ (heap_new _ _ _ rfl) rfl _ (setRow_new _ _ _ _ _ rfl) ?_))
      refine chk6_region (by exact Nat.le_refl _) k wr.heap.size had r (.slice o1 r.clauses.length cap1) rfl rfl rfl KN.out HFN.out ?_
      intro y w1 G hy hG hb1 hg1
      simp only [putsD, chk6_D, List.foldl_cons, List.foldl_nil, hy, Act.put, List.setIfInBounds_toArray, List.set_cons_succ, List.set_cons_zero]
      have B1 : Hid (Below wr.heap.size wr w1) := BN.out.trans (hb1.mono BN.out.size)
      have KR : Hid (w1.heap[wr.heap.size]? = some (.cells (rawV r (.slice o1 r.clauses.length cap1)) 51 (0, 0))) := (hb1.block _ (by simp)).trans KN.out
      have HF1 : Hid (ClasAt w1 r (.slice o1 r.clauses.length cap1)) := clas_below _ _ _ _ B1.out HF.out
      have HO1 : Hid (EntsOwn w.heap.size w1 m u7) := gown_below HO.out B1.out
      have BW : Hid (Below w.heap.size w w1) := HB.out.trans (B1.out.mono HB.out.size)
      have G0 : Hid (w1.heap[G]? = some (.cells (fltV (rowF k had r)) 56 (0, 0))) := hg1
      have f0 : w1.cell? ⟨G, 0, none⟩ = some (.int .i64 (rowF k had r).1) := by rw [cell_of_row _ _ _ _ _ _ G0.out]; rfl
      clear hy hG hb1 hg1 BN KN HFN K1 H1
      by_cases hz : (rowF k had r).1 = 0
      · have hz' : ((rowF k had r).1 != 0) = false := by simp [hz]
        obtain ⟨hgo, hright, h64⟩ := check_good size k had r (l.drop (k + 1)) hz
        have HRT : Hid (rightR r) := hright
        have HC2 : Hid (checkGo size 0 false l = (checkGo size (k + 1) (had || r.dflt) (l.drop (k + 1))).map fun y => (m ++ [meaning r]) ++ y) := by
          show _ = _
          rw [HC.out, HD.out, hgo, map_app]
        have hd1 := (raw_f KR.out).2.1
        clear hgo hright hz
        have step : ∀ (w2 : World), Below w1.heap.size w1 w2 → True := fun _ _ => trivial
        clear step
        cases had with
        | false =>
          go_wp2_with (first
            | (refine wl_loadE (E := RawE) RawOk rfl _ rfl wr.heap.size 0 rfl _ _ _ (rawV r (.slice o1 r.clauses.length cap1)) rfl KR.out (own_cells _ _) ?_))
          refine (ME.out _ _ _ HF1.out HRT.out).mono ?_
          rintro e w2 ⟨rfl, hb2⟩
          have B2 : Hid (Below w.heap.size w w2) := BW.out.trans (hb2.mono BW.out.size)
          have HO2 : Hid (EntsOwn w.heap.size (w2.alloc (.cells (entV (meaning r)) 35)) m u7) := (gown_below HO1.out hb2).alloc _
          clear hb2 hd1 f0
          go_wp2_with (first
            | (refine wl_buildE (E := EntE) EntOk rfl _ rfl (entV (meaning r)) rfl rfl ?_)
            | (at_builtin; refine of_stopT ?_))
          unfold StopT
          refine wl_appendE (E := EntE) EntOk entV rfl _ _ rfl w.heap.size u7 m (meaning r) (ent_fits _) rfl HO2.out w2.heap.size 1 rfl (heap_new _ _ _ rfl) (by have := HM.out; omega) (by have := B2.out.size; simp; omega) ?_
          intro v' w3 hown3 hgr3 _
          have B3 : Hid (Below w.heap.size w w3) := (B2.out.alloc B2.out.size _).trans ((Below.refl _ _).grown hgr3 (B2.out.alloc B2.out.size _).size fun k hk => (HO2.out.lt k hk).1)
          have HO3 : Hid (EntsOwn w.heap.size w3 (m ++ [meaning r]) v') := hown3
          clear hown3 hgr3
          simp only [Act.put, List.setIfInBounds_toArray, List.set_cons_succ, List.set_cons_zero]
          go_wp2_with fail
          go_roundw
          case rel => exact ⟨k + 1, r.dflt, m ++ [meaning r], by omega, by omega, by go_num, by simp, by rw [List.length_append, HM.out]; rfl, (by have := HC2.out; rw [Bool.false_or] at this; exact this), HO3.out, B3.out⟩
          case measure => simp [intOf]; omega
        | true =>
          go_wp2_with (first
            | (refine wl_loadE (E := RawE) RawOk rfl _ rfl wr.heap.size 0 rfl _ _ _ (rawV r (.slice o1 r.clauses.length cap1)) rfl KR.out (own_cells _ _) ?_))
          refine (ME.out _ _ _ HF1.out HRT.out).mono ?_
          rintro e w2 ⟨rfl, hb2⟩
          have B2 : Hid (Below w.heap.size w w2) := BW.out.trans (hb2.mono BW.out.size)
          have HO2 : Hid (EntsOwn w.heap.size (w2.alloc (.cells (entV (meaning r)) 35)) m u7) := (gown_below HO1.out hb2).alloc _
          clear hb2 hd1 f0
          go_wp2_with (first
            | (refine wl_buildE (E := EntE) EntOk rfl _ rfl (entV (meaning r)) rfl rfl ?_)
            | (at_builtin; refine of_stopT ?_))
          unfold StopT
          refine wl_appendE (E := EntE) EntOk entV rfl _ _ rfl w.heap.size u7 m (meaning r) (ent_fits _) rfl HO2.out w2.heap.size 1 rfl (heap_new _ _ _ rfl) (by have := HM.out; omega) (by have := B2.out.size; simp; omega) ?_
          intro v' w3 hown3 hgr3 _
          have B3 : Hid (Below w.heap.size w w3) := (B2.out.alloc B2.out.size _).trans ((Below.refl _ _).grown hgr3 (B2.out.alloc B2.out.size _).size fun k hk => (HO2.out.lt k hk).1)
          have HO3 : Hid (EntsOwn w.heap.size w3 (m ++ [meaning r]) v') := hown3
          clear hown3 hgr3
          simp only [Act.put, List.setIfInBounds_toArray, List.set_cons_succ, List.set_cons_zero]
          go_wp2_with fail
          go_roundw
          case rel => exact ⟨k + 1, true, m ++ [meaning r], by omega, by omega, by go_num, by simp, by rw [List.length_append, HM.out]; rfl, (by have := HC2.out; rw [Bool.true_or] at this; exact this), HO3.out, B3.out⟩
          case measure => simp [intOf]; omega
      · have hz' : ((rowF k had r).1 != 0) = true := by simp [hz]
        obtain ⟨e0, hgo, he0⟩ := check_bad size k had r (l.drop (k + 1)) hz
        have HPE : Hid (P = ([], (rowF k had r).1, (rowF k had r).2)) := by
          show _ = _
          rw [HP.out, HC.out, HD.out, hgo, he0]
          rfl
        have l0 : ∀ u : Later w1, u.world.cell? ⟨G, 0, none⟩ = some (.int .i64 (rowF k had r).1) := later_cell7 G0.out rfl
        have l1 : ∀ u : Later w1, u.world.cell? ⟨G, 1, none⟩ = some (.int .i64 (rowF k had r).2) := later_cell7 G0.out rfl
        clear hgo he0 hz
        go_wp2_with fail
        have ne1 := Later.ne w1
        refine wp_region_later (by kernel_rfl) (by kernel_rfl) ?_
        repeat go_big_quiet_step (rfl)
        refine wpQuiet_nil ?_
        rintro w' ⟨v, rfl⟩
        go_wp2_with fail
        go_ret3
        rw [HPE.out]
        exact ⟨_, rfl, World.ownsRow_nil _ _ _ _, BW.out.trans (v.below.mono BW.out.size)⟩
    · have hlt' : (n : Int) ≤ (k : Int) := by omega
      have hdrop : l.drop k = [] := List.drop_of_length_le (by have := HN.out; omega)
      have HC3 : Hid (checkGo size 0 false l = (checkGo size k had []).map fun y => m ++ y) := by rw [← hdrop]; exact HC.out
      clear hlt hdrop
      cases had with
      | true =>
        have HPE : Hid (P = (m, 0, 0)) := by
          show _ = _
          rw [HP.out, HC3.out]
          simp [checkGo, Except.map, outC]
        go_wp2_with fail
        go_ret3
        rw [HPE.out]
        exact ⟨_, rfl, HO.out, HB.out⟩
      | false =>
        have HPE : Hid (P = ([], 11, size)) := by
          show _ = _
          rw [HP.out, HC3.out]
          simp [checkGo, Except.map, outC]
        go_wp2_with fail
        go_ret3
        rw [HPE.out]
        exact ⟨_, rfl, World.ownsRow_nil _ _ _ _, HB.out⟩
end Go.Proofs.YtfamnloobmdhdaaDoor
namespace Go.Proofs.YtfamnloobmdhdaaDoor
open Go Go.RowKit
set_option maxRecDepth 20000

def placesT : List Int := [0, 32, 32, 32, 64, 16, 80, 16, 96, 8]
def firstOf (f : Int) : Int := placesT.getD (2 * f).toNat 0
def widthOf (f : Int) : Int := placesT.getD (2 * f + 1).toNat 0

/-- The table of the fields lies in memory as the program's text lays it. -/
def Places (w : World) : Prop := ∀ k, k < 10 → w.cell? ⟨0, k, none⟩ = some (.int .i64 (placesT.getD k 0))
theorem Places.later {w w' : World} (h : Places w) {B : Nat} (hB : 0 < B) (hb : Below B w w') : Places w' := fun k hk => by
  rw [hb.cell (p := ⟨0, k, none⟩) hB]; exact h k hk
theorem Places.pos {w : World} (h : Places w) : 0 < w.heap.size := World.block_lt_of_cell? w ⟨0, 0, none⟩ (h 0 (by decide))

set_option maxHeartbeats 400000 in
theorem place_in (f : Int) (w : World) (h0 : 0 ≤ f) (h1 : f < 5) (hP : Places w) :
    Calls Tryd.prog 80 #[.int .i64 f] w fun e w' => e = .returned (.tuple #[.int .i64 (firstOf f), .int .i64 (widthOf f), .int .i64 0]) ∧ Below w.heap.size w w' := by
  have c0 := hP 0 (by decide)
  have c1 := hP 1 (by decide)
  have c2 := hP 2 (by decide)
  have c3 := hP 3 (by decide)
  have c4 := hP 4 (by decide)
  have c5 := hP 5 (by decide)
  have c6 := hP 6 (by decide)
  have c7 := hP 7 (by decide)
  have c8 := hP 8 (by decide)
  have c9 := hP 9 (by decide)
  clear hP
  rcases (show f = 0 ∨ f = 1 ∨ f = 2 ∨ f = 3 ∨ f = 4 by omega) with h | h | h | h | h
  all_goals
    subst h
    go_enter Tryd.func80, Tryd.ntmps80
    go_wp2
    go_quiet (fail)
    go_wp2
    go_ret3
    exact ⟨rfl, below_drewN (Below.refl _ _) _⟩
end Go.Proofs.YtfamnloobmdhdaaDoor
namespace Go.Proofs.YtfamnloobmdhdaaDoor
open Go Go.RowKit
set_option maxRecDepth 20000

end Go.Proofs.YtfamnloobmdhdaaDoor
namespace Go.Proofs.YtfamnloobmdhdaaDoor
open Go Go.RowKit
set_option maxRecDepth 20000

theorem qlH {W : World} {ops : Array Oper} {Q : Act → Prop} {rest : List Oper} {o : Oper} {a : Act} (hw : Region.wanted o (yielded ops a.tmps) = true) (x : Operand) (ho : o.op = .load 37 x)
    (g : Nat) (hx : a.eval x = .pointer (some ⟨g, 0, none⟩)) (L : List Int) (hg : W.heap[g]? = some (.cells (hv L) 37 (0, 0))) (hL : L.length = 13)
    (h : wpQuiet Tryd.prog ops (fun w' => ∃ u : Later W, w' = u.world) Q rest (a.put o.dst (.agg (hv L)))) : wpQuiet Tryd.prog ops (fun w' => ∃ u : Later W, w' = u.world) Q (o :: rest) a :=
  q_load_row hw 37 x ho g hx 37 (hv L) (0, 0) _ (later_block hg) Tryd.underlying37 rfl (size26 L hL) h
theorem Calls.later_same {P : Program} {f : FuncId} {args : Array Value} {W : World} {u : Later W} {v : Value}
    (h : Calls P f args u.world fun e w' => e = .returned v ∧ w' = u.world) : Calls P f args u.world fun e w'' => e = .returned v ∧ ∃ u' : Later W, w'' = u'.world :=
  h.mono fun _ _ ⟨he, hb⟩ => ⟨he, u, hb⟩

def atOf (f : Int) : Nat := (firstOf f / 8).toNat
def sizeOfF (f : Int) : Nat := (widthOf f / 8).toNat
theorem place_facts (f : Int) (h0 : 0 ≤ f) (h1 : f < 5) : firstOf f = 8 * (atOf f : Int) ∧ widthOf f = 8 * (sizeOfF f : Int) ∧ atOf f + sizeOfF f ≤ 13 ∧ sizeOfF f ≤ 4 ∧ 1 ≤ sizeOfF f := by
  rcases (show f = 0 ∨ f = 1 ∨ f = 2 ∨ f = 3 ∨ f = 4 by omega) with h | h | h | h | h <;> subst h <;> decide
theorem place_at (f : Int) (h0 : 0 ≤ f) (h1 : f < 5) : ∀ W, Places W → Calls Tryd.prog 80 #[.int .i64 f] W fun e w' => e = .returned (.tuple #[.int .i64 (8 * (atOf f : Int)), .int .i64 (8 * (sizeOfF f : Int)), .int .i64 0]) ∧ Below W.heap.size W w' := fun W hP => by
  have h := place_in f W h0 h1 hP
  rw [(place_facts f h0 h1).1, (place_facts f h0 h1).2.1] at h
  exact h
set_option maxHeartbeats 1000000 in
theorem field_core (L : List Int) (hL : Byt L) (f : Int) (at0 size : Nat) (w : World) (hs : at0 + size ≤ 13) (hs4 : size ≤ 4) (hP : Places w)
    (hpl : ∀ W, Places W → Calls Tryd.prog 80 #[.int .i64 f] W fun e w' => e = .returned (.tuple #[.int .i64 (8 * (at0 : Int)), .int .i64 (8 * (size : Int)), .int .i64 0]) ∧ Below W.heap.size W w') :
    Calls Tryd.prog 57 #[.agg (hv L), .int .i64 f] w fun e w' => e = .returned (.tuple #[.int .u32 (getN L at0 size), .int .i64 0]) ∧ Below w.heap.size w w' := by
  have hl := hL.1
  have hp := hP.pos
  have HP : Hid (∀ W, Places W → Calls Tryd.prog 80 #[.int .i64 f] W fun e w' => e = .returned (.tuple #[.int .i64 (8 * (at0 : Int)), .int .i64 (8 * (size : Int)), .int .i64 0]) ∧ Below W.heap.size W w') := hpl
  clear hpl
  go_enter Tryd.func57, Tryd.ntmps57
  go_wp2_with fail
  refine (HP.out _ (hP.later hp ((Below.refl _ _).alloc (Nat.le_refl _) _))).mono ?_
  clear HP
  rintro e w1 ⟨rfl, hb1⟩
  have g1 : w1.heap[w.heap.size]? = some (.cells (hv L) 37 (0, 0)) := by rw [hb1.block _ (by simp)]; exact heap_new _ _ _ rfl
  have hB1 : Below w.heap.size w w1 := ((Below.refl _ _).alloc (Nat.le_refl _) _).trans (hb1.mono (by simp))
  clear hP hb1
  go_wp2_with (refine wl_load26 rfl _ rfl w.heap.size rfl L g1 hl ?_)
  refine (get_any L hL at0 size w1 hs hs4).mono ?_
  rintro e w2 ⟨rfl, rfl⟩
  go_wp2_with fail
  go_ret2
  exact ⟨rfl, hB1.alloc hB1.size _⟩
theorem field_ok (L : List Int) (hL : Byt L) (f : Int) (w : World) (h0 : 0 ≤ f) (h1 : f < 5) (hP : Places w) :
    Calls Tryd.prog 57 #[.agg (hv L), .int .i64 f] w fun e w' => e = .returned (.tuple #[.int .u32 (getN L (atOf f) (sizeOfF f)), .int .i64 0]) ∧ Below w.heap.size w w' := by
  obtain ⟨_, _, a1, a2, _⟩ := place_facts f h0 h1
  exact field_core L hL f (atOf f) (sizeOfF f) w a1 a2 hP (place_at f h0 h1)
end Go.Proofs.YtfamnloobmdhdaaDoor
namespace Go.Proofs.YtfamnloobmdhdaaDoor
open Go
set_option maxRecDepth 20000

/-- The best so far with one entry more. -/
def stepB (ap : Ent → Bool) (b : Option (Nat × Int)) (i : Nat) (x : Ent) : Option (Nat × Int) := if !x.dflt && ap x && beats x.prio b then some (i, x.prio) else b
theorem bestGo_snoc (ap : Ent → Bool) (x : Ent) : ∀ (l : List Ent) (i : Nat) (b : Option (Nat × Int)), bestGo ap i b (l ++ [x]) = stepB ap (bestGo ap i b l) (i + l.length) x
  | [], i, b => rfl
  | y :: l, i, b => by
    rw [List.cons_append, bestGo, bestGo, bestGo_snoc ap x l (i + 1)]
    rw [show i + 1 + l.length = i + (y :: l).length by simp; omega]
theorem firstD_snoc (x : Ent) : ∀ (l : List Ent) (i : Nat), firstD i (l ++ [x]) = (firstD i l).or (if x.dflt then some (i + l.length) else none)
  | [], i => by simp [firstD]
  | y :: l, i => by
    rw [List.cons_append, firstD, firstD]
    split
    · rfl
    · rw [firstD_snoc x l (i + 1), show i + 1 + l.length = i + (y :: l).length by simp; omega]
def bestK (ap : Ent → Bool) (l : List Ent) (k : Nat) : Option (Nat × Int) := bestGo ap 0 none (l.take k)
def restK (l : List Ent) (k : Nat) : Option Nat := firstD 0 (l.take k)
theorem bestK_next (ap : Ent → Bool) {l : List Ent} {k : Nat} {x : Ent} (h : l[k]? = some x) : bestK ap l (k + 1) = stepB ap (bestK ap l k) k x := by
  obtain ⟨hk, rfl⟩ := List.getElem?_eq_some_iff.1 h
  unfold bestK
  rw [List.take_succ_eq_append_getElem hk, bestGo_snoc, List.length_take, Nat.min_eq_left (Nat.le_of_lt hk), Nat.zero_add]
theorem restK_next {l : List Ent} {k : Nat} {x : Ent} (h : l[k]? = some x) : restK l (k + 1) = (restK l k).or (if x.dflt then some k else none) := by
  obtain ⟨hk, rfl⟩ := List.getElem?_eq_some_iff.1 h
  unfold restK
  rw [List.take_succ_eq_append_getElem hk, firstD_snoc, List.length_take, Nat.min_eq_left (Nat.le_of_lt hk), Nat.zero_add]
theorem bestK_in (ap : Ent → Bool) {l : List Ent} {k j : Nat} {p : Int} (h : bestK ap l k = some (j, p)) : ∃ x, l[j]? = some x ∧ x.prio = p ∧ x.dflt = false ∧ ap x = true ∧ j < k := by
  unfold bestK at h
  obtain ⟨x, h1, h2, h3, h4⟩ := bestGo_in ap (l.take k) (l.take k) 0 none (fun k => by rw [Nat.zero_add]) (fun j p hjp => by cases hjp) j p h
  have hj : j < k := by
    have := (List.getElem?_eq_some_iff.1 h1).1
    rw [List.length_take] at this
    omega
  rw [List.getElem?_take_of_lt hj] at h1
  exact ⟨x, h1, h2, h3, h4, hj⟩
/-- A place, or -1. -/
def atW : Option Nat → Int
  | none => -1
  | some i => (i : Int)
def bestI (b : Option (Nat × Int)) : Int := atW (b.map (·.1))
def whichI (ap : Ent → Bool) (l : List Ent) : Int := atW (whichT ap l)
theorem whichI_eq (ap : Ent → Bool) (l : List Ent) : whichI ap l = if bestI (bestK ap l l.length) < 0 then atW (restK l l.length) else bestI (bestK ap l l.length) := by
  unfold whichI whichT bestK restK
  rw [List.take_length]
  cases bestGo ap 0 none l with
  | none => rfl
  | some b =>
    obtain ⟨i, p⟩ := b
    rw [if_neg (by show ¬ ((i : Int) < 0); omega)]
    rfl
theorem firstD_lt : ∀ (l : List Ent) (i j : Nat), firstD i l = some j → i ≤ j ∧ ∃ x, l[j - i]? = some x ∧ x.dflt = true
  | [], i, j, h => by simp [firstD] at h
  | y :: l, i, j, h => by
    rw [firstD] at h
    split at h
    · rename_i hy
      obtain rfl := Option.some.inj h
      exact ⟨Nat.le_refl _, y, by rw [Nat.sub_self]; rfl, hy⟩
    · obtain ⟨h1, x, h2, h3⟩ := firstD_lt l (i + 1) j h
      refine ⟨by omega, x, ?_, h3⟩
      rw [show j - i = (j - (i + 1)) + 1 by omega, List.getElem?_cons_succ]
      exact h2
theorem whichT_in {ap : Ent → Bool} {l : List Ent} {i : Nat} (h : whichT ap l = some i) : ∃ x, l[i]? = some x := by
  unfold whichT at h
  cases hb : bestGo ap 0 none l with
  | none =>
    rw [hb] at h
    obtain ⟨_, x, h2, _⟩ := firstD_lt l 0 i h
    exact ⟨x, h2⟩
  | some b =>
    obtain ⟨j, p⟩ := b
    rw [hb] at h
    obtain rfl := Option.some.inj h
    obtain ⟨x, h1, _⟩ := bestGo_in ap l l 0 none (fun k => by rw [Nat.zero_add]) (fun j p hjp => by cases hjp) _ _ hb
    exact ⟨x, h1⟩
/-- What a list says. -/
def saysT (ap : Ent → Bool) (l : List Ent) : Int × Bool := match whichT ap l with
  | none => (0, false)
  | some i => ((l.getD i ⟨false, 0, 0, 0, 0, 0, 0, 0, 0, 0, 0, 0⟩).action, true)
/-! First bits. -/
def clB (n : Int) : Nat := (min (max n 0) 32).toNat
def beginsM (a b n : Int) : Bool := a / 2 ^ (32 - clB n) == b / 2 ^ (32 - clB n)
end Go.Proofs.YtfamnloobmdhdaaDoor
namespace Go.Proofs.YtfamnloobmdhdaaDoor
open Go Go.RowKit
set_option maxRecDepth 20000

theorem u32_xor7 (a b : Nat) (ha : a < 4294967296) (hb : b < 4294967296) : bits .xor .u32 (a : Int) (b : Int) = ((a ^^^ b : Nat) : Int) := by
  have hx : a ^^^ b < 2 ^ 32 := Nat.xor_lt_two_pow (by omega) (by omega)
  have ha' : a % 2 ^ IntKind.u32.bits = a := Nat.mod_eq_of_lt (by simpa [IntKind.bits] using ha)
  have hb' : b % 2 ^ IntKind.u32.bits = b := Nat.mod_eq_of_lt (by simpa [IntKind.bits] using hb)
  simp only [bits, BitVec.ofInt_natCast, BitVec.toNat_xor, BitVec.toNat_ofNat, ha', hb', IntKind.wrap_u32]
  omega
theorem xor_begins (a b : Int) (k : Nat) (ha : 0 ≤ a ∧ a < 4294967296) (hb : 0 ≤ b ∧ b < 4294967296) : (bits .xor .u32 a b / 2 ^ k == 0) = (a / 2 ^ k == b / 2 ^ k) := by
  obtain ⟨m, rfl⟩ := Int.eq_ofNat_of_zero_le ha.1
  obtain ⟨n, rfl⟩ := Int.eq_ofNat_of_zero_le hb.1
  rw [u32_xor7 m n (by omega) (by omega)]
  have c : ∀ x : Nat, ((x : Int) / 2 ^ k) = ((x >>> k : Nat) : Int) := fun x => by rw [Nat.shiftRight_eq_div_pow]; simp
  rw [c, c, c, Nat.shiftRight_xor_distrib, Bool.eq_iff_iff, beq_iff_eq, beq_iff_eq]
  constructor
  · intro h
    have : (m >>> k) ^^^ (n >>> k) = 0 := by exact_mod_cast h
    have h2 : ((m >>> k) ^^^ (n >>> k)) ^^^ (n >>> k) = 0 ^^^ (n >>> k) := by rw [this]
    rw [Nat.xor_assoc, Nat.xor_self, Nat.xor_zero, Nat.zero_xor] at h2
    rw [h2]
  · intro h
    have : m >>> k = n >>> k := by exact_mod_cast h
    rw [this, Nat.xor_self]; rfl
theorem xor_bd (a b : Int) (ha : 0 ≤ a ∧ a < 4294967296) (hb : 0 ≤ b ∧ b < 4294967296) : 0 ≤ bits .xor .u32 a b ∧ bits .xor .u32 a b < 4294967296 := by
  obtain ⟨m, rfl⟩ := Int.eq_ofNat_of_zero_le ha.1
  obtain ⟨n, rfl⟩ := Int.eq_ofNat_of_zero_le hb.1
  rw [u32_xor7 m n (by omega) (by omega)]
  have hx : m ^^^ n < 2 ^ 32 := Nat.xor_lt_two_pow (by omega) (by omega)
  omega

set_option maxHeartbeats 2000000 in
theorem begins7_any (a b n : Int) (ha : 0 ≤ a ∧ a < 4294967296) (hb : 0 ≤ b ∧ b < 4294967296) (w : World) :
    Calls Tryd.prog 32 #[.int .u32 a, .int .u32 b, .int .i64 n] w fun e w' => e = .returned (.bool (beginsM a b n)) ∧ w' = w := by
  have HX : Hid (∀ k, (bits .xor .u32 a b / 2 ^ k == 0) = (a / 2 ^ k == b / 2 ^ k)) := fun k => xor_begins a b k ha hb
  have hx := xor_bd a b ha hb
  by_cases h0 : n < 0
  · have e : clB n = 0 := by unfold clB; omega
    have HB : Hid (beginsM a b n = (bits .xor .u32 a b / 2 ^ 32 == 0)) := by show _ = _; unfold beginsM; rw [e, HX.out]
    clear e
    go_enter Tryd.func32, Tryd.ntmps32
    go_wp2_with fail
    go_ret
    rw [HB.out]
    exact ⟨rfl, rfl⟩
  · by_cases h1 : n ≤ 32
    · have e : 32 - clB n = (32 - n).toNat := by unfold clB; omega
      have HB : Hid (beginsM a b n = (bits .xor .u32 a b / 2 ^ (32 - n).toNat == 0)) := by show _ = _; unfold beginsM; rw [e, HX.out]
      clear e
      have h0' : 0 ≤ n := by omega
      clear h0
      go_enter Tryd.func32, Tryd.ntmps32
      go_wp2_with fail
      go_ret
      rw [HB.out]
      exact ⟨rfl, rfl⟩
    · have e : 32 - clB n = 0 := by unfold clB; omega
      have HB : Hid (beginsM a b n = (bits .xor .u32 a b == 0)) := by show _ = _; unfold beginsM; rw [e, ← HX.out 0, Int.pow_zero, Int.ediv_one]
      clear e
      have h1' : 32 < n := by omega
      have h0' : 0 ≤ n := by omega
      clear h0 h1
      go_enter Tryd.func32, Tryd.ntmps32
      go_wp2_with fail
      go_ret
      rw [HB.out]
      exact ⟨rfl, rfl⟩

set_option maxHeartbeats 2000000 in
theorem within_any (v lo hi : Int) (hv : 0 ≤ v ∧ v < 4294967296) (w : World) :
    Calls Tryd.prog 34 #[.int .u32 v, .int .i64 lo, .int .i64 hi] w fun e w' => e = .returned (.bool (decide (lo ≤ v) && decide (v ≤ hi))) ∧ w' = w := by
  obtain ⟨h1, h2⟩ := hv
  by_cases h3 : lo ≤ v
  · by_cases h4 : v ≤ hi
    · rw [decide_eq_true h3, decide_eq_true h4]
      go_enter Tryd.func34, Tryd.ntmps34
      go_wp2_with fail
      go_ret
      exact ⟨rfl, rfl⟩
    · rw [decide_eq_true h3, decide_eq_false h4]
      go_enter Tryd.func34, Tryd.ntmps34
      go_wp2_with fail
      go_ret
      exact ⟨rfl, rfl⟩
  · rw [decide_eq_false h3]
    go_enter Tryd.func34, Tryd.ntmps34
    go_wp2_with fail
    go_ret
    exact ⟨rfl, rfl⟩
/-- A field's number. -/
def fldN (L : List Int) (f : Int) : Int := getN L (atOf f) (sizeOfF f)
theorem fldN_bd (L : List Int) (hL : Byt L) (f : Int) (h0 : 0 ≤ f) (h1 : f < 5) : 0 ≤ fldN L f ∧ fldN L f < 4294967296 := by
  have h := getN_bd L hL (atOf f) (sizeOfF f)
  have hs := (place_facts f h0 h1).2.2.2.1
  have : (256 : Int) ^ sizeOfF f ≤ 4294967296 := by
    rcases (show sizeOfF f = 0 ∨ sizeOfF f = 1 ∨ sizeOfF f = 2 ∨ sizeOfF f = 3 ∨ sizeOfF f = 4 by omega) with h | h | h | h | h <;> rw [h] <;> decide
  unfold fldN
  omega
set_option maxHeartbeats 2000000 in
theorem field7_any (L : List Int) (hL : Byt L) (f : Int) (h0 : 0 ≤ f) (h1 : f < 5) (w : World) (hP : Places w) :
    Calls Tryd.prog 33 #[.agg (hv L), .int .i64 f] w fun e w' => e = .returned (.int .u32 (fldN L f)) ∧ Below w.heap.size w w' := by
  have hl := hL.1
  have hp := hP.pos
  have FC : Hid (∀ W, Places W → Calls Tryd.prog 57 #[.agg (hv L), .int .i64 f] W fun e w' => e = .returned (.tuple #[.int .u32 (fldN L f), .int .i64 0]) ∧ Below W.heap.size W w') := fun W hW => field_ok L hL f W h0 h1 hW
  have KN : Hid ((w.alloc (.cells (hv L) 37)).heap[w.heap.size]? = some (.cells (hv L) 37 (0, 0)) ∧ Places (w.alloc (.cells (hv L) 37)) ∧ Below w.heap.size w (w.alloc (.cells (hv L) 37))) := ⟨heap_new _ _ _ rfl, hP.later hp ((Below.refl _ _).alloc (Nat.le_refl _) _), (Below.refl _ _).alloc (Nat.le_refl _) _⟩
  clear hP hp
  go_enter Tryd.func33, Tryd.ntmps33
  go_wp2_with (refine wl_load26 rfl _ rfl w.heap.size rfl L KN.out.1 hl ?_)
  refine (FC.out _ KN.out.2.1).mono ?_
  rintro e w1 ⟨rfl, hb1⟩
  go_wp2_with fail
  go_ret
  exact ⟨rfl, KN.out.2.2.trans (hb1.mono KN.out.2.2.size)⟩
end Go.Proofs.YtfamnloobmdhdaaDoor
