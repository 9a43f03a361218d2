import Derived.Test.YtnbklmmampdbfaaDoorJ6
import Derived.Test.YtnbklmmampdbfaaDoorJ1
import Derived.Test.YtnbklmmampdbfaaDoorJ2
import Derived.Shelf.Strconv.Clone
import Derived.WalkMore
import Derived.Defers
import Derived.Recover
import Derived.Test.YtnbklmmampdbfaaDoorJ4
namespace Go.Proofs.YtnbklmmampdbfaaDoor
open Go Go.RowKit
set_option maxRecDepth 20000

def okW (x : List UInt8) : Bool := isAddrW x || isPortW x || x == wProto
/-- A clause, whatever its word. -/
def clauT (E : Nat) (t : Tok) (T : List Tok) : Res (Cla × List Tok) := if isAddrW t.text then addrC E t T else if isPortW t.text then portC6 E t T else if t.text == wProto then protC E t T else .error (8, t.pos)

set_option maxHeartbeats 4000000 in
theorem clause_other (W0 w : World) (g E : Nat) (t : Tok) (ht : okW t.text = false) :
    Calls Tryd.prog 84 #[.pointer (some ⟨g, 0, none⟩), .agg (encT t)] w fun e w' => Took W0 w g E (ClaR w.heap.size) (.error (8, t.pos)) e w' := by
  unfold okW isAddrW isPortW at ht
  simp only [Bool.or_eq_false_iff] at ht
  have e0 : (t.text == [115, 114, 99]) = false := ht.1.1.1
  have e1 : (t.text == [100, 115, 116]) = false := ht.1.1.2
  have e2 : (t.text == [115, 112, 111, 114, 116]) = false := ht.1.2.1
  have e3 : (t.text == [100, 112, 111, 114, 116]) = false := ht.1.2.2
  have e4 : (t.text == [112, 114, 111, 116, 111]) = false := ht.2
  have q1 := fun x => tok_cells (heap_past _ x _ _ (heap_new w (.cells (encT t) 88) _ rfl))
  have q2 := fun x y => tok_cells (heap_past _ y _ _ (heap_past _ x _ _ (heap_new w (.cells (encT t) 88) _ rfl)))
  have t1 := fun x => (q1 x).2.1
  have t2 := fun x => (q1 x).2.2.1
  have t5 := fun x y => (q2 x y).2.1
  have t6 := fun x y => (q2 x y).2.2.1
  clear q1 q2 ht
  go_enter Tryd.func84, Tryd.ntmps84
  go_wp2_with (first
    | (refine wl_storeE (E := ClaE) ClaOk rfl _ _ rfl (w.heap.size + 2) (claV ⟨t.text, (t.pos : Int), [], false, false⟩ (.slice none 0 0)) (cla_fits _ _ ⟨_, _, _, rfl⟩) rfl rfl _ (heap_new _ _ _ (by simp)) rfl _ (setRow_new _ _ _ _ _ (by simp)) ?_))
  exact ⟨rfl, gb_alloc (gb_alloc (gb_alloc (gb_refl w g) _) _) _, rfl⟩
theorem clause_any (W0 w : World) (g E : Nat) (t : Tok) (T : List Tok) (h : Rd W0 w g E T) :
    Calls Tryd.prog 84 #[.pointer (some ⟨g, 0, none⟩), .agg (encT t)] w fun e w' => Took W0 w g E (ClaR w.heap.size) (clauT E t T) e w' := by
  unfold clauT
  by_cases h1 : t.text = wSrc
  · rw [if_pos (by rw [h1]; rfl)]; exact clause_src W0 w g E t h1 T h
  · by_cases h2 : t.text = wDst
    · rw [if_pos (by rw [h2]; rfl)]; exact clause_dst W0 w g E t h2 T h
    · have hA : isAddrW t.text = false := by unfold isAddrW; rw [Bool.or_eq_false_iff, beq_eq_false_iff_ne, beq_eq_false_iff_ne]; exact ⟨h1, h2⟩
      rw [hA, if_neg (by decide)]
      by_cases h3 : t.text = wSport
      · rw [if_pos (by rw [h3]; rfl)]; exact clause_sport W0 w g E t h3 T h
      · by_cases h4 : t.text = wDport
        · rw [if_pos (by rw [h4]; rfl)]; exact clause_dport W0 w g E t h4 T h
        · have hP : isPortW t.text = false := by unfold isPortW; rw [Bool.or_eq_false_iff, beq_eq_false_iff_ne, beq_eq_false_iff_ne]; exact ⟨h3, h4⟩
          rw [hP, if_neg (by decide)]
          by_cases h5 : t.text = wProto
          · rw [if_pos (by rw [h5]; rfl)]; exact clause_proto W0 w g E t h5 T h
          · have hp5 : (t.text == wProto) = false := by rw [beq_eq_false_iff_ne]; exact h5
            rw [hp5, if_neg (by decide)]
            exact clause_other W0 w g E t (by unfold okW; rw [hA, hP, hp5]; rfl)
/-- What the model says of a clause, and what the reader does. -/
theorem takeC_eq (E : Nat) (had : List Cla) (hh : ∀ c ∈ had, okW c.word = true) (t : Tok) (T : List Tok) : takeC E had t T = if had.any (fun c => c.word == t.text) then .error (9, t.pos) else clauT E t T := by
  unfold takeC clauT
  by_cases hb : had.any (fun c => c.word == t.text) = true
  · rw [if_pos hb]
    obtain ⟨c, hc, hw⟩ := List.any_eq_true.1 hb
    have hk : okW t.text = true := by
      have := hh c hc
      rwa [show c.word = t.text by simpa using hw] at this
    rw [if_neg, if_pos hb]
    unfold okW at hk
    intro hn
    simp only [Bool.and_eq_true, Bool.not_eq_true', Bool.or_eq_true] at hn hk
    rcases hk with (hk | hk) | hk
    · rw [hk] at hn; simp at hn
    · rw [hk] at hn; simp at hn
    · rw [hk] at hn; simp at hn
  · rw [if_neg hb, if_neg hb]
    by_cases hA : isAddrW t.text = true
    · rw [if_pos hA, if_neg (by rw [hA]; simp)]
      unfold addrC addrT
      cases hF : takeF E T with
      | error x => rfl
      | ok x =>
        show (if isAddrW t.text = true then _ else _) = _
        rw [if_pos hA]
        show _ = ((takeD E 3 x.2).map fun y => (x.1 :: y.1, y.2)).bind _
        cases hD : takeD E 3 x.2 with
        | error y => rfl
        | ok y => rfl
    · have hA' : isAddrW t.text = false := by simpa using hA
      rw [hA', if_neg (show ¬ (false = true) by decide)]
      by_cases hP : isPortW t.text = true
      · rw [if_pos hP, if_neg (by rw [hP]; simp)]
        unfold portC6
        cases hF : takeF E T with
        | error x => rfl
        | ok x =>
          simp only [Except.bind, Bool.false_eq_true, if_false, hP, if_true]
      · have hP' : isPortW t.text = false := by simpa using hP
        rw [hP', if_neg (show ¬ (false = true) by decide)]
        by_cases hQ : (t.text == wProto) = true
        · rw [if_pos hQ, if_neg (by rw [hQ]; simp)]
          unfold protC
          cases hF : takeF E T with
          | error x => rfl
          | ok x =>
            simp only [Except.bind, Except.map, Bool.false_eq_true, if_false]
        · have hQ' : (t.text == wProto) = false := by simpa using hQ
          rw [hQ', if_neg (show ¬ (false = true) by decide), if_pos (by simp)]
theorem clauT_ok {E : Nat} {t : Tok} {T T' : List Tok} {c : Cla} (h : clauT E t T = .ok (c, T')) : okW c.word = true := by
  unfold clauT at h
  by_cases hA : isAddrW t.text = true
  · rw [if_pos hA] at h
    obtain ⟨y, _, h2⟩ := bind_ok h
    obtain ⟨z, _, h3⟩ := map_ok h2
    cases h3
    unfold okW
    rw [show (Cla.word _) = t.text from rfl, hA]; rfl
  · rw [if_neg hA] at h
    by_cases hP : isPortW t.text = true
    · rw [if_pos hP] at h
      obtain ⟨y, _, h2⟩ := bind_ok h
      obtain ⟨z, _, h3⟩ := map_ok h2
      cases h3
      unfold okW
      rw [show (Cla.word _) = t.text from rfl, hP]; simp
    · rw [if_neg hP] at h
      by_cases hQ : (t.text == wProto) = true
      · rw [if_pos hQ] at h
        obtain ⟨z, _, h3⟩ := map_ok h
        cases h3
        unfold okW
        rw [show (Cla.word _) = t.text from rfl, hQ]; simp
      · rw [if_neg hQ] at h
        cases h
theorem Eats.len {T T' : List Tok} (h : Eats T T') : T'.length ≤ T.length := by
  obtain ⟨A, rfl, _⟩ := h
  simp
/-- How many tokens are left, as memory has it. -/
def restN (w : World) (g : Nat) : Nat := match w.heap[g]? with | some (Obj.cells cs _ _) => (match cs[0]? with | some (Value.slice _ n _) => n | _ => 0) | _ => 0
theorem rest_is {W0 w : World} {g E : Nat} {T : List Tok} (h : Rd W0 w g E T) : restN w g = T.length := by
  obtain ⟨_, _, v, h2, h3⟩ := h
  obtain ⟨o, cap, rfl, _, _⟩ := h3.slice
  unfold restN
  rw [h2]
  rfl
/-- Clauses in memory that are one's own, down to their numbers. -/
def FigsR (B : Nat) (w : World) (c : Cla) (u : Value) : Prop := FigsOwn B w c.nums u
def ClasOwn (B : Nat) (w : World) (C : List Cla) (v : Value) : Prop := NOwn ClaE claV (FigsR B) w B v C
theorem ClasOwn.by {w w' : World} {g B : Nat} (hgr : w.grownBy w' (some g)) (hB : g < B) {C : List Cla} {v : Value} (h : ClasOwn B w C v) : ClasOwn B w' C v := by
  obtain ⟨P, h1, h2, h3⟩ := h
  exact ⟨P, h1, own_by hgr hB h2, fun p hp => own_by hgr hB (h3 p hp)⟩
theorem ClasOwn.below {w w' : World} {B : Nat} (hb : Below w.heap.size w w') {C : List Cla} {v : Value} (h : ClasOwn B w C v) : ClasOwn B w' C v := by
  obtain ⟨P, h1, h2, h3⟩ := h
  exact ⟨P, h1, gown_below h2 hb, fun p hp => gown_below (h3 p hp) hb⟩
theorem figs_slice {B : Nat} {w : World} {c : Cla} {u : Value} (h : FigsR B w c u) : ∃ o n m, u = .slice o n m := by
  obtain ⟨o, cap, e⟩ := gown_slice h
  exact ⟨o, _, cap, e⟩

set_option maxHeartbeats 8000000 in
theorem clauses_any (W0 w : World) (g E : Nat) (T : List Tok) (hTl : T.length ≤ 5000) (h : Rd W0 w g E T) :
    Calls Tryd.prog 66 #[.pointer (some ⟨g, 0, none⟩)] w fun e w' => Took W0 w g E (ClasOwn w.heap.size) (takeCs E T.length [] T) e w' := by
  have CP : Hid (∀ W T, Rd W0 W g E T → Calls Tryd.prog 43 #[.pointer (some ⟨g, 0, none⟩)] W fun e w' => e = .returned (.agg (encT (hd E T))) ∧ Below W.heap.size W w') := fun W T h => peek_any W0 W g E T h
  have CK : Hid (∀ W T, Rd W0 W g E T → Calls Tryd.prog 44 #[.pointer (some ⟨g, 0, none⟩), .int .i64 1] W fun e w' => Took W0 W g E (fun _ t v => v = .agg (encT t)) (takeK E 1 T) e w') := fun W T h => take_any W0 W g E 1 (by decide) T h
  have CC : Hid (∀ W t T, Rd W0 W g E T → Calls Tryd.prog 84 #[.pointer (some ⟨g, 0, none⟩), .agg (encT t)] W fun e w' => Took W0 W g E (ClaR W.heap.size) (clauT E t T) e w') := fun W t T h => clause_any W0 W g E t T h
  have CS : Hid (∀ W v C, ClasOwn w.heap.size W C v → ∀ k t, W.heap[k]? = some (.cells (encT t) 88 (0, 0)) → Calls Tryd.prog 68 #[v, .func (.func 83) #[] #[.pointer (some ⟨k, 0, none⟩)]] W fun e w' => e = .returned (.bool (C.any (fun c => c.word == t.text))) ∧ Below W.heap.size W w') := fun W v C hC k t hk => containsFunc_any (R := FigsR w.heap.size) (fun _ _ _ h => figs_slice h) W v C (NOwn.sl (fun _ _ => rfl) hC) k t hk
  have hmf : ∀ (fn : Fn) (first cap : Array Value) (w : World), (Instr.makeFunc fn first cap).run Tryd.prog w = .ok (.func fn first cap) w := fun _ _ _ _ => rfl
  have hgl := h.size
  have H : Hid (Rd W0 w g E T) := h
  obtain ⟨A, hA⟩ : ∃ A, A = takeCs E T.length [] T := ⟨_, rfl⟩
  rw [← hA]
  have HA0 : Hid (A = takeCs E T.length [] T) := hA
  clear h hA
  go_enter Tryd.func66, Tryd.ntmps66
  go_wp2_with fail
  go_loopw [3] (fun out wr => ∃ (f : Nat) (had : List Cla) (T1 : List Tok), T1.length ≤ f ∧ had.length + T1.length ≤ 5000 ∧ Hid (∀ c ∈ had, okW c.word = true) ∧ Hid (A = takeCs E f had T1) ∧ w.grownBy wr (some g) ∧ Rd W0 wr g E T1 ∧ ClasOwn w.heap.size wr had out) (fun _ wr => restN wr g)
  case atStart => exact ⟨T.length, [], T, Nat.le_refl _, by simpa using hTl, fun c hc => by simp at hc, HA0, gb_refl _ _, H.out, NOwn.nil _ _ _ _ _⟩
  case round =>
    obtain ⟨f, had, T1, hf, hl, HV, HA, hg, R1, hown⟩ := hrel
    have OWN : Hid (ClasOwn w.heap.size wr had u3) := hown
    have HG : Hid (w.grownBy wr (some g)) := hg
    have HR : Hid (Rd W0 wr g E T1) := R1
    clear hown hg R1 HA0
    have hf0 := tok_f0 (hd E T1)
    by_cases hk : (hd E T1).kind = 1
    · obtain ⟨T2, hT2, hK⟩ := takeK_yes (by decide) hk
      have hk' : (((hd E T1).kind : Int) == 1) = true := by simp; omega
      obtain ⟨t, ht⟩ : ∃ t, t = hd E T1 := ⟨_, rfl⟩
      have HT1 : Hid (T1 = t :: T2) := by show _ = _; rw [ht]; exact hT2
      have hl2 : had.length + T2.length + 1 ≤ 5000 := by rw [hT2] at hl; simp at hl; omega
      have hf2 : T2.length + 1 ≤ f := by rw [hT2] at hf; simpa using hf
      obtain ⟨f', rfl⟩ : ∃ f', f = f' + 1 := ⟨f - 1, by omega⟩
      have HA2 : Hid (A = (takeC E had t T2).bind fun x => takeCs E f' (had ++ [x.1]) x.2) := by
        show _ = _
        rw [HA.out, HT1.out, takeCs, if_pos (by rw [ht]; exact hk)]
      have HRest : Hid (restN wr g = T2.length + 1) := by show _ = _; rw [rest_is HR.out, HT1.out]; rfl
      rw [← ht] at hf0 hk' hK
      have HK : Hid (takeK E 1 T1 = .ok (t, T2)) := hK
      clear hk hT2 hK HA hl hf
      go_wp2_with fail
      refine (CP.out _ T1 HR.out).mono ?_
      rw [← ht]
      clear ht
      rintro e w1 ⟨rfl, hb1⟩
      have HR1 : Hid (Rd W0 w1 g E T1) := HR.out.below hb1
      have HG1 : Hid (w.grownBy w1 (some g)) := grown_trans HG.out (grown_below hb1)
      have OWN1 : Hid (ClasOwn w.heap.size w1 had u3) := OWN.out.below hb1
      clear hb1
      go_wp2_with fail
      refine (CK.out _ T1 HR1.out).mono ?_
      rw [HK.out]
      rintro e w2 ⟨hg2, ⟨v, rfl, rfl⟩, R2⟩
      have HG2 : Hid (w.grownBy w2 (some g)) := grown_trans HG1.out hg2
      have OWN2 : Hid (ClasOwn w.heap.size (w2.alloc (.cells (encT t) 88)) had u3) := (OWN1.out.by hg2 hgl.2).below ((Below.refl _ _).alloc (Nat.le_refl _) _)
      have HR2 : Hid (Rd W0 (w2.alloc (.cells (encT t) 88)) g E T2) := R2.alloc _
      have HT : Hid ((w2.alloc (.cells (encT t) 88)).heap[w2.heap.size]? = some (.cells (encT t) 88 (0, 0))) := heap_new _ _ _ rfl
      clear hg2 R2
      go_wp2_with (first
        | (refine wl_storeE (E := TokE) TokOk rfl _ _ rfl w2.heap.size (encT t) (tv_fits _ _ _ _) rfl rfl _ (heap_new _ _ _ rfl) rfl _ (setRow_new _ _ _ _ _ rfl) ?_))
      refine (CS.out _ u3 had OWN2.out w2.heap.size t HT.out).mono ?_
      rintro e w4 ⟨rfl, hb4⟩
      have ht4 : w4.heap[w2.heap.size]? = some (.cells (encT t) 88 (0, 0)) := (hb4.block _ (by simp)).trans HT.out
      obtain ⟨_, t1, _, _⟩ := tok_cells ht4
      have HT4 : Hid (w4.heap[w2.heap.size]? = some (.cells (encT t) 88 (0, 0))) := ht4
      have HG4 : Hid (w.grownBy w4 (some g)) := grown_trans (gb_alloc HG2.out _) (grown_below hb4)
      have OWN4 : Hid (ClasOwn w.heap.size w4 had u3) := OWN2.out.below hb4
      have HR4 : Hid (Rd W0 w4 g E T2) := HR2.out.below hb4
      clear hb4 ht4
      by_cases hd2 : had.any (fun c => c.word == t.text) = true
      · have HA3 : Hid (A = .error (9, t.pos)) := by
          show _ = _
          rw [HA2.out, takeC_eq E had HV.out, if_pos hd2]; rfl
        rw [hd2]
        clear hd2
        go_wp2_with fail
        rw [HA3.out]
        exact ⟨rfl, HG4.out, rfl⟩
      · have HC3 : Hid (takeC E had t T2 = clauT E t T2) := by
          show _ = _
          rw [takeC_eq E had HV.out, if_neg hd2]
        have HA3 : Hid (A = (clauT E t T2).bind fun x => takeCs E f' (had ++ [x.1]) x.2) := by
          show _ = _
          rw [HA2.out, HC3.out]
        have hd3 : had.any (fun c => c.word == t.text) = false := by simpa using hd2
        rw [hd3]
        clear hd2 hd3 t1
        go_wp2_with (first
          | (refine wl_loadE (E := TokE) TokOk rfl _ rfl w2.heap.size 0 rfl _ _ _ (encT t) rfl HT4.out (own_cells _ _) ?_))
        refine (CC.out _ t T2 HR4.out).mono ?_
        cases hC : clauT E t T2 with
        | error x =>
          obtain ⟨c, q⟩ := x
          have HA4 : Hid (A = .error (c, q)) := by show _ = _; rw [HA3.out, hC]; rfl
          clear hC
          rintro e w5 ⟨hg5, rfl⟩
          go_wp2_with fail
          rw [HA4.out]
          exact ⟨rfl, grown_trans HG4.out hg5, rfl⟩
        | ok x =>
          obtain ⟨c, T3⟩ := x
          have HA4 : Hid (A = takeCs E f' (had ++ [c]) T3) := by show _ = _; rw [HA3.out, hC]; rfl
          have hle := (eats_C (HC3.out.trans hC)).len
          have HV4 : Hid (∀ d ∈ had ++ [c], okW d.word = true) := fun d hd => by
            rcases List.mem_append.1 hd with hd | hd
            · exact HV.out d hd
            · rw [List.mem_singleton.1 hd]; exact clauT_ok hC
          clear hC
          rintro e w5 ⟨hg5, ⟨v, rfl, u, rfl, hfig5⟩, R5⟩
          have z4 := HG4.out.size
          have OWN5 : Hid (ClasOwn w.heap.size w5 had u3) := OWN4.out.by hg5 hgl.2
          have HG5 : Hid (w.grownBy w5 (some g)) := grown_trans HG4.out hg5
          have HF5 : Hid (FigsR w.heap.size w5 c u) := gown_base hfig5 z4
          have HR5 : Hid (Rd W0 w5 g E T3) := R5
          obtain ⟨o5, n5, m5, rfl⟩ := figs_slice HF5.out
          clear hg5 hfig5 R5
          go_wp2_with (first
            | (refine wl_buildE (E := ClaE) ClaOk rfl _ rfl (claV c (.slice o5 n5 m5)) rfl rfl ?_)
            | (at_builtin; refine of_stopT ?_))
          unfold StopT
          obtain ⟨P, hP1, hP2, hP3⟩ := OWN5.out
          have HO6 : Hid ((w5.alloc (.cells (claV c (.slice o5 n5 m5)) 100)).ownsRow w.heap.size 100 5 u3 P.length (gcells (fun p : Cla × Value => claV p.1 p.2) P)) := hP2.alloc _
          have hPl : P.length = had.length := by rw [← hP1, List.length_map]
          have z5 := HG5.out.size
          refine wl_appendE (E := ClaE) ClaOk (fun p : Cla × Value => claV p.1 p.2) rfl _ _ rfl w.heap.size _ P (c, .slice o5 n5 m5) (cla_fits _ _ ⟨_, _, _, rfl⟩) rfl HO6.out _ 1 rfl (heap_new _ _ _ rfl) (by omega) (by simp; omega) ?_
          intro v' w6 hown6 hgr6 _
          have apart : ∀ (d : Cla) (x : Value), FigsR w.heap.size w5 d x → FigsR w.heap.size w6 d x := fun d x hx => own_grown hgr6 (hx.alloc _) (own_apart HO6.out (hx.alloc _) (by decide))
          have HOWN6 : Hid (ClasOwn w.heap.size w6 (had ++ [c]) v') := NOwn.snoc hP1 hown6 (fun p hp => apart _ _ (hP3 p hp)) (apart _ _ HF5.out)
          have HG6 : Hid (w.grownBy w6 (some g)) := gb_own (gb_alloc HG5.out _) hgr6 fun k hk => (HO6.out.lt k hk).1
          have HR6 : Hid (Rd W0 w6 g E T3) := rd_own (HR5.out.alloc _) hgr6 fun k hk => Nat.lt_of_lt_of_le hgl.2 (HO6.out.lt k hk).1
          obtain ⟨o6, cap6, rfl⟩ := gown_slice hown6
          clear hown6 hgr6 apart hP1 hP2 hP3 hPl HO6
          simp only [Act.put, List.setIfInBounds_toArray, List.set_cons_succ, List.set_cons_zero]
          go_wp2_with fail
          go_roundw
          case rel => exact ⟨f', had ++ [c], T3, by omega, by simp; omega, HV4, HA4, HG6.out, HR6.out, HOWN6.out⟩
          case measure => rw [HRest.out, rest_is HR6.out]; omega
    · have hk' : (((hd E T1).kind : Int) == 1) = false := by simp; omega
      have HA2 : Hid (A = .ok (had, T1)) := by
        show _ = _
        rw [HA.out]
        cases T1 with
        | nil => cases f <;> rfl
        | cons t T2 =>
          obtain ⟨f', rfl⟩ : ∃ f', f = f' + 1 := ⟨f - 1, by simp at hf; omega⟩
          exact if_neg hk
      clear hk HA
      go_wp2_with fail
      refine (CP.out _ T1 HR.out).mono ?_
      obtain ⟨t, ht⟩ : ∃ t, t = hd E T1 := ⟨_, rfl⟩
      rw [← ht] at hf0 hk' ⊢
      clear ht
      rintro e w1 ⟨rfl, hb1⟩
      go_wp2_with fail
      go_ret
      rw [HA2.out]
      exact ⟨grown_trans HG.out (grown_below hb1), ⟨_, rfl, OWN.out.below hb1⟩, HR.out.below hb1⟩
end Go.Proofs.YtnbklmmampdbfaaDoor
namespace Go.Proofs.YtnbklmmampdbfaaDoor
open Go Go.RowKit
set_option maxRecDepth 20000

/-- A line up to what ends it. -/
def lineT (E : Nat) (T : List Tok) : Res (Raw × List Tok) :=
  (takeH E T).bind fun x => (takeK E 6 x.2).bind fun y => (takeA E y.2).map fun z => (⟨(posOf E T : Int), x.1.1, x.1.2.1, x.1.2.2, z.1.1, z.1.2⟩, z.2)
theorem takeR_line (E : Nat) (T : List Tok) : takeR E T = (lineT E T).bind fun x => (takeE x.2).map fun u => (x.1, u) := by
  unfold takeR lineT
  cases takeH E T with
  | error x => rfl
  | ok x =>
    show (takeK E 6 x.2).bind _ = ((takeK E 6 x.2).bind _).bind _
    cases takeK E 6 x.2 with
    | error y => rfl
    | ok y =>
      show (takeA E y.2).bind _ = ((takeA E y.2).map _).bind _
      cases takeA E y.2 with
      | error z => rfl
      | ok z => rfl
def RawR (B : Nat) (w : World) (x : Raw) (v : Value) : Prop := ∃ u, v = .agg (rawV x u) ∧ ClasOwn B w x.clauses u
theorem raw_fits (x : Raw) (u : Value) (hu : ∃ o n k, u = .slice o n k) : Fits RawE (rawV x u) := by
  obtain ⟨o, n, k, rfl⟩ := hu
  exact ⟨rfl, by simp [rawV, Value.oneCell']⟩
theorem store_fig (W : World) (p off : Nat) (cs : Array Value) (ty : TypeId) (hp : W.heap[p]? = some (.cells cs ty (0, 0))) (ho : off + 2 ≤ cs.size) (f : Fig) :
    (storeCells ⟨p, off, none⟩ (figV f).toList).run Tryd.prog W = .ok () ((W.setCell ⟨p, off, none⟩ (.int .i64 f.n)).setCell ⟨p, off + 1, none⟩ (.int .i64 f.pos)) := by
  obtain ⟨x, hx⟩ : ∃ x, W.cell? ⟨p, off, none⟩ = some x := ⟨cs[off], by rw [cell_of_row _ _ _ _ _ _ hp, Array.getElem?_eq_getElem (by omega)]⟩
  have hz : W.frozen? ⟨p, off, none⟩ = false := tc_frozen hp rfl
  have hp2 := tc_row (k := off) hp (.int .i64 f.n)
  obtain ⟨y, hy⟩ : ∃ y, (W.setCell ⟨p, off, none⟩ (.int .i64 f.n)).cell? ⟨p, off + 1, none⟩ = some y := ⟨_, by rw [cell_of_row _ _ _ _ _ _ hp2, Array.getElem?_setIfInBounds_ne (by omega), Array.getElem?_eq_getElem (by omega)]⟩
  have hz2 : (W.setCell ⟨p, off, none⟩ (.int .i64 f.n)).frozen? ⟨p, off + 1, none⟩ = false := tc_frozen hp2 rfl
  simp [figV, go_sem, hx, hz, hy, hz2]
theorem clas_set {w : World} {B : Nat} {C : List Cla} {v : Value} (h : ClasOwn B w C v) {p i : Nat} {cs : Array Value} {fr : Nat × Nat} (hp : w.heap[p]? = some (.cells cs 70 fr)) (y : Value) : ClasOwn B (w.setCell ⟨p, i, none⟩ y) C v := by
  obtain ⟨P, h1, h2, h3⟩ := h
  exact ⟨P, h1, own_set h2 hp (by decide) y, fun q hq => own_set (h3 q hq) hp (by decide) y⟩
theorem clas_setRow {w : World} {B : Nat} {C : List Cla} {v : Value} (h : ClasOwn B w C v) {p : Nat} {cs : Array Value} {fr : Nat × Nat} (hp : w.heap[p]? = some (.cells cs 70 fr)) (ys : Array Value) : ClasOwn B (w.setRow p ys) C v := by
  obtain ⟨P, h1, h2, h3⟩ := h
  exact ⟨P, h1, own_setRow6 h2 hp (by decide) ys, fun q hq => own_setRow6 (h3 q hq) hp (by decide) ys⟩
theorem clas_base {w : World} {B B' : Nat} {C : List Cla} {v : Value} (h : ClasOwn B w C v) (hB : B' ≤ B) : ClasOwn B' w C v := by
  obtain ⟨P, h1, h2, h3⟩ := h
  exact ⟨P, h1, gown_base h2 hB, fun q hq => gown_base (h3 q hq) hB⟩
theorem clas_slice {w : World} {B : Nat} {C : List Cla} {v : Value} (h : ClasOwn B w C v) : ∃ o n m, v = .slice o n m := by
  obtain ⟨P, _, h2, _⟩ := h
  obtain ⟨o, cap, e⟩ := gown_slice h2
  exact ⟨o, _, cap, e⟩
theorem clas_nil (w : World) (B : Nat) : ClasOwn B w [] (.slice none 0 0) := NOwn.nil _ _ _ _ _

set_option maxHeartbeats 8000000 in
set_option maxRecDepth 10000 in
theorem line_any (W0 w : World) (g E : Nat) (t : Tok) (T : List Tok) (hTl : (t :: T).length ≤ 5000) (hw : t.text = wDefault → t.kind = 1) (h : Rd W0 w g E (t :: T)) :
    Calls Tryd.prog 45 #[.pointer (some ⟨g, 0, none⟩)] w fun e w' => Took W0 w g E (RawR w.heap.size) (lineT E (t :: T)) e w' := by
  have CP : Hid (∀ W T, Rd W0 W g E T → Calls Tryd.prog 43 #[.pointer (some ⟨g, 0, none⟩)] W fun e w' => e = .returned (.agg (encT (hd E T))) ∧ Below W.heap.size W w') := fun W T h => peek_any W0 W g E T h
  have CF : Hid (∀ W T, Rd W0 W g E T → Calls Tryd.prog 65 #[.pointer (some ⟨g, 0, none⟩)] W fun e w' => Took W0 W g E (fun _ f v => v = .agg (figV f)) (takeF E T) e w') := fun W T h => figure_any W0 W g E T h
  have CK1 : Hid (∀ W T, Rd W0 W g E T → Calls Tryd.prog 44 #[.pointer (some ⟨g, 0, none⟩), .int .i64 1] W fun e w' => Took W0 W g E (fun _ t v => v = .agg (encT t)) (takeK E 1 T) e w') := fun W T h => take_any W0 W g E 1 (by decide) T h
  have CK6 : Hid (∀ W T, Rd W0 W g E T → Calls Tryd.prog 44 #[.pointer (some ⟨g, 0, none⟩), .int .i64 6] W fun e w' => Took W0 W g E (fun _ t v => v = .agg (encT t)) (takeK E 6 T) e w') := fun W T h => take_any W0 W g E 6 (by decide) T h
  have CC : Hid (∀ W T, T.length ≤ 5000 → Rd W0 W g E T → Calls Tryd.prog 66 #[.pointer (some ⟨g, 0, none⟩)] W fun e w' => Took W0 W g E (ClasOwn W.heap.size) (takeCs E T.length [] T) e w') := fun W T hl h => clauses_any W0 W g E T hl h
  have CA : Hid (∀ W T, Rd W0 W g E T → Calls Tryd.prog 67 #[.pointer (some ⟨g, 0, none⟩)] W fun e w' => Took W0 W g E (fun _ a v => ActV v a) (takeA E T) e w') := fun W T h => action_any W0 W g E T h
  have hgl := h.size
  have H : Hid (Rd W0 w g E (t :: T)) := h
  obtain ⟨A, hA⟩ : ∃ A, A = lineT E (t :: T) := ⟨_, rfl⟩
  rw [← hA]
  unfold lineT at hA
  have hwT : posOf E (t :: T) = t.pos := rfl
  rw [hwT] at hA
  clear h hwT
  go_enter Tryd.func45, Tryd.ntmps45
  go_wp2_with fail
  refine (CP.out _ (t :: T) (H.out.alloc _)).mono ?_
  rintro e w1 ⟨rfl, hb1⟩
  have B1 : Below w.heap.size w w1 := ((Below.refl _ _).alloc (Nat.le_refl _) _).trans (hb1.mono (by simp))
  have z1 : w.heap.size < w1.heap.size := by have := hb1.size; simp at this; omega
  have r0 : w1.heap[w.heap.size]? = some (.cells (rawV ⟨0, false, ⟨0, 0⟩, [], false, ⟨0, 0⟩⟩ (.slice none 0 0)) 70 (0, 0)) := (hb1.block _ (by simp)).trans (heap_new _ _ _ rfl)
  have HR1 : Hid (Rd W0 w1 g E (t :: T)) := H.out.below B1
  have HG1 : Hid (w.grownBy w1 (some g)) := grown_below B1
  have HR0 : Hid (w1.heap[w.heap.size]? = some (.cells (rawV ⟨0, false, ⟨0, 0⟩, [], false, ⟨0, 0⟩⟩ (.slice none 0 0)) 70 (0, 0))) := r0
  have q1 := tok_cells (heap_new w1 (.cells (encT t) 88) _ rfl)
  have q2 := fun x => tok_cells (heap_past _ x _ _ (heap_new w1 (.cells (encT t) 88) _ rfl))
  have t1 := q1.2.1
  have t2 := fun x => (q2 x).2.2.1
  clear q1 q2 hb1 B1 r0
  have hhd : hd E (t :: T) = t := rfl
  rw [hhd]
  clear hhd
  have LN : Hid (((w1.alloc (.cells (encT t) 88)).alloc (.cells (rawV ⟨(t.pos : Int), false, ⟨0, 0⟩, [], false, ⟨0, 0⟩⟩ (.slice none 0 0)) 70)).heap[w1.heap.size + 1]? = some (.cells (rawV ⟨(t.pos : Int), false, ⟨0, 0⟩, [], false, ⟨0, 0⟩⟩ (.slice none 0 0)) 70 (0, 0))) := heap_new _ _ _ (by simp)
  by_cases hd : t.text = wDefault
  · have e1 : (t.text == [100, 101, 102, 97, 117, 108, 116]) = true := by rw [hd]; rfl
    have hH : takeH E (t :: T) = .ok ((true, ⟨0, 0⟩, []), T) := if_pos ⟨hw hd, hd⟩
    have hK1 : takeK E 1 (t :: T) = .ok (t, T) := if_pos (hw hd)
    rw [hH] at hA
    have HA : Hid (A = (takeK E 6 T).bind fun y => (takeA E y.2).map fun z => (⟨(t.pos : Int), true, ⟨0, 0⟩, [], z.1.1, z.1.2⟩, z.2)) := hA
    clear hA hH hd hw
    go_wp2_with (first
      | (refine wl_storeE (E := TokE) TokOk rfl _ _ rfl w1.heap.size (encT t) (tv_fits _ _ _ _) rfl rfl _ (heap_new _ _ _ rfl) rfl _ (setRow_new _ _ _ _ _ rfl) ?_)
      | (refine wl_storeE (E := RawE) RawOk rfl _ _ rfl (w1.heap.size + 1) (rawV ⟨(t.pos : Int), false, ⟨0, 0⟩, [], false, ⟨0, 0⟩⟩ (.slice none 0 0)) (raw_fits _ _ ⟨_, _, _, rfl⟩) rfl rfl _ (heap_new _ _ _ (by simp)) rfl _ (setRow_new _ _ _ _ _ (by simp)) ?_))
    refine (CK1.out _ (t :: T) ((HR1.out.alloc _).alloc _)).mono ?_
    rw [hK1]
    clear hK1
    rintro e w2 ⟨hg2, ⟨v, rfl, rfl⟩, R2⟩
    have z2 : w1.heap.size + 2 ≤ w2.heap.size := by have := hg2.size; simp at this; omega
    have rP2 : w2.heap[w1.heap.size + 1]? = some (.cells (rawV ⟨(t.pos : Int), false, ⟨0, 0⟩, [], false, ⟨0, 0⟩⟩ (.slice none 0 0)) 70 (0, 0)) := (hg2.block _ (by simp) (by simp; omega)).trans LN.out
    have r02 : w2.heap[w.heap.size]? = some (.cells (rawV ⟨0, false, ⟨0, 0⟩, [], false, ⟨0, 0⟩⟩ (.slice none 0 0)) 70 (0, 0)) := (hg2.block _ (by simp; omega) (by simp; omega)).trans (heap_past _ _ _ _ (heap_past _ _ _ _ HR0.out))
    have c1 : w2.cell? ⟨w1.heap.size + 1, 1, none⟩ = some (.bool false) := by rw [cell_of_row _ _ _ _ _ _ rP2]; rfl
    have f1 : w2.frozen? ⟨w1.heap.size + 1, 1, none⟩ = false := tc_frozen rP2 rfl
    have K3 : Hid (Rd W0 (w2.setCell ⟨w1.heap.size + 1, 1, none⟩ (.bool true)) g E T ∧ w.grownBy (w2.setCell ⟨w1.heap.size + 1, 1, none⟩ (.bool true)) (some g) ∧ (w2.setCell ⟨w1.heap.size + 1, 1, none⟩ (.bool true)).heap[w1.heap.size + 1]? = some (.cells (rawV ⟨(t.pos : Int), true, ⟨0, 0⟩, [], false, ⟨0, 0⟩⟩ (.slice none 0 0)) 70 (0, 0)) ∧ (w2.setCell ⟨w1.heap.size + 1, 1, none⟩ (.bool true)).heap[w.heap.size]? = some (.cells (rawV ⟨0, false, ⟨0, 0⟩, [], false, ⟨0, 0⟩⟩ (.slice none 0 0)) 70 (0, 0)) ∧ ClasOwn w.heap.size (w2.setCell ⟨w1.heap.size + 1, 1, none⟩ (.bool true)) [] (.slice none 0 0)) :=
      ⟨rd_setCell R2 (by omega) (by omega) _ _, gb_setCell (grown_trans (gb_alloc (gb_alloc HG1.out _) _) hg2) (.inr (by omega)) _ _, tc_row rP2 _, (tc_far (by omega) _).trans r02, clas_nil _ _⟩
    clear hg2 R2 rP2 r02 LN HR1 HG1 HR0 t1 t2
    go_wp2_with fail
    refine (CK6.out _ T K3.out.1).mono ?_
    clear c1 f1
    obtain ⟨w3, hw3⟩ : ∃ w3, w3 = w2.setCell ⟨w1.heap.size + 1, 1, none⟩ (.bool true) := ⟨_, rfl⟩
    rw [← hw3] at K3 ⊢
    have z3 : w2.heap.size ≤ w3.heap.size := by rw [hw3, tc_size]; exact Nat.le_refl _
    clear hw3
    cases hK : takeK E 6 T with
    | error x =>
      obtain ⟨c, q⟩ := x
      rw [hK] at HA
      clear hK
      rintro e w4 ⟨hg4, rfl⟩
      go_wp2_with fail
      rw [HA.out]
      exact ⟨rfl, grown_trans K3.out.2.1 hg4, rfl⟩
    | ok x =>
      obtain ⟨t6, T3⟩ := x
      rw [hK] at HA
      clear hK
      rintro e w4 ⟨hg4, ⟨v, rfl, rfl⟩, R4⟩
      have z4 := hg4.size
      have K4 : Hid (Rd W0 w4 g E T3 ∧ w.grownBy w4 (some g) ∧ w4.heap[(w1.heap.size + 1)]? = some (.cells (rawV ⟨(t.pos : Int), true, ⟨0, 0⟩, [], false, ⟨0, 0⟩⟩ (.slice none 0 0)) 70 (0, 0)) ∧ w4.heap[w.heap.size]? = some (.cells (rawV ⟨0, false, ⟨0, 0⟩, [], false, ⟨0, 0⟩⟩ (.slice none 0 0)) 70 (0, 0)) ∧ ClasOwn w.heap.size w4 [] (.slice none 0 0)) :=
        ⟨R4, grown_trans K3.out.2.1 hg4, (hg4.block _ (by omega) (by simp; omega)).trans K3.out.2.2.1, (hg4.block _ (by omega) (by simp; omega)).trans K3.out.2.2.2.1, K3.out.2.2.2.2.by hg4 hgl.2⟩
      clear hg4 R4 K3
      go_wp2_with fail
      refine (CA.out _ T3 K4.out.1).mono ?_
      cases hAc : takeA E T3 with
      | error x =>
        obtain ⟨c, q⟩ := x
        have HA2 : Hid (A = .error (c, q)) := by show _ = _; rw [HA.out]; show (takeA E T3).map _ = _; rw [hAc]; rfl
        clear hAc HA
        rintro e w5 ⟨hg5, rfl⟩
        go_wp2_with fail
        rw [HA2.out]
        exact ⟨rfl, grown_trans K4.out.2.1 hg5, rfl⟩
      | ok x =>
        obtain ⟨⟨b, po⟩, T4⟩ := x
        have HA2 : Hid (A = .ok ((⟨(t.pos : Int), true, ⟨0, 0⟩, [], b, po⟩ : Raw), T4)) := by show _ = _; rw [HA.out]; show (takeA E T3).map _ = _; rw [hAc]; rfl
        clear hAc HA
        rintro e w5 ⟨hg5, ⟨v, rfl, hv⟩, R5⟩
        unfold ActV at hv
        subst hv
        have z5 := hg5.size
        have rP5 : w5.heap[(w1.heap.size + 1)]? = some (.cells (rawV ⟨(t.pos : Int), true, ⟨0, 0⟩, [], false, ⟨0, 0⟩⟩ (.slice none 0 0)) 70 (0, 0)) := (hg5.block _ (by omega) (by simp; omega)).trans K4.out.2.2.1
        have r05 : w5.heap[w.heap.size]? = some (.cells (rawV ⟨0, false, ⟨0, 0⟩, [], false, ⟨0, 0⟩⟩ (.slice none 0 0)) 70 (0, 0)) := (hg5.block _ (by omega) (by simp; omega)).trans K4.out.2.2.2.1
        have G5 : w.grownBy w5 (some g) := grown_trans K4.out.2.1 hg5
        have O5 := K4.out.2.2.2.2.by hg5 hgl.2
        have c5 : w5.cell? ⟨(w1.heap.size + 1), 5, none⟩ = some (.bool false) := by rw [cell_of_row _ _ _ _ _ _ rP5]; rfl
        have f5 : w5.frozen? ⟨(w1.heap.size + 1), 5, none⟩ = false := tc_frozen rP5 rfl
        have rP6 := tc_row (k := 5) rP5 (.bool b)
        have hst := store_fig (w5.setCell ⟨(w1.heap.size + 1), 5, none⟩ (.bool b)) (w1.heap.size + 1) 6 _ _ rP6 (by simp [rawV]) po
        have hex0 : ∀ W, (Instr.extract (.tuple #[.bool b, .agg (figV po)]) 0).run Tryd.prog W = .ok (.bool b) W := fun W => by kernel_rfl
        have hex1 : ∀ W, (Instr.extract (.tuple #[.bool b, .agg (figV po)]) 1).run Tryd.prog W = .ok (.agg (figV po)) W := fun W => by kernel_rfl
        have rP8 : Hid ((((w5.setCell ⟨(w1.heap.size + 1), 5, none⟩ (.bool b)).setCell ⟨(w1.heap.size + 1), 6, none⟩ (.int .i64 po.n)).setCell ⟨(w1.heap.size + 1), 6 + 1, none⟩ (.int .i64 po.pos)).heap[(w1.heap.size + 1)]? = some (.cells (rawV ⟨(t.pos : Int), true, ⟨0, 0⟩, [], b, po⟩ (.slice none 0 0)) 70 (0, 0))) := tc_row (tc_row rP6 _) _
        have r08 : Hid ((((w5.setCell ⟨(w1.heap.size + 1), 5, none⟩ (.bool b)).setCell ⟨(w1.heap.size + 1), 6, none⟩ (.int .i64 po.n)).setCell ⟨(w1.heap.size + 1), 6 + 1, none⟩ (.int .i64 po.pos)).heap[w.heap.size]? = some (.cells (rawV ⟨0, false, ⟨0, 0⟩, [], false, ⟨0, 0⟩⟩ (.slice none 0 0)) 70 (0, 0))) := (tc_far (by omega) _).trans ((tc_far (by omega) _).trans ((tc_far (by omega) _).trans r05))
        have O8 : Hid (ClasOwn w.heap.size (((w5.setCell ⟨(w1.heap.size + 1), 5, none⟩ (.bool b)).setCell ⟨(w1.heap.size + 1), 6, none⟩ (.int .i64 po.n)).setCell ⟨(w1.heap.size + 1), 6 + 1, none⟩ (.int .i64 po.pos)) [] (.slice none 0 0)) := clas_set (clas_set (clas_set O5 rP5 _) rP6 _) (tc_row rP6 _) _
        have G8 : Hid (w.grownBy (((w5.setCell ⟨(w1.heap.size + 1), 5, none⟩ (.bool b)).setCell ⟨(w1.heap.size + 1), 6, none⟩ (.int .i64 po.n)).setCell ⟨(w1.heap.size + 1), 6 + 1, none⟩ (.int .i64 po.pos)) (some g)) := gb_setCell (gb_setCell (gb_setCell G5 (.inr (by omega)) _ _) (.inr (by omega)) _ _) (.inr (by omega)) _ _
        have R8 : Hid (Rd W0 (((w5.setCell ⟨(w1.heap.size + 1), 5, none⟩ (.bool b)).setCell ⟨(w1.heap.size + 1), 6, none⟩ (.int .i64 po.n)).setCell ⟨(w1.heap.size + 1), 6 + 1, none⟩ (.int .i64 po.pos)) g E T4) := rd_setCell (rd_setCell (rd_setCell R5 (by omega) (by omega) _ _) (by omega) (by omega) _ _) (by omega) (by omega) _ _
        clear rP5 r05 rP6 G5 O5 R5 hg5 K4
        go_wp2_with (first
          | (refine wl_loadE (E := RawE) RawOk rfl _ rfl (w1.heap.size + 1) 0 rfl _ _ _ (rawV ⟨(t.pos : Int), true, ⟨0, 0⟩, [], b, po⟩ (.slice none 0 0)) rfl rP8.out (own_cells _ _) ?_)
          | (refine wl_storeE (E := RawE) RawOk rfl _ _ rfl w.heap.size (rawV ⟨(t.pos : Int), true, ⟨0, 0⟩, [], b, po⟩ (.slice none 0 0)) (raw_fits _ _ ⟨_, _, _, rfl⟩) rfl rfl _ r08.out rfl _ rfl ?_))
        refine retE (E := RawE) RawOk rfl rfl w.heap.size rfl (rawV ⟨(t.pos : Int), true, ⟨0, 0⟩, [], b, po⟩ (.slice none 0 0)) rfl (setRow_heap _ _ _ _ _ _ r08.out) ?_
        rw [HA2.out]
        exact ⟨gb_setRow G8.out (.inr (Nat.le_refl _)) _, ⟨_, rfl, _, rfl, clas_setRow O8.out r08.out _⟩, rd_setRow R8.out (by omega) (by omega) _⟩
  · have e1 : (t.text == [100, 101, 102, 97, 117, 108, 116]) = false := by rw [beq_eq_false_iff_ne]; exact hd
    have hH : takeH E (t :: T) = (takeF E (t :: T)).bind fun x => (takeCs E x.2.length [] x.2).map fun y => ((false, x.1, y.1), y.2) := if_neg fun hq => hd hq.2
    rw [hH] at hA
    clear hH hd hw
    go_wp2_with (first
      | (refine wl_storeE (E := TokE) TokOk rfl _ _ rfl w1.heap.size (encT t) (tv_fits _ _ _ _) rfl rfl _ (heap_new _ _ _ rfl) rfl _ (setRow_new _ _ _ _ _ rfl) ?_)
      | (refine wl_storeE (E := RawE) RawOk rfl _ _ rfl (w1.heap.size + 1) (rawV ⟨(t.pos : Int), false, ⟨0, 0⟩, [], false, ⟨0, 0⟩⟩ (.slice none 0 0)) (raw_fits _ _ ⟨_, _, _, rfl⟩) rfl rfl _ (heap_new _ _ _ (by simp)) rfl _ (setRow_new _ _ _ _ _ (by simp)) ?_))
    refine (CF.out _ (t :: T) ((HR1.out.alloc _).alloc _)).mono ?_
    cases hF : takeF E (t :: T) with
    | error x =>
      obtain ⟨c, q⟩ := x
      have HA : Hid (A = .error (c, q)) := by show _ = _; rw [hA, hF]; rfl
      clear hA hF
      rintro e w2 ⟨hg2, rfl⟩
      go_wp2_with fail
      rw [HA.out]
      exact ⟨rfl, grown_trans (gb_alloc (gb_alloc HG1.out _) _) hg2, rfl⟩
    | ok x =>
      obtain ⟨pr, T1⟩ := x
      have hT1 : T1.length ≤ 5000 := Nat.le_trans (eats_F hF).len hTl
      rw [hF] at hA
      have HA0 : Hid (A = ((takeCs E T1.length [] T1).map fun y => ((false, pr, y.1), y.2)).bind fun x => (takeK E 6 x.2).bind fun y => (takeA E y.2).map fun z => (⟨(t.pos : Int), x.1.1, x.1.2.1, x.1.2.2, z.1.1, z.1.2⟩, z.2)) := hA
      clear hA hF
      rintro e w2 ⟨hg2, ⟨v, rfl, rfl⟩, R2⟩
      have z2 : w1.heap.size + 2 ≤ w2.heap.size := by have := hg2.size; simp at this; omega
      have rP2 : w2.heap[w1.heap.size + 1]? = some (.cells (rawV ⟨(t.pos : Int), false, ⟨0, 0⟩, [], false, ⟨0, 0⟩⟩ (.slice none 0 0)) 70 (0, 0)) := (hg2.block _ (by simp) (by simp; omega)).trans LN.out
      have r02 : w2.heap[w.heap.size]? = some (.cells (rawV ⟨0, false, ⟨0, 0⟩, [], false, ⟨0, 0⟩⟩ (.slice none 0 0)) 70 (0, 0)) := (hg2.block _ (by simp; omega) (by simp; omega)).trans (heap_past _ _ _ _ (heap_past _ _ _ _ HR0.out))
      have hst := store_fig w2 (w1.heap.size + 1) 2 _ _ rP2 (by simp [rawV]) pr
      have K2 : Hid (Rd W0 ((w2.setCell ⟨(w1.heap.size + 1), 2, none⟩ (.int .i64 pr.n)).setCell ⟨(w1.heap.size + 1), 2 + 1, none⟩ (.int .i64 pr.pos)) g E T1 ∧ w.grownBy ((w2.setCell ⟨(w1.heap.size + 1), 2, none⟩ (.int .i64 pr.n)).setCell ⟨(w1.heap.size + 1), 2 + 1, none⟩ (.int .i64 pr.pos)) (some g) ∧ ((w2.setCell ⟨(w1.heap.size + 1), 2, none⟩ (.int .i64 pr.n)).setCell ⟨(w1.heap.size + 1), 2 + 1, none⟩ (.int .i64 pr.pos)).heap[(w1.heap.size + 1)]? = some (.cells (rawV ⟨(t.pos : Int), false, pr, [], false, ⟨0, 0⟩⟩ (.slice none 0 0)) 70 (0, 0)) ∧ ((w2.setCell ⟨(w1.heap.size + 1), 2, none⟩ (.int .i64 pr.n)).setCell ⟨(w1.heap.size + 1), 2 + 1, none⟩ (.int .i64 pr.pos)).heap[w.heap.size]? = some (.cells (rawV ⟨0, false, ⟨0, 0⟩, [], false, ⟨0, 0⟩⟩ (.slice none 0 0)) 70 (0, 0))) :=
        ⟨rd_setCell (rd_setCell R2 (by omega) (by omega) _ _) (by omega) (by omega) _ _, gb_setCell (gb_setCell (grown_trans (gb_alloc (gb_alloc HG1.out _) _) hg2) (.inr (by omega)) _ _) (.inr (by omega)) _ _, tc_row (tc_row rP2 _) _, (tc_far (by omega) _).trans ((tc_far (by omega) _).trans r02)⟩
      clear hg2 R2 rP2 r02 LN HR1 HG1 HR0 t1 t2
      go_wp2_with fail
      refine (CC.out _ T1 hT1 K2.out.1).mono ?_
      cases hC : takeCs E T1.length [] T1 with
      | error x =>
        obtain ⟨c, q⟩ := x
        have HA : Hid (A = .error (c, q)) := by show _ = _; rw [HA0.out, hC]; rfl
        clear hC HA0
        rintro e w3 ⟨hg3, rfl⟩
        go_wp2_with fail
        rw [HA.out]
        exact ⟨rfl, grown_trans K2.out.2.1 hg3, rfl⟩
      | ok x =>
        obtain ⟨C, T2⟩ := x
        have HA : Hid (A = (takeK E 6 T2).bind fun y => (takeA E y.2).map fun z => (⟨(t.pos : Int), false, pr, C, z.1.1, z.1.2⟩, z.2)) := by show _ = _; rw [HA0.out, hC]; rfl
        clear hC HA0 hst
        rintro e wc ⟨hgc, ⟨v, rfl, hclc⟩, Rc⟩
        have zc : w2.heap.size ≤ wc.heap.size := by have := hgc.size; rw [tc_size, tc_size] at this; exact this
        obtain ⟨o, n, m, rfl⟩ := clas_slice hclc
        have rPc : wc.heap[(w1.heap.size + 1)]? = some (.cells (rawV ⟨(t.pos : Int), false, pr, [], false, ⟨0, 0⟩⟩ (.slice none 0 0)) 70 (0, 0)) := (hgc.block _ (by rw [tc_size, tc_size]; omega) (by simp; omega)).trans K2.out.2.2.1
        have r0c : wc.heap[w.heap.size]? = some (.cells (rawV ⟨0, false, ⟨0, 0⟩, [], false, ⟨0, 0⟩⟩ (.slice none 0 0)) 70 (0, 0)) := (hgc.block _ (by rw [tc_size, tc_size]; omega) (by simp; omega)).trans K2.out.2.2.2
        have c4 : wc.cell? ⟨(w1.heap.size + 1), 4, none⟩ = some (.slice none 0 0) := by rw [cell_of_row _ _ _ _ _ _ rPc]; rfl
        have f4 : wc.frozen? ⟨(w1.heap.size + 1), 4, none⟩ = false := tc_frozen rPc rfl
        have K3 : Hid (Rd W0 (wc.setCell ⟨(w1.heap.size + 1), 4, none⟩ (.slice o n m)) g E T2 ∧ w.grownBy (wc.setCell ⟨(w1.heap.size + 1), 4, none⟩ (.slice o n m)) (some g) ∧ (wc.setCell ⟨(w1.heap.size + 1), 4, none⟩ (.slice o n m)).heap[(w1.heap.size + 1)]? = some (.cells (rawV ⟨(t.pos : Int), false, pr, C, false, ⟨0, 0⟩⟩ (.slice o n m)) 70 (0, 0)) ∧ (wc.setCell ⟨(w1.heap.size + 1), 4, none⟩ (.slice o n m)).heap[w.heap.size]? = some (.cells (rawV ⟨0, false, ⟨0, 0⟩, [], false, ⟨0, 0⟩⟩ (.slice none 0 0)) 70 (0, 0)) ∧ ClasOwn w.heap.size (wc.setCell ⟨(w1.heap.size + 1), 4, none⟩ (.slice o n m)) C (.slice o n m)) :=
          ⟨rd_setCell Rc (by omega) (by omega) _ _, gb_setCell (grown_trans K2.out.2.1 hgc) (.inr (by omega)) _ _, tc_row rPc _, (tc_far (by omega) _).trans r0c, clas_set (clas_base hclc (by rw [tc_size, tc_size]; omega)) rPc _⟩
        clear hgc hclc Rc rPc r0c K2
        go_wp2_with fail
        refine (CK6.out _ T2 K3.out.1).mono ?_
        clear c4 f4
        obtain ⟨w3, hw3⟩ : ∃ w3, w3 = wc.setCell ⟨(w1.heap.size + 1), 4, none⟩ (.slice o n m) := ⟨_, rfl⟩
        rw [← hw3] at K3 ⊢
        have z3 : wc.heap.size ≤ w3.heap.size := by rw [hw3, tc_size]; exact Nat.le_refl _
        clear hw3
        cases hK : takeK E 6 T2 with
        | error x =>
          obtain ⟨c, q⟩ := x
          rw [hK] at HA
          clear hK
          rintro e w4 ⟨hg4, rfl⟩
          go_wp2_with fail
          rw [HA.out]
          exact ⟨rfl, grown_trans K3.out.2.1 hg4, rfl⟩
        | ok x =>
          obtain ⟨t6, T3⟩ := x
          rw [hK] at HA
          clear hK
          rintro e w4 ⟨hg4, ⟨v, rfl, rfl⟩, R4⟩
          have z4 := hg4.size
          have K4 : Hid (Rd W0 w4 g E T3 ∧ w.grownBy w4 (some g) ∧ w4.heap[(w1.heap.size + 1)]? = some (.cells (rawV ⟨(t.pos : Int), false, pr, C, false, ⟨0, 0⟩⟩ (.slice o n m)) 70 (0, 0)) ∧ w4.heap[w.heap.size]? = some (.cells (rawV ⟨0, false, ⟨0, 0⟩, [], false, ⟨0, 0⟩⟩ (.slice none 0 0)) 70 (0, 0)) ∧ ClasOwn w.heap.size w4 C (.slice o n m)) :=
            ⟨R4, grown_trans K3.out.2.1 hg4, (hg4.block _ (by omega) (by simp; omega)).trans K3.out.2.2.1, (hg4.block _ (by omega) (by simp; omega)).trans K3.out.2.2.2.1, K3.out.2.2.2.2.by hg4 hgl.2⟩
          clear hg4 R4 K3
          go_wp2_with fail
          refine (CA.out _ T3 K4.out.1).mono ?_
          cases hAc : takeA E T3 with
          | error x =>
            obtain ⟨c, q⟩ := x
            have HA2 : Hid (A = .error (c, q)) := by show _ = _; rw [HA.out]; show (takeA E T3).map _ = _; rw [hAc]; rfl
            clear hAc HA
            rintro e w5 ⟨hg5, rfl⟩
            go_wp2_with fail
            rw [HA2.out]
            exact ⟨rfl, grown_trans K4.out.2.1 hg5, rfl⟩
          | ok x =>
            obtain ⟨⟨b, po⟩, T4⟩ := x
            have HA2 : Hid (A = .ok ((⟨(t.pos : Int), false, pr, C, b, po⟩ : Raw), T4)) := by show _ = _; rw [HA.out]; show (takeA E T3).map _ = _; rw [hAc]; rfl
            clear hAc HA
            rintro e w5 ⟨hg5, ⟨v, rfl, hv⟩, R5⟩
            unfold ActV at hv
            subst hv
            have z5 := hg5.size
            have rP5 : w5.heap[(w1.heap.size + 1)]? = some (.cells (rawV ⟨(t.pos : Int), false, pr, C, false, ⟨0, 0⟩⟩ (.slice o n m)) 70 (0, 0)) := (hg5.block _ (by omega) (by simp; omega)).trans K4.out.2.2.1
            have r05 : w5.heap[w.heap.size]? = some (.cells (rawV ⟨0, false, ⟨0, 0⟩, [], false, ⟨0, 0⟩⟩ (.slice none 0 0)) 70 (0, 0)) := (hg5.block _ (by omega) (by simp; omega)).trans K4.out.2.2.2.1
            have G5 : w.grownBy w5 (some g) := grown_trans K4.out.2.1 hg5
            have O5 := K4.out.2.2.2.2.by hg5 hgl.2
            have c5 : w5.cell? ⟨(w1.heap.size + 1), 5, none⟩ = some (.bool false) := by rw [cell_of_row _ _ _ _ _ _ rP5]; rfl
            have f5 : w5.frozen? ⟨(w1.heap.size + 1), 5, none⟩ = false := tc_frozen rP5 rfl
            have rP6 := tc_row (k := 5) rP5 (.bool b)
            have hst := store_fig (w5.setCell ⟨(w1.heap.size + 1), 5, none⟩ (.bool b)) (w1.heap.size + 1) 6 _ _ rP6 (by simp [rawV]) po
            have hex0 : ∀ W, (Instr.extract (.tuple #[.bool b, .agg (figV po)]) 0).run Tryd.prog W = .ok (.bool b) W := fun W => by kernel_rfl
            have hex1 : ∀ W, (Instr.extract (.tuple #[.bool b, .agg (figV po)]) 1).run Tryd.prog W = .ok (.agg (figV po)) W := fun W => by kernel_rfl
            have rP8 : Hid ((((w5.setCell ⟨(w1.heap.size + 1), 5, none⟩ (.bool b)).setCell ⟨(w1.heap.size + 1), 6, none⟩ (.int .i64 po.n)).setCell ⟨(w1.heap.size + 1), 6 + 1, none⟩ (.int .i64 po.pos)).heap[(w1.heap.size + 1)]? = some (.cells (rawV ⟨(t.pos : Int), false, pr, C, b, po⟩ (.slice o n m)) 70 (0, 0))) := tc_row (tc_row rP6 _) _
            have r08 : Hid ((((w5.setCell ⟨(w1.heap.size + 1), 5, none⟩ (.bool b)).setCell ⟨(w1.heap.size + 1), 6, none⟩ (.int .i64 po.n)).setCell ⟨(w1.heap.size + 1), 6 + 1, none⟩ (.int .i64 po.pos)).heap[w.heap.size]? = some (.cells (rawV ⟨0, false, ⟨0, 0⟩, [], false, ⟨0, 0⟩⟩ (.slice none 0 0)) 70 (0, 0))) := (tc_far (by omega) _).trans ((tc_far (by omega) _).trans ((tc_far (by omega) _).trans r05))
            have O8 : Hid (ClasOwn w.heap.size (((w5.setCell ⟨(w1.heap.size + 1), 5, none⟩ (.bool b)).setCell ⟨(w1.heap.size + 1), 6, none⟩ (.int .i64 po.n)).setCell ⟨(w1.heap.size + 1), 6 + 1, none⟩ (.int .i64 po.pos)) C (.slice o n m)) := clas_set (clas_set (clas_set O5 rP5 _) rP6 _) (tc_row rP6 _) _
            have G8 : Hid (w.grownBy (((w5.setCell ⟨(w1.heap.size + 1), 5, none⟩ (.bool b)).setCell ⟨(w1.heap.size + 1), 6, none⟩ (.int .i64 po.n)).setCell ⟨(w1.heap.size + 1), 6 + 1, none⟩ (.int .i64 po.pos)) (some g)) := gb_setCell (gb_setCell (gb_setCell G5 (.inr (by omega)) _ _) (.inr (by omega)) _ _) (.inr (by omega)) _ _
            have R8 : Hid (Rd W0 (((w5.setCell ⟨(w1.heap.size + 1), 5, none⟩ (.bool b)).setCell ⟨(w1.heap.size + 1), 6, none⟩ (.int .i64 po.n)).setCell ⟨(w1.heap.size + 1), 6 + 1, none⟩ (.int .i64 po.pos)) g E T4) := rd_setCell (rd_setCell (rd_setCell R5 (by omega) (by omega) _ _) (by omega) (by omega) _ _) (by omega) (by omega) _ _
            clear rP5 r05 rP6 G5 O5 R5 hg5 K4
            go_wp2_with (first
              | (refine wl_loadE (E := RawE) RawOk rfl _ rfl (w1.heap.size + 1) 0 rfl _ _ _ (rawV ⟨(t.pos : Int), false, pr, C, b, po⟩ (.slice o n m)) rfl rP8.out (own_cells _ _) ?_)
              | (refine wl_storeE (E := RawE) RawOk rfl _ _ rfl w.heap.size (rawV ⟨(t.pos : Int), false, pr, C, b, po⟩ (.slice o n m)) (raw_fits _ _ ⟨_, _, _, rfl⟩) rfl rfl _ r08.out rfl _ rfl ?_))
            refine retE (E := RawE) RawOk rfl rfl w.heap.size rfl (rawV ⟨(t.pos : Int), false, pr, C, b, po⟩ (.slice o n m)) rfl (setRow_heap _ _ _ _ _ _ r08.out) ?_
            rw [HA2.out]
            exact ⟨gb_setRow G8.out (.inr (Nat.le_refl _)) _, ⟨_, rfl, _, rfl, clas_setRow O8.out r08.out _⟩, rd_setRow R8.out (by omega) (by omega) _⟩
end Go.Proofs.YtnbklmmampdbfaaDoor
namespace Go.Proofs.YtnbklmmampdbfaaDoor
open Go Go.RowKit
set_option maxRecDepth 20000

/-- Lines in memory that are one's own. -/
def RawsOwn (B : Nat) (w : World) (L : List Raw) (v : Value) : Prop := NOwn RawE rawV (fun w x u => ClasOwn B w x.clauses u) w B v L
theorem RawsOwn.by {w w' : World} {g B : Nat} (hgr : w.grownBy w' (some g)) (hB : g < B) {L : List Raw} {v : Value} (h : RawsOwn B w L v) : RawsOwn B w' L v := by
  obtain ⟨P, h1, h2, h3⟩ := h
  exact ⟨P, h1, own_by hgr hB h2, fun p hp => (h3 p hp).by hgr hB⟩
theorem RawsOwn.below {w w' : World} {B : Nat} (hb : Below w.heap.size w w') {L : List Raw} {v : Value} (h : RawsOwn B w L v) : RawsOwn B w' L v := by
  obtain ⟨P, h1, h2, h3⟩ := h
  exact ⟨P, h1, gown_below h2 hb, fun p hp => (h3 p hp).below hb⟩
theorem clas_grown {w w' : World} {B B' : Nat} {n : Nat} {v : Value} {xs : List Value} (hown : w.ownsRow B' 70 8 v n xs) (hgr : w.grownBy w' v.ownBlock) {C : List Cla} {u : Value} (h : ClasOwn B w C u) : ClasOwn B w' C u := by
  obtain ⟨P, h1, h2, h3⟩ := h
  exact ⟨P, h1, own_grown hgr h2 (own_apart hown h2 (by decide)), fun p hp => own_grown hgr (h3 p hp) (own_apart hown (h3 p hp) (by decide))⟩
theorem takeL_fuel (E : Nat) : ∀ (f f' : Nat) (had : List Raw) (T : List Tok), T.length < f → T.length < f' → takeL E f had T = takeL E f' had T
  | 0, _, _, _, h, _ => absurd h (by omega)
  | _ + 1, 0, _, _, _, h => absurd h (by omega)
  | f + 1, f' + 1, had, [], _, _ => rfl
  | f + 1, f' + 1, had, t :: T, h, h' => by
    simp only [List.length_cons] at h h'
    rw [takeL, takeL]
    split
    · exact takeL_fuel E f f' had T (by omega) (by omega)
    · split
      · rfl
      · cases hR : takeR E (t :: T) with
        | error x => rfl
        | ok x =>
          obtain ⟨A, t6, B, hT, _, _, _, _⟩ := eats_R (x := x.1) (T' := x.2) hR
          have := congrArg List.length hT
          simp only [List.length_cons, List.length_append] at this
          exact takeL_fuel E f f' _ x.2 (by omega) (by omega)
theorem line_len {E : Nat} {T T' : List Tok} {x : Raw} (h : lineT E T = .ok (x, T')) : T'.length < T.length ∧ ∃ A, T = A ++ T' := by
  unfold lineT at h
  obtain ⟨a, h1, h2⟩ := bind_ok h
  obtain ⟨b, h3, h4⟩ := bind_ok h2
  obtain ⟨c, h5, h6⟩ := map_ok h4
  cases h6
  have e6 := (takeK_in (t := b.1) (T' := b.2) h3).1
  have eA : ∃ A, b.2 = A ++ c.2 := by
    rw [takeA_eq] at h5
    obtain ⟨d, h7, h8⟩ := bind_ok h5
    have e7 := (takeK_in (t := d.1) (T' := d.2) h7).1
    split at h8
    · cases h8; exact ⟨[d.1], e7⟩
    · split at h8
      · obtain ⟨e, h9, h10⟩ := map_ok h8
        cases h10
        obtain ⟨A, hA, _⟩ := eats_F (f := e.1) (T' := e.2) h9
        exact ⟨d.1 :: A, by rw [e7, hA]; rfl⟩
      · cases h8
  have eH : ∃ A, T = A ++ a.2 := by
    cases T with
    | nil => cases h1
    | cons t T =>
      have h1' : (if t.kind = 1 ∧ t.text = wDefault then (.ok ((true, ⟨0, 0⟩, []), T) : Res ((Bool × Fig × List Cla) × List Tok)) else (takeF E (t :: T)).bind fun x => (takeCs E x.2.length [] x.2).map fun y => ((false, x.1, y.1), y.2)) = .ok a := h1
      by_cases hc : t.kind = 1 ∧ t.text = wDefault
      · rw [if_pos hc] at h1'
        cases h1'
        exact ⟨[t], rfl⟩
      · rw [if_neg hc] at h1'
        obtain ⟨d, h7, h8⟩ := bind_ok h1'
        obtain ⟨e, h9, h10⟩ := map_ok h8
        cases h10
        obtain ⟨A, hA, _⟩ := eats_F (f := d.1) (T' := d.2) h7
        obtain ⟨B, hB, _⟩ := eats_Cs (l := e.1) (T' := e.2) h9
        exact ⟨A ++ B, by rw [hA, hB]; simp⟩
  obtain ⟨A, hA⟩ := eA
  obtain ⟨B, hB⟩ := eH
  rw [hB, e6, hA]
  refine ⟨by simp; omega, ⟨B ++ b.1 :: A, by simp⟩⟩
/-- What is asked of the tokens: a word's text stands in a Word alone. -/
def WordT (T : List Tok) : Prop := ∀ t ∈ T, t.text = wDefault → t.kind = 1
theorem rd_cell {W0 w : World} {g E : Nat} {T : List Tok} (h : Rd W0 w g E T) : ∃ o cap, w.cell? ⟨g, 0, none⟩ = some (.slice o T.length cap) := by
  obtain ⟨_, _, v, h2, h3⟩ := h
  obtain ⟨o, cap, rfl, _, _⟩ := h3.slice
  exact ⟨o, cap, by rw [cell_of_row _ _ _ _ _ _ h2]; rfl⟩

set_option maxHeartbeats 8000000 in
theorem lines_any (W0 w : World) (g E : Nat) (T : List Tok) (hTl : T.length ≤ 5000) (hW : WordT T) (h : Rd W0 w g E T) :
    Calls Tryd.prog 27 #[.pointer (some ⟨g, 0, none⟩)] w fun e w' => Took W0 w g E (RawsOwn w.heap.size) ((takeL E (T.length + 1) [] T).map fun l => (l, ([] : List Tok))) e w' := by
  have CP : Hid (∀ W T, Rd W0 W g E T → Calls Tryd.prog 43 #[.pointer (some ⟨g, 0, none⟩)] W fun e w' => e = .returned (.agg (encT (hd E T))) ∧ Below W.heap.size W w') := fun W T h => peek_any W0 W g E T h
  have CK : Hid (∀ W T, Rd W0 W g E T → Calls Tryd.prog 44 #[.pointer (some ⟨g, 0, none⟩), .int .i64 7] W fun e w' => Took W0 W g E (fun _ t v => v = .agg (encT t)) (takeK E 7 T) e w') := fun W T h => take_any W0 W g E 7 (by decide) T h
  have CL : Hid (∀ W t T, (t :: T).length ≤ 5000 → (t.text = wDefault → t.kind = 1) → Rd W0 W g E (t :: T) → Calls Tryd.prog 45 #[.pointer (some ⟨g, 0, none⟩)] W fun e w' => Took W0 W g E (RawR W.heap.size) (lineT E (t :: T)) e w') := fun W t T hl hw h => line_any W0 W g E t T hl hw h
  have hgl := h.size
  have H : Hid (Rd W0 w g E T) := h
  obtain ⟨A, hA⟩ : ∃ A, A = takeL E (T.length + 1) [] T := ⟨_, rfl⟩
  rw [← hA]
  have HA0 : Hid (A = takeL E (T.length + 1) [] T) := hA
  have HW0 : Hid (WordT T) := hW
  clear h hA hW
  go_enter Tryd.func27, Tryd.ntmps27
  go_wp2_with fail
  go_loopw [3] (fun out wr => ∃ (f : Nat) (had : List Raw) (T1 : List Tok), T1.length < f ∧ had.length ≤ 64 ∧ T1.length ≤ 5000 ∧ Hid (WordT T1) ∧ Hid (A = takeL E f had T1) ∧ w.grownBy wr (some g) ∧ Rd W0 wr g E T1 ∧ RawsOwn w.heap.size wr had out) (fun _ wr => restN wr g)
  case atStart => exact ⟨T.length + 1, [], T, by omega, by simp, hTl, HW0, HA0, gb_refl _ _, H.out, NOwn.nil _ _ _ _ _⟩
  case round =>
    obtain ⟨f, had, T1, hf, h64, hl, HW, HA, hg, R1, hown⟩ := hrel
    obtain ⟨o3, cap3, rfl⟩ : ∃ o cap, u3 = .slice o had.length cap := by
      obtain ⟨P, hP, hP2, _⟩ := hown
      obtain ⟨o, cap, e⟩ := gown_slice hP2
      exact ⟨o, cap, by rw [e, ← hP, List.length_map]⟩
    have OWN : Hid (RawsOwn w.heap.size wr had (.slice o3 had.length cap3)) := hown
    have HG : Hid (w.grownBy wr (some g)) := hg
    have HR : Hid (Rd W0 wr g E T1) := R1
    obtain ⟨o, cap, c0⟩ := rd_cell R1
    have HRest : Hid (restN wr g = T1.length) := rest_is R1
    clear hown hg R1 HA0 HW0
    cases T1 with
    | nil =>
      have HA2 : Hid (A = .ok had) := by
        show _ = _
        rw [HA.out]
        cases f with
        | zero => rfl
        | succ f => rfl
      simp only [List.length_nil] at c0
      clear HA
      go_wp2_with fail
      go_ret
      rw [HA2.out]
      exact ⟨HG.out, ⟨_, rfl, OWN.out⟩, HR.out⟩
    | cons t T2 =>
      obtain ⟨f', rfl⟩ : ∃ f', f = f' + 1 := ⟨f - 1, by omega⟩
      simp only [List.length_cons] at c0 hf hl
      have hpos : (0 : Int) < (T2.length : Int) + 1 := by omega
      have HRest2 : Hid (restN wr g = T2.length + 1) := HRest.out
      clear HRest
      go_wp2_with fail
      refine (CP.out _ (t :: T2) HR.out).mono ?_
      rintro e w1 ⟨rfl, hb1⟩
      have hhd : hd E (t :: T2) = t := rfl
      rw [hhd]
      clear hhd c0
      have HR1 : Hid (Rd W0 (w1.alloc (.cells (encT t) 88)) g E (t :: T2)) := (HR.out.below hb1).alloc _
      have HG1 : Hid (w.grownBy (w1.alloc (.cells (encT t) 88)) (some g)) := gb_alloc (grown_trans HG.out (grown_below hb1)) _
      have OWN1 : Hid (RawsOwn w.heap.size (w1.alloc (.cells (encT t) 88)) had (.slice o3 had.length cap3)) := (OWN.out.below hb1).below ((Below.refl _ _).alloc (Nat.le_refl _) _)
      obtain ⟨t0, t1, _, _⟩ := tok_cells (heap_new w1 (.cells (encT t) 88) _ rfl)
      clear hb1
      by_cases hk7 : t.kind = 7
      · have hk' : ((t.kind : Int) == 7) = true := by simp; omega
        have HA2 : Hid (A = takeL E f' had T2) := by show _ = _; rw [HA.out, takeL, if_pos hk7]
        have HK : Hid (takeK E 7 (t :: T2) = .ok (t, T2)) := if_pos hk7
        have HW2 : Hid (WordT T2) := fun u hu => HW.out u (by simp [hu])
        clear hk7 HA
        go_wp2_with (first
          | (refine wl_storeE (E := TokE) TokOk rfl _ _ rfl w1.heap.size (encT t) (tv_fits _ _ _ _) rfl rfl _ (heap_new _ _ _ rfl) rfl _ (setRow_new _ _ _ _ _ rfl) ?_))
        refine (CK.out _ (t :: T2) HR1.out).mono ?_
        rw [HK.out]
        rintro e w2 ⟨hg2, ⟨v, rfl, rfl⟩, R2⟩
        have HR2 : Hid (Rd W0 w2 g E T2) := R2
        have HG2 : Hid (w.grownBy w2 (some g)) := grown_trans HG1.out hg2
        have OWN2 : Hid (RawsOwn w.heap.size w2 had (.slice o3 had.length cap3)) := OWN1.out.by hg2 hgl.2
        clear hg2 R2 t0 t1
        go_wp2_with fail
        go_roundw
        case rel => exact ⟨f', had, T2, by omega, h64, by omega, HW2, HA2, HG2.out, HR2.out, OWN2.out⟩
        case measure => rw [HRest2.out, rest_is HR2.out]; omega
      · have hk' : ((t.kind : Int) == 7) = false := by simp; omega
        by_cases hm : had.length = 64
        · have HA2 : Hid (A = .error (4, t.pos)) := by show _ = _; rw [HA.out, takeL, if_neg hk7, if_pos hm]
          have hm' : ((had.length : Int) == 64) = true := by simp; omega
          clear hk7 hm HA
          go_wp2_with (first
            | (refine wl_storeE (E := TokE) TokOk rfl _ _ rfl w1.heap.size (encT t) (tv_fits _ _ _ _) rfl rfl _ (heap_new _ _ _ rfl) rfl _ (setRow_new _ _ _ _ _ rfl) ?_))
          rw [HA2.out]
          exact ⟨rfl, HG1.out, rfl⟩
        · have HA2 : Hid (A = (takeR E (t :: T2)).bind fun x => takeL E f' (had ++ [x.1]) x.2) := by show _ = _; rw [HA.out, takeL, if_neg hk7, if_neg hm]
          have hm' : ((had.length : Int) == 64) = false := by simp; omega
          have hm2 : had.length + 1 ≤ 64 := by omega
          have HWt : Hid (t.text = wDefault → t.kind = 1) := HW.out t (by simp)
          clear hk7 hm HA
          go_wp2_with (first
            | (refine wl_storeE (E := TokE) TokOk rfl _ _ rfl w1.heap.size (encT t) (tv_fits _ _ _ _) rfl rfl _ (heap_new _ _ _ rfl) rfl _ (setRow_new _ _ _ _ _ rfl) ?_))
          refine (CL.out _ t T2 (by simp; omega) HWt.out HR1.out).mono ?_
          cases hL : lineT E (t :: T2) with
          | error x =>
            obtain ⟨c, q⟩ := x
            have HA3 : Hid (A = .error (c, q)) := by show _ = _; rw [HA2.out, takeR_line, hL]; rfl
            clear hL HA2
            rintro e w2 ⟨hg2, rfl⟩
            go_wp2_with fail
            rw [HA3.out]
            exact ⟨rfl, grown_trans HG1.out hg2, rfl⟩
          | ok x =>
            obtain ⟨x, T3⟩ := x
            obtain ⟨hlen, A3, hT3⟩ := line_len hL
            simp only [List.length_cons] at hlen
            have HA3 : Hid (A = ((takeE T3).map fun u => (x, u)).bind fun x => takeL E f' (had ++ [x.1]) x.2) := by show _ = _; rw [HA2.out, takeR_line, hL]; rfl
            have HW3 : Hid (WordT T3) := fun u hu => HW.out u (by rw [hT3]; simp [hu])
            clear hL HA2 hT3
            rintro e w2 ⟨hg2, ⟨v, rfl, u, rfl, hcl2⟩, R2⟩
            have z1 := HG1.out.size
            have HR2 : Hid (Rd W0 w2 g E T3) := R2
            have HG2 : Hid (w.grownBy w2 (some g)) := grown_trans HG1.out hg2
            have OWN2 : Hid (RawsOwn w.heap.size w2 had (.slice o3 had.length cap3)) := OWN1.out.by hg2 hgl.2
            have HC2 : Hid (ClasOwn w.heap.size w2 x.clauses u) := clas_base hcl2 z1
            obtain ⟨o5, n5, m5, rfl⟩ := clas_slice hcl2
            clear hg2 R2 t0 t1 hcl2
            go_wp2_with (first
              | (refine wl_buildE (E := RawE) RawOk rfl _ rfl (rawV x (.slice o5 n5 m5)) rfl rfl ?_)
              | (at_builtin; refine of_stopT ?_))
            unfold StopT
            obtain ⟨P, hP1, hP2, hP3⟩ := OWN2.out
            have HO6 : Hid ((w2.alloc (.cells (rawV x (.slice o5 n5 m5)) 70)).ownsRow w.heap.size 70 8 (.slice o3 had.length cap3) P.length (gcells (fun p : Raw × Value => rawV p.1 p.2) P)) := hP2.alloc _
            have hPl : P.length = had.length := by rw [← hP1, List.length_map]
            have z5 := HG2.out.size
            refine wl_appendE (E := RawE) RawOk (fun p : Raw × Value => rawV p.1 p.2) rfl _ _ rfl w.heap.size _ P (x, .slice o5 n5 m5) (raw_fits _ _ ⟨_, _, _, rfl⟩) rfl HO6.out _ 1 rfl (heap_new _ _ _ rfl) (by omega) (by simp; omega) ?_
            intro v' w6 hown6 hgr6 _
            have alc : Below w2.heap.size w2 (w2.alloc (.cells (rawV x (.slice o5 n5 m5)) 70)) := (Below.refl _ _).alloc (Nat.le_refl _) _
            have HOWN6 : Hid (RawsOwn w.heap.size w6 (had ++ [x]) v') := NOwn.snoc (E := RawE) (row := rawV) (R := fun w' x u => ClasOwn w.heap.size w' x.clauses u) hP1 hown6 (fun p hp => clas_grown HO6.out hgr6 ((hP3 p hp).below alc)) (clas_grown HO6.out hgr6 (HC2.out.below alc))
            have HG6 : Hid (w.grownBy w6 (some g)) := gb_own (gb_alloc HG2.out _) hgr6 fun k hk => (HO6.out.lt k hk).1
            have R6 : Rd W0 w6 g E T3 := rd_own (HR2.out.alloc _) hgr6 fun k hk => Nat.lt_of_lt_of_le hgl.2 (HO6.out.lt k hk).1
            have HR6 : Hid (Rd W0 w6 g E T3) := R6
            obtain ⟨o7, cap7, c7⟩ := rd_cell R6
            obtain ⟨o6, cap6, rfl⟩ := gown_slice hown6
            clear hown6 hgr6 hP1 hP2 hP3 hPl HO6 alc R6
            simp only [Act.put, List.setIfInBounds_toArray, List.set_cons_succ, List.set_cons_zero]
            cases T3 with
            | nil =>
              have HA4 : Hid (A = takeL E f' (had ++ [x]) []) := HA3.out
              simp only [List.length_nil] at c7
              clear HA3
              go_wp2_with fail
              go_roundw
              case rel => exact ⟨f', had ++ [x], [], by simp; omega, by simp; omega, by simp, HW3, HA4, HG6.out, HR6.out, HOWN6.out⟩
              case measure => rw [HRest2.out, rest_is HR6.out]; simp
            | cons t7 T4 =>
              simp only [List.length_cons] at c7 hlen
              have hpos7 : (0 : Int) < (T4.length : Int) + 1 := by omega
              go_wp2_with fail
              refine (CK.out _ (t7 :: T4) HR6.out).mono ?_
              by_cases hk8 : t7.kind = 7
              · obtain ⟨f2, rfl⟩ : ∃ f2, f' = f2 + 1 := ⟨f' - 1, by omega⟩
                have HK : Hid (takeK E 7 (t7 :: T4) = .ok (t7, T4)) := if_pos hk8
                have HA4 : Hid (A = takeL E f2 (had ++ [x]) T4) := by
                  show _ = _
                  have hE : takeE (t7 :: T4) = .ok (t7 :: T4) := if_pos hk8
                  rw [HA3.out, hE]
                  show takeL E (f2 + 1) (had ++ [x]) (t7 :: T4) = _
                  rw [takeL, if_pos hk8]
                have HW4 : Hid (WordT T4) := fun u hu => HW3.out u (by simp [hu])
                rw [HK.out]
                clear hk8 HA3
                rintro e w8 ⟨hg8, ⟨v, rfl, rfl⟩, R8⟩
                have HR8 : Hid (Rd W0 w8 g E T4) := R8
                have HG8 : Hid (w.grownBy w8 (some g)) := grown_trans HG6.out hg8
                have OWN8 := HOWN6.out.by hg8 hgl.2
                have HOWN8 : Hid (RawsOwn w.heap.size w8 (had ++ [x]) (.slice o6 (P ++ [(x, Value.slice o5 n5 m5)]).length cap6)) := OWN8
                clear hg8 R8 OWN8 c7
                go_wp2_with fail
                go_roundw
                case rel => exact ⟨f2, had ++ [x], T4, by omega, by simp; omega, by omega, HW4, HA4, HG8.out, HR8.out, by have := HOWN8.out; simpa using this⟩
                case measure => rw [HRest2.out, rest_is HR8.out]; omega
              · have HK : Hid (takeK E 7 (t7 :: T4) = .error (8, t7.pos)) := if_neg hk8
                have HA4 : Hid (A = .error (8, t7.pos)) := by
                  show _ = _
                  have hE : takeE (t7 :: T4) = .error (8, t7.pos) := if_neg hk8
                  rw [HA3.out, hE]
                  rfl
                rw [HK.out]
                clear hk8 HA3
                rintro e w8 ⟨hg8, rfl⟩
                go_wp2_with fail
                rw [HA4.out]
                exact ⟨rfl, grown_trans HG6.out hg8, rfl⟩
end Go.Proofs.YtnbklmmampdbfaaDoor
/-
  The library's contract of stringslite.Clone, laid at this seat's program, and strings.Clone above it.
-/
namespace Go.Proofs
open Go.Shelf
set_option maxRecDepth 20000
def Tryd.lays316_ren : Go.Shelf.Ren := ⟨fun | 316 => 81 | n => n, fun | 37 => 160 | 127 => 161 | n => n, fun | n => n⟩
theorem Tryd.lays316 : Go.Proofs.LaysM.n316 Tryd.prog Tryd.lays316_ren := {
  mixed := by kernel_rfl
  f316 := Tryd.func81.trans (congrArg some (by kernel_rfl))
  t0 := Tryd.underlying0
  a0 := Tryd.isAgg0
  z0 := Tryd.sizeOf0
  v0 := Tryd.zeroValue0
  t3 := Tryd.underlying3
  a3 := Tryd.isAgg3
  z3 := Tryd.sizeOf3
  v3 := Tryd.zeroValue3
  t4 := Tryd.underlying4
  a4 := Tryd.isAgg4
  z4 := Tryd.sizeOf4
  v4 := Tryd.zeroValue4
  t5 := Tryd.underlying5
  a5 := Tryd.isAgg5
  z5 := Tryd.sizeOf5
  v5 := Tryd.zeroValue5
  t9 := Tryd.underlying9
  a9 := Tryd.isAgg9
  z9 := Tryd.sizeOf9
  v9 := Tryd.zeroValue9
  t37 := Tryd.underlying160
  a37 := Tryd.isAgg160
  z37 := Tryd.sizeOf160
  v37 := Tryd.zeroValue160
  t127 := Tryd.underlying161
  a127 := Tryd.isAgg161
  z127 := Tryd.sizeOf161
  v127 := Tryd.zeroValue161
  i0 := by kernel_rfl
  i3 := by kernel_rfl
  i4 := by kernel_rfl
  i5 := by kernel_rfl
  i9 := by kernel_rfl
  i37 := by kernel_rfl
  i127 := by kernel_rfl }
namespace YtnbklmmampdbfaaDoor
open Go Go.RowKit

theorem clone_in (s : ByteArray) (w : World) (hlim : s.size ≤ 281474976710656) :
    Calls Tryd.prog 81 #[.string s] w fun e w' => e = .returned (.string s) ∧ Below w.heap.size w w' := Any.stringslite_Clone Tryd.lays316 s w hlim

theorem clone_any (s : ByteArray) (w : World) (hlim : s.size ≤ 281474976710656) :
    Calls Tryd.prog 62 #[.string s] w fun e w' => e = .returned (.string s) ∧ Below w.heap.size w w' := by
  have C : Hid (∀ W, Calls Tryd.prog 81 #[.string s] W fun e w' => e = .returned (.string s) ∧ Below W.heap.size W w') := fun W => clone_in s W hlim
  clear hlim
  go_enter Tryd.func62, Tryd.ntmps62
  go_wp2_with fail
  refine (C.out _).mono ?_
  rintro e w1 ⟨rfl, hb1⟩
  go_wp2_with fail
  go_ret
  exact ⟨rfl, hb1⟩
end YtnbklmmampdbfaaDoor
end Go.Proofs
namespace Go.Proofs.YtnbklmmampdbfaaDoor
open Go Go.RowKit
set_option maxRecDepth 20000

theorem str_beq (s : ByteArray) (x : List UInt8) : (s.toList == x) = (s.data.toList == x) := by rw [ByteArray.toList_eq]

/-- The sign with which a text begins. -/
def signR (c : UInt8) (r : List UInt8) : Nat × Nat :=
  if c == 46 then (3, 1) else if c == 47 then (4, 1) else if c == 45 then (if r.head? == some 62 then (6, 2) else (5, 1)) else if c == 10 then (7, 1) else (0, 0)

set_option maxHeartbeats 1000000 in
theorem arrow_any (s : ByteArray) (hs : s.size ≤ maxLen) (w : World) :
    Calls Tryd.prog 82 #[.string s, .string ⟨#[45, 62]⟩] w fun e w' => e = .returned (.bool (Lib.hasPrefix s.data.toList [45, 62])) ∧ w' = w := by
  unfold maxLen at hs
  have C : Hid (∀ W, Calls Tryd.prog 98 #[.string s, .string ⟨#[45, 62]⟩] W fun e w' => e = .returned (.bool (Lib.hasPrefix s.data.toList [45, 62])) ∧ w' = W) := fun W => by
    have hr := Lib.hasPrefix_raw s ⟨#[45, 62]⟩
    have hsz : (⟨#[45, 62]⟩ : ByteArray).size = 2 := rfl
    rw [hsz] at hr
    obtain ⟨R, hR⟩ : ∃ R, R = Lib.hasPrefix s.data.toList [45, 62] := ⟨_, rfl⟩
    rw [show (⟨#[45, 62]⟩ : ByteArray).data.toList = [45, 62] from rfl, ← hR] at hr
    rw [← hR]
    clear hR
    by_cases h2 : 2 ≤ s.size
    · have h2' : ((2 : Nat) : Int) ≤ (s.size : Int) := by omega
      rw [decide_eq_true h2, Bool.true_and] at hr
      go_enter Tryd.func98, Tryd.ntmps98
      go_wp2
      go_ret
      exact ⟨ret_bool (by rw [ByteArray.toList_eq ⟨#[45, 62]⟩] at hr; exact hr), rfl⟩
    · have h2' : (s.size : Int) < 2 := by omega
      rw [decide_eq_false h2, Bool.false_and] at hr
      subst hr
      go_enter Tryd.func98, Tryd.ntmps98
      go_wp2
      go_ret
      exact ⟨rfl, rfl⟩
  clear hs
  go_enter Tryd.func82, Tryd.ntmps82
  go_wp2_with fail
  refine (C.out _).mono ?_
  rintro e w1 ⟨rfl, rfl⟩
  go_wp2_with fail
  go_ret
  exact ⟨rfl, rfl⟩

theorem arrow_pre (c : UInt8) (r : List UInt8) : Lib.hasPrefix (c :: r) [45, 62] = (c == 45 && r.head? == some 62) := by
  unfold Lib.hasPrefix
  cases r with
  | nil => simp [List.isPrefixOf]
  | cons d r =>
    simp only [List.isPrefixOf, Bool.and_true, List.head?_cons]
    rw [show (45 == c) = (c == 45) from Bool.beq_comm, show (some d == some 62) = (d == 62) from rfl, show (62 == d) = (d == 62) from Bool.beq_comm]

set_option maxHeartbeats 1000000 in
theorem sign_any (s : ByteArray) (hs : s.size ≤ maxLen) (c : UInt8) (r : List UInt8) (hS : s.data.toList = c :: r) (w : World) :
    Calls Tryd.prog 64 #[.string s] w fun e w' => e = .returned (.tuple #[.int .i64 ((signR c r).1 : Nat), .int .i64 ((signR c r).2 : Nat)]) ∧ w' = w := by
  have h0 : 0 < s.size := by rw [Lib.size_eq, hS]; simp
  have C : Hid (∀ W, Calls Tryd.prog 82 #[.string s, .string ⟨#[45, 62]⟩] W fun e w' => e = .returned (.bool (c == 45 && r.head? == some 62)) ∧ w' = W) := fun W => by
    have := arrow_any s hs W
    rwa [hS, arrow_pre] at this
  have hc : s[0] = c := by
    have := byte_q s 0 h0
    rw [hS] at this
    simpa using this.symm
  have hix : ∀ W, (Instr.index 9 (.string s) (.int .i64 0)).run Tryd.prog W = .ok (.int .u8 (c.toNat : Int)) W := fun W => by
    rw [← hc]
    simp [go_sem, Tryd.underlying9, h0]
  have e1 : ((c.toNat : Int) == 46) = (c == 46) := byte_beq c 46
  have e2 : ((c.toNat : Int) == 47) = (c == 47) := byte_beq c 47
  have e3 : ((c.toNat : Int) == 45) = (c == 45) := byte_beq c 45
  have e4 : ((c.toNat : Int) == 10) = (c == 10) := byte_beq c 10
  unfold signR
  clear hc h0 hS hs
  by_cases c1 : (c == 46) = true
  · rw [c1] at e1
    simp only [c1, if_true]
    go_enter Tryd.func64, Tryd.ntmps64
    go_wp2_with fail
    go_ret2
    exact ⟨rfl, rfl⟩
  have c1' : (c == 46) = false := by simpa using c1
  clear c1
  rw [c1'] at e1
  by_cases c2 : (c == 47) = true
  · rw [c2] at e2
    simp only [c1', c2, if_true, Bool.false_eq_true, if_false]
    go_enter Tryd.func64, Tryd.ntmps64
    go_wp2_with fail
    go_ret2
    exact ⟨rfl, rfl⟩
  have c2' : (c == 47) = false := by simpa using c2
  clear c2
  rw [c2'] at e2
  by_cases c3 : (c == 45) = true
  · rw [c3] at e3
    by_cases c4 : (r.head? == some 62) = true
    · have C' : Hid (∀ W, Calls Tryd.prog 82 #[.string s, .string ⟨#[45, 62]⟩] W fun e w' => e = .returned (.bool true) ∧ w' = W) := by
        have := C.out
        rw [c3, c4] at this
        exact this
      simp only [c1', c2', c3, c4, if_true, Bool.false_eq_true, if_false]
      clear C
      go_enter Tryd.func64, Tryd.ntmps64
      go_wp2_with fail
      refine (C'.out _).mono ?_
      rintro e w1 ⟨rfl, rfl⟩
      go_wp2_with fail
      go_ret2
      exact ⟨rfl, rfl⟩
    · have c4' : (r.head? == some 62) = false := by simpa using c4
      have C' : Hid (∀ W, Calls Tryd.prog 82 #[.string s, .string ⟨#[45, 62]⟩] W fun e w' => e = .returned (.bool false) ∧ w' = W) := by
        have := C.out
        rw [c3, c4'] at this
        exact this
      simp only [c1', c2', c3, c4', if_true, Bool.false_eq_true, if_false]
      clear C c4
      go_enter Tryd.func64, Tryd.ntmps64
      go_wp2_with fail
      refine (C'.out _).mono ?_
      rintro e w1 ⟨rfl, rfl⟩
      go_wp2_with fail
      go_ret2
      exact ⟨rfl, rfl⟩
  have c3' : (c == 45) = false := by simpa using c3
  clear c3
  rw [c3'] at e3
  have C' : Hid (∀ W, Calls Tryd.prog 82 #[.string s, .string ⟨#[45, 62]⟩] W fun e w' => e = .returned (.bool false) ∧ w' = W) := by
    have := C.out
    rw [c3'] at this
    exact this
  clear C
  by_cases c5 : (c == 10) = true
  · rw [c5] at e4
    simp only [c1', c2', c3', c5, if_true, Bool.false_eq_true, if_false]
    go_enter Tryd.func64, Tryd.ntmps64
    go_wp2_with fail
    refine (C'.out _).mono ?_
    rintro e w1 ⟨rfl, rfl⟩
    go_wp2_with fail
    go_ret2
    exact ⟨rfl, rfl⟩
  · have c5' : (c == 10) = false := by simpa using c5
    clear c5
    rw [c5'] at e4
    simp only [c1', c2', c3', c5', Bool.false_eq_true, if_false]
    go_enter Tryd.func64, Tryd.ntmps64
    go_wp2_with fail
    refine (C'.out _).mono ?_
    rintro e w1 ⟨rfl, rfl⟩
    go_wp2_with fail
    go_ret2
    exact ⟨rfl, rfl⟩
end Go.Proofs.YtnbklmmampdbfaaDoor
namespace Go.Proofs.YtnbklmmampdbfaaDoor
open Go Go.RowKit
set_option maxRecDepth 20000

/-- A number and what is wrong with it. -/
def numR (D : List UInt8) : Nat × Nat := match numOf D with | some n => (n, 0) | none => (0, 7)
theorem val_app (D : List UInt8) (c : UInt8) : val (D ++ [c]) = val D * 10 + (c.toNat - 48) := by unfold val; rw [List.foldl_append]; rfl
theorem val_grow : ∀ (E : List UInt8) (n : Nat), n ≤ E.foldl (fun n c => n * 10 + (c.toNat - 48)) n
  | [], n => Nat.le_refl n
  | c :: E, n => by
    rw [List.foldl_cons]
    exact Nat.le_trans (by omega) (val_grow E _)
theorem val_mono (D E : List UInt8) : val D ≤ val (D ++ E) := by
  unfold val
  rw [List.foldl_append]
  exact val_grow E _
theorem val_take (D : List UInt8) (k : Nat) (hk : k < D.length) : val (D.take (k + 1)) = val (D.take k) * 10 + (D[k].toNat - 48) := by
  rw [List.take_succ_eq_append_getElem hk, val_app]
theorem val_take_le (D : List UInt8) (k : Nat) : val (D.take k) ≤ val D := by
  have := val_mono (D.take k) (D.drop k)
  rwa [List.take_append_drop] at this

set_option maxHeartbeats 1000000 in
theorem number_any (s : ByteArray) (hs : s.size ≤ maxLen) (h0 : 0 < s.size) (hD : ∀ c ∈ s.data.toList, isDig c = true) (w : World) :
    Calls Tryd.prog 63 #[.string s] w fun e w' => e = .returned (.tuple #[.int .i64 ((numR s.data.toList).1 : Nat), .int .i64 ((numR s.data.toList).2 : Nat)]) ∧ w' = w := by
  unfold maxLen at hs
  have hlen : s.data.toList.length = s.size := (Lib.size_eq s).symm
  obtain ⟨S, hS⟩ : ∃ S, S = s.data.toList := ⟨_, rfl⟩
  have hby : ∀ k (hk : k < s.size), ∃ b : Nat, 48 ≤ b ∧ b ≤ 57 ∧ s[k].toNat = b ∧ val (S.take (k + 1)) = val (S.take k) * 10 + (b - 48) := fun k hk => by
    have hm : s[k] ∈ s.data.toList := List.mem_of_getElem? (byte_q s k hk)
    have := hD _ hm
    unfold isDig at this
    simp only [Bool.and_eq_true, decide_eq_true_eq] at this
    refine ⟨_, this.1, this.2, rfl, ?_⟩
    have hk' : k < S.length := by rw [hS, hlen]; exact hk
    rw [val_take S k hk']
    have e : S[k] = s[k] := by
      have := byte_q s k hk
      rw [← hS, List.getElem?_eq_getElem hk'] at this
      simpa using this
    rw [e]
  have HBY : Hid (∀ k (hk : k < s.size), ∃ b : Nat, 48 ≤ b ∧ b ≤ 57 ∧ s[k].toNat = b ∧ val (S.take (k + 1)) = val (S.take k) * 10 + (b - 48)) := hby
  have hh : S.head? = some s[0] := by
    have := byte_q s 0 h0
    rw [← hS] at this
    rw [List.head?_eq_getElem?]; exact this
  have hz : ((s[0].toNat : Int) == 48) = (S.head? == some 48) := by
    rw [hh]; exact byte_beq s[0] 48
  have hix0 : ∀ W, (Instr.index 9 (.string s) (.int .i64 0)).run Tryd.prog W = .ok (.int .u8 (s[0].toNat : Int)) W := fun W => by
    simp [go_sem, Tryd.underlying9, h0]
  have HL : Hid (S.length = s.size) := by rw [hS]; exact hlen
  rw [← hS]
  obtain ⟨R, hR⟩ : ∃ R, R = numR S := ⟨_, rfl⟩
  have HR : Hid (R = if decide (4294967295 < val S) || (decide (1 < s.size) && S.head? == some 48) then (0, 7) else (val S, 0)) := by
    show R = _
    rw [hR, ← HL.out]
    unfold numR numOf
    split <;> rename_i h1
    · split at h1
      · cases h1
      · obtain rfl := Option.some.inj h1; rw [if_neg (by assumption)]
    · split at h1
      · rw [if_pos (by assumption)]
      · cases h1
  rw [← hR]
  obtain ⟨z0, hz0⟩ : ∃ z0 : Int, z0 = (s[0].toNat : Int) := ⟨_, rfl⟩
  rw [← hz0] at hz hix0
  clear hR hS hD hlen hby hh hz0
  have LOOP : Hid (Hid (R = if decide (4294967295 < val S) then (0, 7) else (val S, 0)) → (1 < (s.size : Int) → (z0 == 48) = false) → Calls Tryd.prog 63 #[.string s] w fun e w' => e = .returned (.tuple #[.int .i64 (R.1 : Nat), .int .i64 (R.2 : Nat)]) ∧ w' = w) := by
    intro HR2 hg
    clear HR hz
    by_cases h1 : 1 < (s.size : Int)
    · have hg1 := hg h1
      clear hg
      go_enter Tryd.func63, Tryd.ntmps63
      go_wp2_with fail
      go_loop [4, 16] (fun v i => ∃ k : Nat, k ≤ s.size ∧ i = .int .i64 (k : Int) ∧ v = .int .i64 ((val (S.take k) : Nat) : Int) ∧ val (S.take k) ≤ 4294967295) (fun _ i => s.size - (intOf i).toNat)
      case atStart => exact ⟨0, Nat.zero_le _, rfl, rfl, Nat.zero_le _⟩
      case round =>
        obtain ⟨k, hk, rfl, rfl, hv⟩ := hrel
        by_cases hlt : k < s.size
        · obtain ⟨b, hb1, hb2, hb3, hb4⟩ := HBY.out k hlt
          have hix : ∀ W, (Instr.index 9 (.string s) (.int .i64 (k : Int))).run Tryd.prog W = .ok (.int .u8 (b : Int)) W := fun W => by
            rw [← hb3]
            simp [go_sem, Tryd.underlying9, hlt]
          obtain ⟨x, hx⟩ : ∃ x, x = val (S.take k) := ⟨_, rfl⟩
          rw [← hx] at hv hb4 ⊢
          obtain ⟨y, hy⟩ : ∃ y, y = x * 10 + (b - 48) := ⟨_, rfl⟩
          have hyz : (x : Int) * 10 + ((b : Int) - 48) = (y : Int) := by omega
          have HB4 : Hid (val (S.take (k + 1)) = y) := by show _ = _; rw [hb4, hy]
          have hlt' : (k : Int) < (s.size : Int) := by omega
          have hy2 : y ≤ 100000000000 := by omega
          clear hb4 hb3 hx hy
          by_cases hbig : 4294967295 < y
          · have HRZ : Hid (R = (0, 7)) := by
              show _ = _
              rw [HR2.out, if_pos]
              have := val_take_le S (k + 1)
              rw [HB4.out] at this
              exact decide_eq_true (by omega)
            go_wp2_with fail
            go_ret2
            exact ⟨by rw [HRZ.out]; rfl, rfl⟩
          · go_wp2_with fail
            go_round
            case rel => exact ⟨k + 1, by omega, by go_num, by rw [HB4.out], by rw [HB4.out]; omega⟩
            case measure => simp [intOf]; omega
        · have hk' : k = s.size := by omega
          have hlt' : (s.size : Int) ≤ (k : Int) := by omega
          have HRZ : Hid (R = (val (S.take k), 0)) := by
            show _ = _
            have e : S.take k = S := by rw [List.take_of_length_le]; rw [HL.out]; omega
            rw [e] at hv ⊢
            rw [HR2.out, if_neg (by simpa using hv)]
          clear hk' hlt
          go_wp2_with fail
          go_ret2
          exact ⟨by rw [HRZ.out]; rfl, rfl⟩
    · clear hg
      go_enter Tryd.func63, Tryd.ntmps63
      go_wp2_with fail
      go_loop [4, 16] (fun v i => ∃ k : Nat, k ≤ s.size ∧ i = .int .i64 (k : Int) ∧ v = .int .i64 ((val (S.take k) : Nat) : Int) ∧ val (S.take k) ≤ 4294967295) (fun _ i => s.size - (intOf i).toNat)
      case atStart => exact ⟨0, Nat.zero_le _, rfl, rfl, Nat.zero_le _⟩
      case round =>
        obtain ⟨k, hk, rfl, rfl, hv⟩ := hrel
        by_cases hlt : k < s.size
        · obtain ⟨b, hb1, hb2, hb3, hb4⟩ := HBY.out k hlt
          have hix : ∀ W, (Instr.index 9 (.string s) (.int .i64 (k : Int))).run Tryd.prog W = .ok (.int .u8 (b : Int)) W := fun W => by
            rw [← hb3]
            simp [go_sem, Tryd.underlying9, hlt]
          obtain ⟨x, hx⟩ : ∃ x, x = val (S.take k) := ⟨_, rfl⟩
          rw [← hx] at hv hb4 ⊢
          obtain ⟨y, hy⟩ : ∃ y, y = x * 10 + (b - 48) := ⟨_, rfl⟩
          have hyz : (x : Int) * 10 + ((b : Int) - 48) = (y : Int) := by omega
          have HB4 : Hid (val (S.take (k + 1)) = y) := by show _ = _; rw [hb4, hy]
          have hlt' : (k : Int) < (s.size : Int) := by omega
          have hy2 : y ≤ 100000000000 := by omega
          clear hb4 hb3 hx hy
          by_cases hbig : 4294967295 < y
          · have HRZ : Hid (R = (0, 7)) := by
              show _ = _
              rw [HR2.out, if_pos]
              have := val_take_le S (k + 1)
              rw [HB4.out] at this
              exact decide_eq_true (by omega)
            go_wp2_with fail
            go_ret2
            exact ⟨by rw [HRZ.out]; rfl, rfl⟩
          · go_wp2_with fail
            go_round
            case rel => exact ⟨k + 1, by omega, by go_num, by rw [HB4.out], by rw [HB4.out]; omega⟩
            case measure => simp [intOf]; omega
        · have hk' : k = s.size := by omega
          have hlt' : (s.size : Int) ≤ (k : Int) := by omega
          have HRZ : Hid (R = (val (S.take k), 0)) := by
            show _ = _
            have e : S.take k = S := by rw [List.take_of_length_le]; rw [HL.out]; omega
            rw [e] at hv ⊢
            rw [HR2.out, if_neg (by simpa using hv)]
          clear hk' hlt
          go_wp2_with fail
          go_ret2
          exact ⟨by rw [HRZ.out]; rfl, rfl⟩
  by_cases h1 : 1 < (s.size : Int)
  · by_cases hzz : (S.head? == some 48) = true
    · have hR2 : R = (0, 7) := by
        rw [HR.out, if_pos]
        rw [hzz, decide_eq_true (by omega : 1 < s.size)]; simp
      subst hR2
      rw [hzz] at hz
      clear HR LOOP
      go_enter Tryd.func63, Tryd.ntmps63
      go_wp2_with fail
      go_ret2
      exact ⟨rfl, rfl⟩
    · have hzz' : (S.head? == some 48) = false := by simpa using hzz
      refine LOOP.out ?_ fun _ => by rw [hz]; exact hzz'
      show R = _
      rw [HR.out, hzz']; simp
  · refine LOOP.out ?_ fun h => absurd h h1
    show R = _
    rw [HR.out, decide_eq_false (by omega : ¬ 1 < s.size)]; simp
end Go.Proofs.YtnbklmmampdbfaaDoor
namespace Go.Proofs.YtnbklmmampdbfaaDoor
open Go Go.RowKit
set_option maxRecDepth 20000

/-- What 'first' answers. -/
def FirstR (x : Lx × Nat) (e : Ending) : Prop :=
  match x with
  | (.ok (some (k, t, v)), n) => e = .returned (.tuple #[.agg (tv (k : Nat) 0 ⟨t.toArray⟩ (v : Nat)), .int .i64 ((n + 1 : Nat) : Int), .int .i64 0])
  | (.error er, _) => ∃ k v m : Int, e = .returned (.tuple #[.agg (tv k 0 ⟨#[]⟩ v), .int .i64 m, .int .i64 (er : Nat)])
  | (.ok none, _) => False

theorem abc_str : (⟨#[97, 98, 99, 100, 101, 102, 103, 104, 105, 106, 107, 108, 109, 110, 111, 112, 113, 114, 115, 116, 117, 118, 119, 120, 121, 122]⟩ : ByteArray).data.toList = abcL := rfl
theorem dig_str : (⟨#[48, 49, 50, 51, 52, 53, 54, 55, 56, 57]⟩ : ByteArray).data.toList = digL := rfl
theorem abc_row (s : ByteArray) (hs : s.size ≤ maxLen) (w : World) :
    Calls Tryd.prog 61 #[.string s, .string ⟨#[97, 98, 99, 100, 101, 102, 103, 104, 105, 106, 107, 108, 109, 110, 111, 112, 113, 114, 115, 116, 117, 118, 119, 120, 121, 122]⟩] w fun e w' => e = .returned (.int .i64 ((s.data.toList.takeWhile isLet).length : Nat)) ∧ w' = w :=
  row_any s hs _ isLet (fun c => by rw [abc_str]; exact abc_let c) w
theorem dig_row (s : ByteArray) (hs : s.size ≤ maxLen) (w : World) :
    Calls Tryd.prog 61 #[.string s, .string ⟨#[48, 49, 50, 51, 52, 53, 54, 55, 56, 57]⟩] w fun e w' => e = .returned (.int .i64 ((s.data.toList.takeWhile isDig).length : Nat)) ∧ w' = w :=
  row_any s hs _ isDig (fun c => by rw [dig_str]; exact dig_dig c) w

theorem mk_of_data {s : ByteArray} {x : List UInt8} (h : s.data.toList = x) : s = ⟨x.toArray⟩ := by
  subst h; exact (Lib.mk_data s).symm

theorem dig_all {c : UInt8} {r : List UInt8} (h : isDig c = true) : ∀ b ∈ c :: r.takeWhile isDig, isDig b = true := fun b hb => by
  rcases List.mem_cons.1 hb with rfl | hb
  · exact h
  · exact takeWhile_all _ _ b hb

set_option maxHeartbeats 2000000 in
theorem first_any (s : ByteArray) (hs : s.size ≤ 4096) (c : UInt8) (r : List UInt8) (hS : s.data.toList = c :: r) (hb : isBlank c = false) (hh : (c == 35) = false) (w : World) :
    Calls Tryd.prog 42 #[.string s] w fun e w' => FirstR (lexeme c r) e ∧ Below w.heap.size w w' := by
  have hsz : s.size = r.length + 1 := by rw [Lib.size_eq, hS]; rfl
  have hm : s.size ≤ maxLen := by unfold maxLen; omega
  have C1 : Hid (∀ W, Calls Tryd.prog 61 #[.string s, .string ⟨#[97, 98, 99, 100, 101, 102, 103, 104, 105, 106, 107, 108, 109, 110, 111, 112, 113, 114, 115, 116, 117, 118, 119, 120, 121, 122]⟩] W fun e w' => e = .returned (.int .i64 (((c :: r).takeWhile isLet).length : Nat)) ∧ w' = W) := fun W => by
    rw [← hS]; exact abc_row s hm W
  have C2 : Hid (∀ W, Calls Tryd.prog 61 #[.string s, .string ⟨#[48, 49, 50, 51, 52, 53, 54, 55, 56, 57]⟩] W fun e w' => e = .returned (.int .i64 (((c :: r).takeWhile isDig).length : Nat)) ∧ w' = W) := fun W => by
    rw [← hS]; exact dig_row s hm W
  have C3 : Hid (∀ W, Calls Tryd.prog 64 #[.string s] W fun e w' => e = .returned (.tuple #[.int .i64 ((signR c r).1 : Nat), .int .i64 ((signR c r).2 : Nat)]) ∧ w' = W) := fun W => sign_any s hm c r hS W
  by_cases c1 : isLet c = true
  · have hx : lexeme c r = (Lx.tok 1 (c :: r.takeWhile isLet) 0, (r.takeWhile isLet).length) := by
      unfold lexeme
      simp only [hb, c1, Bool.false_eq_true, if_false, if_true]
    rw [hx]
    clear hx
    have ht : ((c :: r).takeWhile isLet).length = (r.takeWhile isLet).length + 1 := by rw [List.takeWhile_cons, if_pos c1]; rfl
    have hle := takeWhile_le isLet r
    have hd : (s.extract 0 ((r.takeWhile isLet).length + 1)).data.toList = c :: r.takeWhile isLet := by
      rw [Lib.extract_data, hS, List.drop_zero, Nat.sub_zero, List.take_succ_cons, takeWhile_take]
    have hE := mk_of_data hd
    obtain ⟨n, hn⟩ : ∃ n, n = (r.takeWhile isLet).length := ⟨_, rfl⟩
    obtain ⟨t, ht2⟩ : ∃ t, t = c :: r.takeWhile isLet := ⟨_, rfl⟩
    rw [← hn] at ht hle hE
    rw [← ht2] at hE
    rw [ht] at C1
    rw [← hn, ← ht2]
    have C4 : Hid (∀ W, Calls Tryd.prog 62 #[.string (s.extract 0 (n + 1))] W fun e w' => e = .returned (.string (s.extract 0 (n + 1))) ∧ Below W.heap.size W w') := fun W => clone_any _ W (by
      rw [ByteArray.size_extract]; omega)
    clear ht2 hn hd ht c1 hS C2 C3 hb hh hm
    have HE : Hid (s.extract 0 (n + 1) = ⟨t.toArray⟩) := hE
    clear hE
    go_enter Tryd.func42, Tryd.ntmps42
    go_wp2_with fail
    refine (C1.out _).mono ?_
    rintro e w1 ⟨rfl, rfl⟩
    go_wp2_with fail
    refine (C4.out _).mono ?_
    rintro e w2 ⟨rfl, hb2⟩
    rw [HE.out]
    have g2 : w2.heap[w.heap.size]? = some (.cells (tv 0 0 ⟨#[]⟩ 0) 88 (0, 0)) := by rw [hb2.block _ (by simp)]; exact heap_new _ _ _ rfl
    have B2 : Below w.heap.size w w2 := ((Below.refl _ _).alloc (Nat.le_refl _) _).trans (hb2.mono (by simp))
    go_wp2_with (first
      | (refine wl_storeE (E := TokE) TokOk rfl _ _ rfl w.heap.size (tv 1 0 ⟨t.toArray⟩ 0) (tv_fits _ _ _ _) rfl rfl _ g2 rfl _ rfl ?_))
    refine retT (p := 2) (u := 3) (u' := 4) rfl rfl w.heap.size rfl (tv 1 0 ⟨t.toArray⟩ 0) rfl (setRow_heap _ _ _ _ _ _ g2) _ _ rfl rfl ⟨rfl, ?_⟩
    exact below_setRow B2 (Nat.le_refl _) _
  have c1' : isLet c = false := by simpa using c1
  have t1 : ((c :: r).takeWhile isLet).length = 0 := by rw [List.takeWhile_cons, if_neg c1]; rfl
  rw [t1] at C1
  clear t1 c1
  by_cases c2 : isDig c = true
  · have hx : lexeme c r = (match numOf (c :: r.takeWhile isDig) with | some n => Lx.tok 2 [] n | Option.none => Lx.err 7, (r.takeWhile isDig).length) := by
      unfold lexeme
      simp only [hb, c1', c2, Bool.false_eq_true, if_false, if_true]
      rfl
    have ht : ((c :: r).takeWhile isDig).length = (r.takeWhile isDig).length + 1 := by rw [List.takeWhile_cons, if_pos c2]; rfl
    have hle := takeWhile_le isDig r
    have hd : (s.extract 0 ((r.takeWhile isDig).length + 1)).data.toList = c :: r.takeWhile isDig := by
      rw [Lib.extract_data, hS, List.drop_zero, Nat.sub_zero, List.take_succ_cons, takeWhile_take]
    have C4 : Hid (∀ W, Calls Tryd.prog 63 #[.string (s.extract 0 ((r.takeWhile isDig).length + 1))] W fun e w' => e = .returned (.tuple #[.int .i64 ((numR (c :: r.takeWhile isDig)).1 : Nat), .int .i64 ((numR (c :: r.takeWhile isDig)).2 : Nat)]) ∧ w' = W) := fun W => by
      have := number_any (s.extract 0 ((r.takeWhile isDig).length + 1)) (by rw [ByteArray.size_extract]; unfold maxLen; omega) (by rw [ByteArray.size_extract]; omega) (by rw [hd]; exact dig_all c2) W
      rwa [hd] at this
    have HX : Hid (∀ m : Int, FirstR (lexeme c r) (.returned (.tuple #[.agg (tv 2 0 ⟨#[]⟩ ((numR (c :: r.takeWhile isDig)).1 : Nat)), .int .i64 (((r.takeWhile isDig).length + 1 : Nat) : Int), .int .i64 ((numR (c :: r.takeWhile isDig)).2 : Nat)]))) := fun _ => by
      rw [hx]
      unfold numR
      cases numOf (c :: r.takeWhile isDig) with
      | some v => exact rfl
      | none => exact ⟨_, _, _, rfl⟩
    obtain ⟨n, hn⟩ : ∃ n, n = (r.takeWhile isDig).length := ⟨_, rfl⟩
    obtain ⟨R, hR⟩ : ∃ R, R = numR (c :: r.takeWhile isDig) := ⟨_, rfl⟩
    rw [← hR, ← hn] at C4 HX
    rw [← hn] at ht hle
    rw [ht] at C2
    clear hR hn hd ht c2 hS C3 hb hh hm hx
    go_enter Tryd.func42, Tryd.ntmps42
    go_wp2_with fail
    refine (C1.out _).mono ?_
    rintro e w1 ⟨rfl, rfl⟩
    go_wp2_with fail
    refine (C2.out _).mono ?_
    rintro e w1 ⟨rfl, rfl⟩
    go_wp2_with fail
    refine (C4.out _).mono ?_
    rintro e w1 ⟨rfl, rfl⟩
    go_wp2_with (first
      | (refine wl_storeE (E := TokE) TokOk rfl _ _ rfl w.heap.size (tv 2 0 ⟨#[]⟩ (R.1 : Nat)) (tv_fits _ _ _ _) rfl rfl _ (heap_new _ _ _ rfl) rfl _ (setRow_new _ _ _ _ _ rfl) ?_))
    refine retT (p := 2) (u := 3) (u' := 4) rfl rfl w.heap.size rfl (tv 2 0 ⟨#[]⟩ (R.1 : Nat)) rfl (heap_new _ _ _ rfl) _ _ rfl rfl ⟨HX.out 0, ?_⟩
    exact (Below.refl _ _).alloc (Nat.le_refl _) _
  have c2' : isDig c = false := by simpa using c2
  have t2 : ((c :: r).takeWhile isDig).length = 0 := by rw [List.takeWhile_cons, if_neg c2]; rfl
  rw [t2] at C2
  clear t2 c2
  have HX : Hid (if (signR c r).2 = 0 then lexeme c r = (Lx.err 6, 0) else ∃ m, (signR c r).2 = m + 1 ∧ lexeme c r = (Lx.tok (signR c r).1 [] 0, m)) := by
    show ite _ _ _
    unfold lexeme signR
    simp only [hb, c1', c2', Bool.false_eq_true, if_false]
    by_cases k1 : (c == 46) = true
    · simp [k1]
    · have k1' : (c == 46) = false := by simpa using k1
      by_cases k2 : (c == 47) = true
      · simp [k1', k2]
      · have k2' : (c == 47) = false := by simpa using k2
        by_cases k3 : (c == 45) = true
        · by_cases k4 : (r.head? == some 62) = true
          · simp only [k1', k2', k3, k4]; simp
          · have k4' : (r.head? == some 62) = false := by simpa using k4
            simp only [k1', k2', k3, k4']; simp
        · have k3' : (c == 45) = false := by simpa using k3
          by_cases k5 : (c == 10) = true
          · simp [k1', k2', k3', k5]
          · have k5' : (c == 10) = false := by simpa using k5
            simp [k1', k2', k3', k5', hh]
  obtain ⟨R, hR⟩ : ∃ R, R = signR c r := ⟨_, rfl⟩
  rw [← hR] at C3 HX
  clear hR hS hb hh hm c1' c2'
  by_cases h0 : R.2 = 0
  · have HY : Hid (lexeme c r = (Lx.err 6, 0)) := by
      have := HX.out
      rwa [if_pos h0] at this
    rw [HY.out]
    rw [h0] at C3
    clear HX h0
    go_enter Tryd.func42, Tryd.ntmps42
    go_wp2_with fail
    refine (C1.out _).mono ?_
    rintro e w1 ⟨rfl, rfl⟩
    go_wp2_with fail
    refine (C2.out _).mono ?_
    rintro e w1 ⟨rfl, rfl⟩
    go_wp2_with fail
    refine (C3.out _).mono ?_
    rintro e w1 ⟨rfl, rfl⟩
    go_wp2_with (first
      | (refine wl_storeE (E := TokE) TokOk rfl _ _ rfl w.heap.size (tv 0 0 ⟨#[]⟩ 0) (tv_fits _ _ _ _) rfl rfl _ (heap_new _ _ _ rfl) rfl _ (setRow_new _ _ _ _ _ rfl) ?_))
    refine retT (p := 2) (u := 3) (u' := 4) rfl rfl w.heap.size rfl (tv 0 0 ⟨#[]⟩ 0) rfl (heap_new _ _ _ rfl) _ _ rfl rfl ⟨⟨_, _, _, rfl⟩, ?_⟩
    exact (Below.refl _ _).alloc (Nat.le_refl _) _
  · obtain ⟨m, hm, hl⟩ : ∃ m, R.2 = m + 1 ∧ lexeme c r = (Lx.tok R.1 [] 0, m) := by
      have := HX.out
      rwa [if_neg h0] at this
    have hm2 : m ≤ r.length := by have := lexeme_le c r; rw [hl] at this; exact this
    rw [hl]
    rw [hm] at C3
    obtain ⟨k, hk⟩ : ∃ k, k = R.1 := ⟨_, rfl⟩
    rw [← hk] at C3 ⊢
    clear HX h0 hl hm hk
    go_enter Tryd.func42, Tryd.ntmps42
    go_wp2_with fail
    refine (C1.out _).mono ?_
    rintro e w1 ⟨rfl, rfl⟩
    go_wp2_with fail
    refine (C2.out _).mono ?_
    rintro e w1 ⟨rfl, rfl⟩
    go_wp2_with fail
    refine (C3.out _).mono ?_
    rintro e w1 ⟨rfl, rfl⟩
    go_wp2_with (first
      | (refine wl_storeE (E := TokE) TokOk rfl _ _ rfl w.heap.size (tv (k : Nat) 0 ⟨#[]⟩ 0) (tv_fits _ _ _ _) rfl rfl _ (heap_new _ _ _ rfl) rfl _ (setRow_new _ _ _ _ _ rfl) ?_))
    refine retT (p := 2) (u := 3) (u' := 4) rfl rfl w.heap.size rfl (tv (k : Nat) 0 ⟨#[]⟩ 0) rfl (heap_new _ _ _ rfl) _ _ rfl rfl ⟨rfl, ?_⟩
    exact (Below.refl _ _).alloc (Nat.le_refl _) _
end Go.Proofs.YtnbklmmampdbfaaDoor
namespace Go.Proofs.YtnbklmmampdbfaaDoor
open Go Go.RowKit
set_option maxRecDepth 20000

/-- What a text comes to: its tokens, or what is wrong with it and where. -/
def lexT (S : List UInt8) : List Tok × Nat × Nat :=
  if 4096 < S.length then ([], 5, 4096) else match lexW 0 S with | .ok l => (l, 0, 0) | .error x => ([], x.1, x.2)

theorem err_ne {c : UInt8} {r : List UInt8} {n e : Nat} (h : lexeme c r = (Lx.err e, n)) : e = 6 ∨ e = 7 :=
  (lexW_error (c :: r) 0 e 0 (lexW_err h)).2.2
theorem lexW_len {S : List UInt8} {l : List Tok} (h : lexW 0 S = .ok l) : l.length ≤ S.length := (lexW_places S 0 l h).2.2

set_option maxHeartbeats 4000000 in
theorem tokens_any (s : ByteArray) (hs : s.size ≤ maxLen) (w : World) :
    Calls Tryd.prog 25 #[.string s] w fun e w' => ∃ u, e = .returned (.tuple #[u, .int .i64 ((lexT s.data.toList).2.1 : Nat), .int .i64 ((lexT s.data.toList).2.2 : Nat)]) ∧
      w'.ownsRow w.heap.size 88 4 u (lexT s.data.toList).1.length (gcells encT (lexT s.data.toList).1) ∧ Below w.heap.size w w' := by
  unfold maxLen at hs
  by_cases h4 : 4096 < s.size
  · have hR : lexT s.data.toList = ([], 5, 4096) := by unfold lexT; rw [if_pos (by rw [← Lib.size_eq]; exact h4)]
    rw [hR]
    have h4' : (s.size : Int) > 4096 := by omega
    clear hR h4
    go_enter Tryd.func25, Tryd.ntmps25
    go_wp2_with fail
    go_step3
    go_wp2_with fail
    rw [Exit.noGoto_ret]
    go_ret3
    exact ⟨_, rfl, World.ownsRow_nil _ _ _ _, Below.refl _ _⟩
  · obtain ⟨S, hS⟩ : ∃ S, S = s.data.toList := ⟨_, rfl⟩
    have hlen : S.length = s.size := by rw [hS]; exact (Lib.size_eq s).symm
    have HR : Hid (lexT S = match lexW 0 S with | .ok l => (l, 0, 0) | .error x => ([], x.1, x.2)) := by
      show _ = _
      unfold lexT
      rw [if_neg (by omega)]
    have HS : Hid (S = s.data.toList) := hS
    rw [← hS]
    obtain ⟨R, hRR⟩ : ∃ R, R = lexT S := ⟨_, rfl⟩
    rw [← hRR] at HR ⊢
    have h4' : ¬ (s.size : Int) > 4096 := by omega
    clear hS hRR
    go_enter Tryd.func25, Tryd.ntmps25
    go_wp2_with fail
    go_step3
    go_wp2_with fail
    go_step3
    go_wp2_with fail
    go_loopw [5, 6] (fun out i wr => ∃ p : Nat, p ≤ s.size ∧ i = .int .i64 (p : Int) ∧ ∃ P : List Tok, P.length ≤ p ∧ Hid (lexW 0 S = glue P (lexW p (S.drop p))) ∧ wr.ownsRow w.heap.size 88 4 out P.length (gcells encT P) ∧ Below w.heap.size w wr) (fun _ i _ => s.size - (intOf i).toNat)
    case atStart => exact ⟨0, Nat.zero_le _, rfl, [], Nat.zero_le _, (glue_nil _).symm, World.ownsRow_nil _ _ _ _, Below.refl _ _⟩
    case round =>
      obtain ⟨p, hp, rfl, P, hPl, HW, hown, hb⟩ := hrel
      have OWN : Hid (wr.ownsRow w.heap.size 88 4 u5 P.length (gcells encT P)) := hown
      clear hown
      by_cases hlt : p < s.size
      · have hlt' : (p : Int) < (s.size : Int) := by omega
        obtain ⟨c, r, hcr⟩ : ∃ c r, S.drop p = c :: r := by
          cases h : S.drop p with
          | nil =>
            have := congrArg List.length h
            rw [List.length_drop] at this
            simp at this
            omega
          | cons c r => exact ⟨c, r, rfl⟩
        have hrl : r.length + 1 + p = s.size := by
          have := congrArg List.length hcr
          rw [List.length_drop] at this
          simp at this
          omega
        have hix : ∀ W, (Instr.index 9 (.string s) (.int .i64 (p : Int))).run Tryd.prog W = .ok (.int .u8 (c.toNat : Int)) W := fun W => by
          have hc : s[p] = c := by
            have h1 := byte_q s p hlt
            rw [← HS.out] at h1
            have h2 : S[p]? = some c := by rw [← List.head?_drop, hcr]; rfl
            rw [h1] at h2
            simpa using h2
          rw [← hc]
          simp [go_sem, Tryd.underlying9, hlt]
        have HD : Hid (∀ n, r.drop n = S.drop (p + 1 + n)) := fun n => by
          have := congrArg (List.drop 1) hcr
          rw [List.drop_drop] at this
          simp only [List.drop_succ_cons, List.drop_zero] at this
          rw [← this, List.drop_drop]
        have HX : Hid ((s.extract p s.size).data.toList = c :: r) := by
          show _ = _
          rw [Lib.extract_data, ← HS.out, hcr, List.take_of_length_le]
          simp; omega
        have hxs : (s.extract p s.size).size ≤ 4096 := by rw [ByteArray.size_extract]; omega
        rw [hcr] at HW
        have e9 : ((c.toNat : Int) == 9) = (c == 9) := byte_beq c 9
        have e13 : ((c.toNat : Int) == 13) = (c == 13) := byte_beq c 13
        have e32 : ((c.toNat : Int) == 32) = (c == 32) := byte_beq c 32
        have e35 : ((c.toNat : Int) == 35) = (c == 35) := byte_beq c 35
        clear hcr hlt
        by_cases hbl : isBlank c = true
        · have hx : lexeme c r = (Lx.none, 0) := lexeme_blank hbl r
          have HW2 : Hid (lexW 0 S = glue P (lexW (p + 1) (S.drop (p + 1)))) := by
            show _ = _
            rw [HW.out, lexW_none hx, HD.out 0]
          unfold isBlank at hbl
          clear HW hx
          by_cases d9 : (c == 9) = true
          · rw [d9] at e9
            clear e13 e32 e35 hbl d9
            go_wp2_with fail
            go_roundw
            case rel => exact ⟨p + 1, by omega, by go_num, P, by omega, HW2, OWN.out, hb⟩
            case measure => simp [intOf]; omega
          · have d9' : (c == 9) = false := by simpa using d9
            rw [d9'] at e9
            by_cases d13 : (c == 13) = true
            · rw [d13] at e13
              clear e32 e35 hbl d9 d9' d13
              go_wp2_with fail
              go_roundw
              case rel => exact ⟨p + 1, by omega, by go_num, P, by omega, HW2, OWN.out, hb⟩
              case measure => simp [intOf]; omega
            · have d13' : (c == 13) = false := by simpa using d13
              rw [d13'] at e13
              have d32 : (c == 32) = true := by simpa [d9', d13'] using hbl
              rw [d32] at e32
              clear e35 hbl d9 d9' d13 d13' d32
              go_wp2_with fail
              go_roundw
              case rel => exact ⟨p + 1, by omega, by go_num, P, by omega, HW2, OWN.out, hb⟩
              case measure => simp [intOf]; omega
        · have hbl' : isBlank c = false := by simpa using hbl
          have h3 : (c == 9) = false ∧ (c == 13) = false ∧ (c == 32) = false := by
            unfold isBlank at hbl'
            simp only [Bool.or_eq_false_iff] at hbl'
            exact ⟨hbl'.1.1, hbl'.1.2, hbl'.2⟩
          rw [h3.1] at e9
          rw [h3.2.1] at e13
          rw [h3.2.2] at e32
          clear hbl h3
          by_cases d35 : (c == 35) = true
          · have hc35 : c = 35 := by simpa using d35
            have hx := lexeme_hash r
            rw [← hc35] at hx
            have C1 : Hid (∀ W, Calls Tryd.prog 41 #[.string (s.extract p s.size)] W fun e w' => e = .returned (.int .i64 (((r.takeWhile notEnd).length + 1 : Nat) : Int)) ∧ w' = W) := fun W => by
              have := remark_any (s.extract p s.size) W
              rwa [HX.out, List.takeWhile_cons, if_pos (by rw [hc35]; decide), List.length_cons] at this
            have HW2 : Hid (lexW 0 S = glue P (lexW (p + 1 + (r.takeWhile notEnd).length) (S.drop (p + 1 + (r.takeWhile notEnd).length)))) := by
              show _ = _
              rw [HW.out, lexW_none hx, HD.out]
            have hle := takeWhile_le notEnd r
            obtain ⟨n, hn⟩ : ∃ n, n = (r.takeWhile notEnd).length := ⟨_, rfl⟩
            rw [← hn] at C1 HW2 hle
            rw [d35] at e35
            clear hn hx hc35 d35 HW
            go_wp2_with fail
            refine (C1.out _).mono ?_
            rintro e w1 ⟨rfl, rfl⟩
            go_wp2_with fail
            go_roundw
            case rel => exact ⟨p + 1 + n, by omega, by go_num, P, by omega, HW2, OWN.out, hb⟩
            case measure => simp [intOf]; omega
          · have d35' : (c == 35) = false := by simpa using d35
            have C1 : Hid (∀ W, Calls Tryd.prog 42 #[.string (s.extract p s.size)] W fun e w' => FirstR (lexeme c r) e ∧ Below W.heap.size W w') := fun W => first_any (s.extract p s.size) hxs c r HX.out hbl' d35' W
            rw [d35'] at e35
            clear d35
            rcases hx : lexeme c r with ⟨x, n⟩
            have HLE : n ≤ r.length := by have := lexeme_le c r; rw [hx] at this; exact this
            rcases x with e | _ | ⟨k, t, v⟩
            · have he := err_ne hx
              have HRR : Hid (R = ([], e, p)) := by
                show _ = _
                rw [HR.out, HW.out, lexW_err hx]
                rfl
              rw [hx] at C1
              clear hx HW d35'
              have hne : ((e : Int) != 0) = true := by simp; omega
              go_wp2_with fail
              refine (C1.out _).mono ?_
              rintro e1 w1 ⟨⟨k, v, m, rfl⟩, hb1⟩
              have B1 := hb.trans (hb1.mono hb.size)
              go_wp2_with (first
                | (refine wl_storeE (E := TokE) TokOk rfl _ _ rfl w1.heap.size (tv k 0 ⟨#[]⟩ v) (tv_fits _ _ _ _) rfl rfl _ (heap_new _ _ _ rfl) rfl _ (setRow_new _ _ _ _ _ rfl) ?_))
              simp only [Exit.noGoto_ret]
              go_ret3
              rw [HRR.out]
              exact ⟨_, rfl, World.ownsRow_nil _ _ _ _, B1.alloc B1.size _⟩
            · exfalso
              rcases lexeme_none hx with ⟨h1, _⟩ | ⟨h1, _⟩
              · rw [h1] at hbl'; cases hbl'
              · rw [h1] at d35'; cases d35'
            · have HW2 : Hid (lexW 0 S = glue (P ++ [⟨k, p, t, v⟩]) (lexW (p + 1 + n) (S.drop (p + 1 + n)))) := by
                show _ = _
                rw [HW.out, lexW_tok hx, HD.out, glue_glue]
              rw [hx] at C1
              have C2 : Hid (∀ W, Calls Tryd.prog 42 #[.string (s.extract p s.size)] W fun e w' => e = .returned (.tuple #[.agg (tv (k : Nat) 0 ⟨t.toArray⟩ (v : Nat)), .int .i64 ((n + 1 : Nat) : Int), .int .i64 0]) ∧ Below W.heap.size W w') := C1.out
              have HP : Hid (P.length ≤ 4096) := by show _ ≤ _; omega
              clear hx HW C1 d35' hbl' HX HD
              go_wp2_with fail
              refine (C2.out _).mono ?_
              rintro e1 w1 ⟨rfl, hb1⟩
              have B1 := hb.trans (hb1.mono hb.size)
              have OWN1 : Hid (w1.ownsRow w.heap.size 88 4 u5 P.length (gcells encT P)) := gown_below OWN.out hb1
              clear OWN hb hb1
              have z1 := B1.size
              have HNE : Hid (u5.ownBlock ≠ some w1.heap.size) := gown_ne OWN1.out (Nat.le_refl _)
              go_wp2_with (first
                | (refine wl_storeE (E := TokE) TokOk rfl _ _ rfl w1.heap.size (tv (k : Nat) 0 ⟨t.toArray⟩ (v : Nat)) (tv_fits _ _ _ _) rfl rfl _ (heap_new _ _ _ rfl) rfl _ (setRow_new _ _ _ _ _ rfl) ?_)
                | (refine wl_loadE (E := TokE) TokOk rfl _ rfl w1.heap.size 0 rfl _ _ _ (tv (k : Nat) (p : Nat) ⟨t.toArray⟩ (v : Nat)) rfl (heap_new _ _ _ rfl) (own_cells _ _) ?_)
                | (refine wl_buildE (E := TokE) TokOk rfl _ rfl (tv (k : Nat) (p : Nat) ⟨t.toArray⟩ (v : Nat)) rfl rfl ?_)
                | (at_builtin; refine of_stopT ?_))
              unfold StopT
              have a1 := heap_new (w1.alloc (.cells ((tv (k : Nat) 0 ⟨t.toArray⟩ (v : Nat)).setIfInBounds 1 (.int .i64 (p : Int))) 88)) (.cells (tv (k : Nat) (p : Nat) ⟨t.toArray⟩ (v : Nat)) 88) (w1.heap.size + 1) (by simp)
              have OWN3 : Hid (((w1.alloc (.cells ((tv (k : Nat) 0 ⟨t.toArray⟩ (v : Nat)).setIfInBounds 1 (.int .i64 (p : Int))) 88)).alloc (.cells (tv (k : Nat) (p : Nat) ⟨t.toArray⟩ (v : Nat)) 88)).ownsRow w.heap.size 88 4 u5 P.length (gcells encT P)) := (OWN1.out.alloc _).alloc _
              have B3 := (B1.alloc B1.size (.cells ((tv (k : Nat) 0 ⟨t.toArray⟩ (v : Nat)).setIfInBounds 1 (.int .i64 (p : Int))) 88)).alloc (by simp; omega) (.cells (tv (k : Nat) (p : Nat) ⟨t.toArray⟩ (v : Nat)) 88)
              refine wl_appendE (E := TokE) TokOk encT rfl _ _ rfl w.heap.size _ P (⟨k, p, t, v⟩ : Tok) (tv_fits _ _ _ _) rfl OWN3.out _ 1 rfl a1 (by have := HP.out; omega) (by simp; omega) ?_
              intro v' w2 hown2 hgr _
              have B4 : Below w.heap.size w w2 := B3.grown hgr (by simp; omega) (fun q hq => (OWN3.out.lt q hq).1)
              have OWN4 : Hid (w2.ownsRow w.heap.size 88 4 v' (P ++ [(⟨k, p, t, v⟩ : Tok)]).length (gcells encT (P ++ [(⟨k, p, t, v⟩ : Tok)]))) := hown2
              simp only [Act.put, List.setIfInBounds_toArray, List.set_cons_succ, List.set_cons_zero]
              clear hown2 hgr a1 OWN3 B3 B1 OWN1
              go_wp2_with fail
              go_roundw
              case rel => exact ⟨p + 1 + n, by omega, by go_num, P ++ [⟨k, p, t, v⟩], by simp; omega, HW2, OWN4.out, B4⟩
              case measure => simp [intOf]; omega
      · have hlt' : (s.size : Int) ≤ (p : Int) := by omega
        have HRR : Hid (R = (P, 0, 0)) := by
          show _ = _
          rw [HR.out, HW.out, List.drop_of_length_le (by omega), lexW_nil]
          simp [glue]
        clear hlt HW
        go_wp2_with fail
        simp only [Exit.noGoto_ret]
        go_ret3
        rw [HRR.out]
        exact ⟨_, rfl, OWN.out, hb⟩
end Go.Proofs.YtnbklmmampdbfaaDoor
namespace Go.Proofs.YtnbklmmampdbfaaDoor
open Go Go.RowKit
set_option maxRecDepth 20000

theorem lexeme_wordless {c : UInt8} {r : List UInt8} {n k v : Nat} {t : List UInt8} (h : lexeme c r = (Lx.tok k t v, n)) : k = 1 ∨ t = [] := by
  unfold lexeme at h
  repeat' split at h
  all_goals simp only [Prod.mk.injEq, Except.ok.injEq, Option.some.injEq, reduceCtorEq, false_and] at h
  all_goals first | exact .inl h.1.1.symm | exact .inr h.1.2.1.symm | skip
theorem lexW_word : ∀ (S : List UInt8) (p : Nat) (l : List Tok), lexW p S = .ok l → WordT l := by
  refine lexW_induct _ (fun p l h => ?_) (fun p c r n hx ih l h => ?_) (fun p c r n k t v hx ih l h => ?_) (fun p c r n e hx l h => ?_)
  · rw [lexW_nil] at h
    obtain rfl : [] = l := Except.ok.inj h
    intro t ht; simp at ht
  · rw [lexW_none hx] at h; exact ih l h
  · rw [lexW_tok hx] at h
    cases hy : lexW (p + 1 + n) (r.drop n) with
    | error x => rw [hy] at h; simp [glue] at h
    | ok l' =>
      rw [hy] at h
      obtain rfl : ⟨k, p, t, v⟩ :: l' = l := by simpa [glue] using h
      intro u hu
      rcases List.mem_cons.1 hu with rfl | hu
      · intro ht
        rcases lexeme_wordless hx with hk | hk
        · exact hk
        · exfalso
          have ht' : t = wDefault := ht
          rw [hk] at ht'
          cases ht'
      · exact ih l' hy u hu
  · rw [lexW_err hx] at h; cases h
/-- What a text parses to: its lines, or what is wrong with it and where. -/
def parseP (S : List UInt8) : List Raw × Nat × Nat := match parseT S with | .ok l => (l, 0, 0) | .error x => ([], x.1, x.2)
theorem parseP_lex {S : List UInt8} (h : (lexT S).2.1 ≠ 0) : parseP S = ([], (lexT S).2.1, (lexT S).2.2) := by
  unfold parseP parseT
  unfold lexT at h ⊢
  by_cases h4 : 4096 < S.length
  · rw [if_pos h4, if_pos h4]
  · rw [if_neg h4, if_neg h4]
    rw [if_neg h4] at h
    cases hx : lexW 0 S with
    | ok l => rw [hx] at h; exact absurd rfl h
    | error x => rfl
theorem parseP_ok {S : List UInt8} (h : (lexT S).2.1 = 0) : ∃ T, lexW 0 S = .ok T ∧ lexT S = (T, 0, 0) ∧ S.length ≤ 4096 ∧ parseP S = match takeL S.length (T.length + 1) [] T with | .ok l => (l, 0, 0) | .error x => ([], x.1, x.2) := by
  unfold parseP parseT
  unfold lexT at h ⊢
  by_cases h4 : 4096 < S.length
  · rw [if_pos h4] at h; exact absurd h (by decide)
  · rw [if_neg h4, if_neg h4]
    rw [if_neg h4] at h
    cases hx : lexW 0 S with
    | ok l => exact ⟨l, rfl, rfl, by omega, rfl⟩
    | error x =>
      obtain ⟨e, p⟩ := x
      rw [hx] at h
      have := lexW_error S 0 e p hx
      have h' : e = 0 := h
      omega

theorem load_one {ty : TypeId} (W : World) (ha : (isAgg ty).run Tryd.prog W = .ok false W) (ad : Addr) (v : Value) (h : W.cell? ad = some v) : (Instr.loadAt ty (.pointer (some ad))).run Tryd.prog W = .ok v W := by
  simp [Instr.loadAt, Instr.sureAddr, loadVar, Sem.run_bind, ha, go_sem, h]
theorem store_one {ty : TypeId} (hsz : ∀ W, (sizeOf ty).run Tryd.prog W = .ok 1 W) (W : World) (ad : Addr) (v u : Value) (hv : (∃ o n c, v = .slice o n c) ∨ (∃ k z, v = .int k z)) (h : W.cell? ad = some u) (hz : W.frozen? ad = false) : (Instr.storeAt ty (.pointer (some ad)) v).run Tryd.prog W = .ok () (W.setCell ad v) := by
  rcases hv with ⟨o, n, c, rfl⟩ | ⟨k, z, rfl⟩
  · simp [Instr.storeAt, Instr.sureAddr, storeVar, Sem.run_bind, hsz, go_sem, h, hz]
  · simp [Instr.storeAt, Instr.sureAddr, storeVar, Sem.run_bind, hsz, go_sem, h, hz]
/-- The three results as they lie in memory, one cell each. -/
structure Res3 (w : World) (b0 : Nat) (x0 x1 x2 : Value) : Prop where
  k0 : w.heap[b0]? = some (.cells #[x0] 50 (0, 0))
  k1 : w.heap[b0 + 1]? = some (.cells #[x1] 26 (0, 0))
  k2 : w.heap[b0 + 1 + 1]? = some (.cells #[x2] 3 (0, 0))
theorem Res3.set0 {w : World} {b0 : Nat} {x0 x1 x2 : Value} (h : Res3 w b0 x0 x1 x2) (y : Value) : Res3 (w.setCell ⟨b0, 0, none⟩ y) b0 y x1 x2 := ⟨tc_row h.k0 y, (tc_far (by omega) y).trans h.k1, (tc_far (by omega) y).trans h.k2⟩
theorem Res3.set1 {w : World} {b0 : Nat} {x0 x1 x2 : Value} (h : Res3 w b0 x0 x1 x2) (y : Value) : Res3 (w.setCell ⟨b0 + 1, 0, none⟩ y) b0 x0 y x2 := ⟨(tc_far (by omega) y).trans h.k0, tc_row h.k1 y, (tc_far (by omega) y).trans h.k2⟩
theorem Res3.set2 {w : World} {b0 : Nat} {x0 x1 x2 : Value} (h : Res3 w b0 x0 x1 x2) (y : Value) : Res3 (w.setCell ⟨b0 + 1 + 1, 0, none⟩ y) b0 x0 x1 y := ⟨(tc_far (by omega) y).trans h.k0, (tc_far (by omega) y).trans h.k1, tc_row h.k2 y⟩
theorem Res3.far {w : World} {b0 : Nat} {x0 x1 x2 : Value} (h : Res3 w b0 x0 x1 x2) {w' : World} (hb : ∀ k, k = b0 ∨ k = b0 + 1 ∨ k = b0 + 1 + 1 → w'.heap[k]? = w.heap[k]?) : Res3 w' b0 x0 x1 x2 := ⟨(hb _ (.inl rfl)).trans h.k0, (hb _ (.inr (.inl rfl))).trans h.k1, (hb _ (.inr (.inr rfl))).trans h.k2⟩
theorem wl_storeX {ops : Array Oper} {rest : List Oper} {o : Oper} {a : Act} {w : World} {Q : Exit → Act → World → Prop} (hgd : o.guard = none) (x y : Operand) (ho : o.op = .store 62 x y)
    (g : Nat) (c q : Int) (hx : a.eval x = .pointer (some ⟨g, 0, none⟩)) (hy : a.eval y = .agg #[.int .i64 c, .int .i64 q]) (old : Array Value) (hg : w.heap[g]? = some (.cells old 62 (0, 0))) (hold : old.size = 2) (w' : World) (hw' : w.setRow g #[.int .i64 c, .int .i64 q] = w')
    (h : wpList Tryd.prog ops Q rest (a.put o.dst undef) w') : wpList Tryd.prog ops Q (o :: rest) a w :=
  wpList_store_row hgd 62 x y ho g _ hx hy 62 old hg (by kernel_rfl) hold (by simp [Value.oneCell']) (by rw [hw']; exact h)

set_option maxHeartbeats 2000000 in
theorem catch_fault (b0 : Nat) (c q : Nat) (x0 x1 x2 : Value) (w : World) (k : Res3 w b0 x0 x1 x2) (hb0 : b0 + 2 < w.heap.size) (B : Nat) (hB : B ≤ b0) :
    CallsD Tryd.prog 26 #[.pointer (some ⟨b0, 0, none⟩), .pointer (some ⟨b0 + 1, 0, none⟩), .pointer (some ⟨b0 + 1 + 1, 0, none⟩)] (.panicking [{ v := faultV c q, recovered := false }]) w fun e u' w' =>
      e = .returned (.tuple #[]) ∧ u' = .panicking [{ v := faultV c q, recovered := true }] ∧ Res3 w' b0 (.slice none 0 0) (.int .i64 (c : Int)) (.int .i64 (q : Int)) ∧ Below B w w' := by
  unfold faultV
  refine callsD_of_wpS Tryd.func26 rfl fun c₀ cs hu => ?_
  apply wpS_seq
  apply wpS_region
  simp [wpOpsS, go_sem, recoverD, hu, Tryd.ntmps26, Exit.thenS]
  refine wpS_of_wp ?_
  have hta : ∀ W, (Instr.typeAssert (.iface 62 (.agg #[.int .i64 (c : Int), .int .i64 (q : Int)])) 20 62 false).run Tryd.prog W = .ok (.agg #[.int .i64 (c : Int), .int .i64 (q : Int)]) W := fun W => by kernel_rfl
  have hrep : Array.replicate 11 undef = #[undef, undef, undef, undef, undef, undef, undef, undef, undef, undef, undef] := rfl
  simp only [hrep, List.setIfInBounds_toArray, List.set_cons_succ, List.set_cons_zero, List.append_toArray, List.cons_append, List.nil_append]
  clear hrep
  go_wp2_with (first
    | (refine wl_storeX rfl _ _ rfl w.heap.size (c : Int) (q : Int) rfl rfl _ (heap_new _ _ _ rfl) rfl _ (setRow_new _ _ _ _ _ rfl) ?_))
  obtain ⟨wa, hwa⟩ : ∃ wa, wa = w.alloc (.cells #[.int .i64 (c : Int), .int .i64 (q : Int)] 62) := ⟨_, rfl⟩
  rw [← hwa]
  obtain ⟨F, hF⟩ : ∃ F, F = w.heap.size := ⟨_, rfl⟩
  rw [← hF]
  have kF : wa.heap[F]? = some (.cells #[.int .i64 (c : Int), .int .i64 (q : Int)] 62 (0, 0)) := by rw [hwa, hF]; exact heap_new _ _ _ rfl
  have ka : Res3 wa b0 x0 x1 x2 := k.far fun j hj => by
    rw [hwa]
    have hlt : j < w.heap.size := by omega
    exact (heap_past w _ _ _ (Array.getElem?_eq_getElem hlt)).trans (Array.getElem?_eq_getElem hlt).symm
  have ba : Below B w wa := by rw [hwa]; exact (Below.refl _ _).alloc (by omega) _
  have hFb : F ≠ b0 ∧ F ≠ b0 + 1 ∧ F ≠ b0 + 1 + 1 := by omega
  clear hwa hF k hb0
  refine region_cut (fun a a' w' => a'.defers = [] ∧ Res3 w' b0 (.slice none 0 0) (.int .i64 (c : Int)) (.int .i64 (q : Int)) ∧ Below B w w') ?_ ?_
  · refine region_beginS (fun w' => w'.heap[F]? = some (.cells #[.int .i64 (c : Int), .int .i64 (q : Int)] 62 (0, 0))) 7 rfl (by kernel_rfl) ?_
    have i24 : ∀ W, (isAgg 26).run Tryd.prog W = .ok false W := fun W => by kernel_rfl
    have i3 : ∀ W, (isAgg 3).run Tryd.prog W = .ok false W := fun W => by kernel_rfl
    have fa0 : ∀ W, (Instr.fieldAt 62 (.pointer (some ⟨F, 0, none⟩)) 0).run Tryd.prog W = .ok (.pointer (some ⟨F, 0, none⟩)) W := fun W => by simp [go_sem]
    have fa1 : ∀ W, (Instr.fieldAt 62 (.pointer (some ⟨F, 0, none⟩)) 1).run Tryd.prog W = .ok (.pointer (some ⟨F, 1, none⟩)) W := fun W => by simp [go_sem]
    refine wpAnyH_take (i := 0) (v := .pointer (some ⟨F, 0, none⟩)) rfl (by kernel_rfl) (by kernel_rfl) (by kernel_rfl) (fun _ _ _ h => absurd h.1 (by simp)) (.inl ⟨rfl, fun W _ => run_fieldOp rfl _ _ _ (fa0 W)⟩) kF ?_
    refine wpAnyH_take (i := 1) (v := .int .i64 (c : Int)) rfl (by kernel_rfl) (by kernel_rfl) (by kernel_rfl) (fun _ _ _ h => absurd h.1 (by simp)) (.inl ⟨rfl, fun W hW => run_loadOp rfl _ _ _ _ rfl (load_one W (i24 W) _ _ (by rw [cell_of_row _ _ _ _ _ _ hW]; rfl))⟩) kF ?_
    refine wpAnyH_take (i := 2) (v := .pointer (some ⟨F, 1, none⟩)) rfl (by kernel_rfl) (by kernel_rfl) (by kernel_rfl) (fun _ _ _ h => absurd h.1 (by simp)) (.inl ⟨rfl, fun W _ => run_fieldOp rfl _ _ _ (fa1 W)⟩) kF ?_
    refine wpAnyH_take (i := 3) (v := .int .i64 (q : Int)) rfl (by kernel_rfl) (by kernel_rfl) (by kernel_rfl) (fun _ _ _ h => absurd h.1 (by simp)) (.inl ⟨rfl, fun W hW => run_loadOp rfl _ _ _ _ rfl (load_one W (i3 W) _ _ (by rw [cell_of_row _ _ _ _ _ _ hW]; rfl))⟩) kF ?_
    have kd : Res3 wa.drew b0 x0 x1 x2 := ⟨ka.k0, ka.k1, ka.k2⟩
    have kFd : wa.drew.heap[F]? = some (.cells #[.int .i64 (c : Int), .int .i64 (q : Int)] 62 (0, 0)) := kF
    have bd : Below B w wa.drew := ba.drew
    refine wpAnyH_all (rs := [4]) (by kernel_rfl) (by decide) ?_
    intro i hi
    obtain rfl := List.mem_singleton.1 hi
    refine wpOp_skip0 rfl rfl (run_storeOp rfl _ _ _ (.pointer (some ⟨b0, 0, none⟩)) (.slice none 0 0) rfl rfl (store_one (fun W => Tryd.sizeOf50 W) _ _ _ x0 (.inl ⟨_, _, _, rfl⟩) (by rw [cell_of_row _ _ _ _ _ _ kd.k0]; rfl) (tc_frozen kd.k0 rfl))) rfl ⟨(tc_far (by omega) _).trans kFd, ?_⟩
    have k4 := kd.set0 (.slice none 0 0)
    have kF4 := (tc_far (w := wa.drew) (k := 0) (Ne.symm hFb.1) (.slice none 0 0)).trans kFd
    have b4 := tc_below bd (g := b0) hB 0 (.slice none 0 0)
    refine wpAnyH_all (rs := [5]) (by kernel_rfl) (by decide) ?_
    intro i hi
    obtain rfl := List.mem_singleton.1 hi
    refine wpOp_skip0 rfl rfl (run_storeOp rfl _ _ _ (.pointer (some ⟨b0 + 1, 0, none⟩)) (.int .i64 (c : Int)) rfl rfl (store_one (fun W => Tryd.sizeOf26 W) _ _ _ x1 (.inr ⟨_, _, rfl⟩) (by rw [cell_of_row _ _ _ _ _ _ k4.k1]; rfl) (tc_frozen k4.k1 rfl))) rfl ⟨(tc_far (by omega) _).trans kF4, ?_⟩
    have k5 := k4.set1 (.int .i64 (c : Int))
    have kF5 := (tc_far (w := wa.drew.setCell ⟨b0, 0, none⟩ (.slice none 0 0)) (k := 0) (Ne.symm hFb.2.1) (.int .i64 (c : Int))).trans kF4
    have b5 := tc_below b4 (g := b0 + 1) (by omega) 0 (.int .i64 (c : Int))
    refine wpAnyH_all (rs := [6]) (by kernel_rfl) (by decide) ?_
    intro i hi
    obtain rfl := List.mem_singleton.1 hi
    refine wpOp_skip0 rfl rfl (run_storeOp rfl _ _ _ (.pointer (some ⟨b0 + 1 + 1, 0, none⟩)) (.int .i64 (q : Int)) rfl rfl (store_one (fun W => Tryd.sizeOf3 W) _ _ _ x2 (.inr ⟨_, _, rfl⟩) (by rw [cell_of_row _ _ _ _ _ _ k5.k2]; rfl) (tc_frozen k5.k2 rfl))) rfl ⟨(tc_far (by omega) _).trans kF5, ?_⟩
    refine wpAnyH_done (by kernel_rfl) ?_ _
    exact ⟨rfl, rfl, k5.set2 _, tc_below b5 (by omega) 0 _⟩
  rintro a' w' ⟨hdf, k6, b6⟩
  go_wp2_with fail
  exact ⟨hdf, _, rfl, .tuple #[], by simp [results, Tryd.results26], rfl, rfl, k6, b6⟩
theorem catch_idle (b0 b1 b2 : Nat) (w : World) :
    CallsD Tryd.prog 26 #[.pointer (some ⟨b0, 0, none⟩), .pointer (some ⟨b1, 0, none⟩), .pointer (some ⟨b2, 0, none⟩)] .returning w fun e u' w' => e = .returned (.tuple #[]) ∧ u' = .returning ∧ w' = w := by
  refine callsD_of_wpS Tryd.func26 rfl fun c₀ cs hu => ?_
  apply wpS_seq
  apply wpS_region
  simp [wpOpsS, go_sem, recoverD, hu, Tryd.ntmps26, Exit.thenS]
  refine wpS_of_wp ?_
  have hrep : Array.replicate 11 undef = #[undef, undef, undef, undef, undef, undef, undef, undef, undef, undef, undef] := rfl
  simp only [hrep, List.setIfInBounds_toArray, List.set_cons_succ, List.set_cons_zero, List.append_toArray, List.cons_append, List.nil_append]
  clear hrep
  go_wp2_with fail
  cases c₀
  simp_all [bodyPostS, results, Tryd.results26]
theorem res3_run {tmps : Array Value} {fn : Func} (hr : fn.results = #[.cell 2 50, .cell 3 26, .cell 4 3]) {w : World} {b0 : Nat} {x0 x1 x2 : Value} (h : Res3 w b0 x0 x1 x2) (h2 : tmps.getD 2 undef = .pointer (some ⟨b0, 0, none⟩)) (h3 : tmps.getD 3 undef = .pointer (some ⟨b0 + 1, 0, none⟩)) (h4 : tmps.getD 4 undef = .pointer (some ⟨b0 + 1 + 1, 0, none⟩)) :
    (results fn tmps).run Tryd.prog w = .ok (.tuple #[x0, x1, x2]) w := by
  rw [Array.getD_eq_getD_getElem?] at h2 h3 h4
  have a0 : (isAgg 50).run Tryd.prog w = .ok false w := by kernel_rfl
  have c0 : w.cell? ⟨b0, 0, none⟩ = some x0 := by rw [cell_of_row _ _ _ _ _ _ h.k0]; rfl
  have c1 : w.cell? ⟨b0 + 1, 0, none⟩ = some x1 := by rw [cell_of_row _ _ _ _ _ _ h.k1]; rfl
  have c2 : w.cell? ⟨b0 + 1 + 1, 0, none⟩ = some x2 := by rw [cell_of_row _ _ _ _ _ _ h.k2]; rfl
  simp [results, hr, h2, h3, h4, asAddr, loadVar, a0, c0, c1, c2, go_sem]
theorem raws_set {w : World} {B : Nat} {L : List Raw} {v : Value} (h : RawsOwn B w L v) {p i : Nat} {cs : Array Value} {t : TypeId} {fr : Nat × Nat} (hp : w.heap[p]? = some (.cells cs t fr)) (ht : 70 ≠ t ∧ 100 ≠ t ∧ 67 ≠ t) (y : Value) : RawsOwn B (w.setCell ⟨p, i, none⟩ y) L v := by
  obtain ⟨P, h1, h2, h3⟩ := h
  refine ⟨P, h1, own_set h2 hp ht.1 y, fun q hq => ?_⟩
  obtain ⟨P', g1, g2, g3⟩ := h3 q hq
  exact ⟨P', g1, own_set g2 hp ht.2.1 y, fun r hr => own_set (g3 r hr) hp ht.2.2 y⟩
theorem raws_base {w : World} {B B' : Nat} {L : List Raw} {v : Value} (h : RawsOwn B w L v) (hB : B' ≤ B) : RawsOwn B' w L v := by
  obtain ⟨P, h1, h2, h3⟩ := h
  exact ⟨P, h1, gown_base h2 hB, fun q hq => clas_base (h3 q hq) hB⟩

theorem wl_storeRd {ops : Array Oper} {rest : List Oper} {o : Oper} {a : Act} {w : World} {Q : Exit → Act → World → Prop} (hgd : o.guard = none) (x y : Operand) (ho : o.op = .store 64 x y)
    (g : Nat) (so : Option Addr) (sn sc : Nat) (q : Int) (hx : a.eval x = .pointer (some ⟨g, 0, none⟩)) (hy : a.eval y = .agg #[.slice so sn sc, .int .i64 q]) (old : Array Value) (hg : w.heap[g]? = some (.cells old 64 (0, 0))) (hold : old.size = 2) (w' : World) (hw' : w.setRow g #[.slice so sn sc, .int .i64 q] = w')
    (h : wpList Tryd.prog ops Q rest (a.put o.dst undef) w') : wpList Tryd.prog ops Q (o :: rest) a w :=
  wpList_store_row hgd 64 x y ho g _ hx hy 64 old hg (by kernel_rfl) hold (by simp [Value.oneCell']) (by rw [hw']; exact h)

set_option maxHeartbeats 8000000 in
theorem parse_any (s : ByteArray) (hs : s.size ≤ maxLen) (w : World) :
    Calls Tryd.prog 18 #[.string s] w fun e w' => ∃ v, e = .returned (.tuple #[v, .int .i64 ((parseP s.data.toList).2.1 : Nat), .int .i64 ((parseP s.data.toList).2.2 : Nat)]) ∧ RawsOwn w.heap.size w' (parseP s.data.toList).1 v ∧ Below w.heap.size w w' := by
  have C1 : Hid (∀ W, Calls Tryd.prog 25 #[.string s] W fun e w' => ∃ u, e = .returned (.tuple #[u, .int .i64 ((lexT s.data.toList).2.1 : Nat), .int .i64 ((lexT s.data.toList).2.2 : Nat)]) ∧ w'.ownsRow W.heap.size 88 4 u (lexT s.data.toList).1.length (gcells encT (lexT s.data.toList).1) ∧ Below W.heap.size W w') := tokens_any s hs
  have hmf : ∀ (fn : Fn) (first cap : Array Value) (w : World), (Instr.makeFunc fn first cap).run Tryd.prog w = .ok (.func fn first cap) w := fun _ _ _ _ => rfl
  obtain ⟨S, hS⟩ : ∃ S, S = s.data.toList := ⟨_, rfl⟩
  have hlen : S.length = s.size := by rw [hS]; exact (Lib.size_eq s).symm
  rw [← hS] at C1 ⊢
  have HLEN : Hid (S.length = s.size) := hlen
  clear hS hlen hs
  by_cases hE : (lexT S).2.1 = 0
  · obtain ⟨T, hT, hL, h4, hP⟩ := parseP_ok hE
    rw [hL] at C1
    have C2 : Hid (∀ W, Calls Tryd.prog 25 #[.string s] W fun e w' => ∃ u, e = .returned (.tuple #[u, .int .i64 0, .int .i64 0]) ∧ w'.ownsRow W.heap.size 88 4 u T.length (gcells encT T) ∧ Below W.heap.size W w') := C1.out
    have HTl : Hid (T.length ≤ 5000) := by have := lexW_len hT; show _ ≤ _; omega
    have HTW : Hid (WordT T) := lexW_word S 0 T hT
    have HP : Hid (parseP S = match takeL S.length (T.length + 1) [] T with | .ok l => (l, 0, 0) | .error x => ([], x.1, x.2)) := hP
    obtain ⟨R, hR⟩ : ∃ R, R = parseP S := ⟨_, rfl⟩
    rw [← hR] at HP ⊢
    clear hE hT hL hP hR C1 h4
    go_enter_defers Tryd.func18, Tryd.ntmps18
    go_wp2_with fail
    refine (C2.out _).mono ?_
    rintro e w1 ⟨u, rfl, hown1, hb1⟩
    obtain ⟨o, cap, rfl⟩ := gown_slice hown1
    have B1 : Below w.heap.size w w1 := (((((Below.refl _ _).alloc (Nat.le_refl _) _).alloc (by simp) _).alloc (by simp; omega) _)).trans (hb1.mono (by simp; omega))
    have z1 : w.heap.size + 3 ≤ w1.heap.size := by have := hb1.size; simp at this; omega
    have K1 : Res3 w1 w.heap.size (.slice none 0 0) (.int .i64 0) (.int .i64 0) :=
      ⟨(hb1.block _ (by simp; omega)).trans (heap_past _ _ _ _ (heap_past _ _ _ _ (heap_new _ _ _ rfl))), (hb1.block _ (by simp)).trans (heap_past _ _ _ _ (heap_new _ _ _ (by simp))), (hb1.block _ (by simp)).trans (heap_new _ _ _ (by simp))⟩
    have K2 := K1.set1 (.int .i64 0)
    have K3 := K2.set2 (.int .i64 0)
    have c1 : w1.cell? ⟨w.heap.size + 1, 0, none⟩ = some (.int .i64 0) := by rw [cell_of_row _ _ _ _ _ _ K1.k1]; rfl
    have f1 : w1.frozen? ⟨w.heap.size + 1, 0, none⟩ = false := tc_frozen K1.k1 rfl
    have c2 : (w1.setCell ⟨w.heap.size + 1, 0, none⟩ (.int .i64 0)).cell? ⟨w.heap.size + 1 + 1, 0, none⟩ = some (.int .i64 0) := by rw [cell_of_row _ _ _ _ _ _ K2.k2]; rfl
    have f2 : (w1.setCell ⟨w.heap.size + 1, 0, none⟩ (.int .i64 0)).frozen? ⟨w.heap.size + 1 + 1, 0, none⟩ = false := tc_frozen K2.k2 rfl
    have c3 : ((w1.setCell ⟨w.heap.size + 1, 0, none⟩ (.int .i64 0)).setCell ⟨w.heap.size + 1 + 1, 0, none⟩ (.int .i64 0)).cell? ⟨w.heap.size + 1, 0, none⟩ = some (.int .i64 0) := by rw [cell_of_row _ _ _ _ _ _ K3.k1]; rfl
    have B3 : Below w.heap.size w ((w1.setCell ⟨w.heap.size + 1, 0, none⟩ (.int .i64 0)).setCell ⟨w.heap.size + 1 + 1, 0, none⟩ (.int .i64 0)) := tc_below (tc_below B1 (by omega) _ _) (by omega) _ _
    have G3 : GSl TokE encT ((w1.setCell ⟨w.heap.size + 1, 0, none⟩ (.int .i64 0)).setCell ⟨w.heap.size + 1 + 1, 0, none⟩ (.int .i64 0)) (.slice o T.length cap) T := gsl_of (E := TokE) (own_set (own_set hown1 K1.k1 (by decide) _) K2.k2 (by decide) _) fun c _ => rfl
    have HK : Hid (_ ∧ _ ∧ _) := ⟨K3, B3, G3⟩
    have z3 : ((w1.setCell ⟨w.heap.size + 1, 0, none⟩ (.int .i64 0)).setCell ⟨w.heap.size + 1 + 1, 0, none⟩ (.int .i64 0)).heap.size = w1.heap.size := by rw [tc_size, tc_size]
    obtain ⟨w2, hw2⟩ : ∃ w2, w2 = ((w1.setCell ⟨w.heap.size + 1, 0, none⟩ (.int .i64 0)).setCell ⟨w.heap.size + 1 + 1, 0, none⟩ (.int .i64 0)) := ⟨_, rfl⟩
    rw [← hw2] at HK c3 z3
    have HW2 : Hid (w2 = ((w1.setCell ⟨w.heap.size + 1, 0, none⟩ (.int .i64 0)).setCell ⟨w.heap.size + 1 + 1, 0, none⟩ (.int .i64 0))) := hw2
    have c3' : ((w1.setCell ⟨w.heap.size + 1, 0, none⟩ (.int .i64 0)).setCell ⟨w.heap.size + 1 + 1, 0, none⟩ (.int .i64 0)).cell? ⟨w.heap.size + 1, 0, none⟩ = some (.int .i64 0) := by rw [← hw2]; exact c3
    have ZZ : Hid (w2.heap.size = w1.heap.size) := z3
    clear hb1 hown1 B1 K1 K2 K3 B3 G3 hw2 c3 z3
    go_wp2_with (first
      | (refine wl_storeRd rfl _ _ rfl _ o T.length cap (s.size : Int) rfl rfl _ (heap_new _ _ _ rfl) rfl _ (setRow_new _ _ _ _ _ rfl) ?_))
    rw [← HW2.out]
    have hz := ZZ.out
    have RD : Rd w2 (w2.alloc (.cells #[.slice o T.length cap, .int .i64 (s.size : Int)] 64)) w1.heap.size S.length T :=
      ⟨(Below.refl _ _).alloc (Nat.le_refl _) _, by omega, .slice o T.length cap, by rw [HLEN.out]; exact heap_new _ _ _ (by omega), HK.out.2.2⟩
    have HZ : Hid (w2.heap.size = w1.heap.size) := hz
    have z2 : w1.heap.size ≤ w2.heap.size := by omega
    refine (lines_any w2 _ w1.heap.size S.length T HTl.out HTW.out RD).mono ?_
    clear RD hz c1 f1 c2 f2 c3'
    cases hA : takeL S.length (T.length + 1) [] T with
    | error x =>
      obtain ⟨c, q⟩ := x
      have HR : Hid (R = ([], c, q)) := by show _ = _; rw [HP.out, hA]
      clear hA
      rintro e w5 ⟨hg5, rfl⟩
      have z5 := hg5.size
      rw [World.size_alloc] at z5
      have K5 : Res3 w5 w.heap.size (.slice none 0 0) (.int .i64 0) (.int .i64 0) := HK.out.1.far fun j hj => by
        have hlt : j < w2.heap.size := by omega
        exact (hg5.block j (by rw [World.size_alloc]; omega) (by simp; omega)).trans ((heap_past w2 _ _ _ (Array.getElem?_eq_getElem hlt)).trans (Array.getElem?_eq_getElem hlt).symm)
      have B5 : Below w.heap.size w w5 := ⟨hg5.os.trans HK.out.2.1.os, hg5.tape.trans HK.out.2.1.tape, hg5.output.trans HK.out.2.1.output, by omega, fun j hj => by
        have hlt : j < w2.heap.size := by omega
        exact ((hg5.block j (by rw [World.size_alloc]; omega) (by simp; omega)).trans ((heap_past w2 _ _ _ (Array.getElem?_eq_getElem hlt)).trans (Array.getElem?_eq_getElem hlt).symm)).trans (HK.out.2.1.block j hj)⟩
      have HK5 : Hid (_ ∧ _) := ⟨K5, B5⟩
      clear hg5 K5 B5
      go_wp2_with fail
      refine leaves_cons (f := 26) (args := #[.pointer (some ⟨w.heap.size, 0, none⟩), .pointer (some ⟨w.heap.size + 1, 0, none⟩), .pointer (some ⟨w.heap.size + 1 + 1, 0, none⟩)]) (by simp) (by simp [go_sem]) ?_
      refine (catch_fault w.heap.size c q _ _ _ w5 HK5.out.1 (by omega) w.heap.size (Nat.le_refl _)).mono ?_
      rintro e u' w6 ⟨rfl, rfl, K6, B6⟩
      refine ⟨_, res3_run rfl K6 rfl rfl rfl, .slice none 0 0, ?_, ?_, HK5.out.2.trans B6⟩
      · rw [HR.out]
      · rw [HR.out]
        exact NOwn.nil _ _ _ _ _
    | ok l =>
      have HR : Hid (R = (l, 0, 0)) := by show _ = _; rw [HP.out, hA]
      clear hA
      rintro e w5 ⟨hg5, ⟨v, rfl, hraw⟩, _⟩
      obtain ⟨vo, vc, rfl⟩ : ∃ o c, v = .slice o l.length c := by
        obtain ⟨P, hP, hP2, _⟩ := hraw
        obtain ⟨o, cap, e⟩ := gown_slice hP2
        exact ⟨o, cap, by rw [e, ← hP, List.length_map]⟩
      have z5 := hg5.size
      rw [World.size_alloc] at z5
      have K5 : Res3 w5 w.heap.size (.slice none 0 0) (.int .i64 0) (.int .i64 0) := HK.out.1.far fun j hj => by
        have hlt : j < w2.heap.size := by omega
        exact (hg5.block j (by rw [World.size_alloc]; omega) (by simp; omega)).trans ((heap_past w2 _ _ _ (Array.getElem?_eq_getElem hlt)).trans (Array.getElem?_eq_getElem hlt).symm)
      have B5 : Below w.heap.size w w5 := ⟨hg5.os.trans HK.out.2.1.os, hg5.tape.trans HK.out.2.1.tape, hg5.output.trans HK.out.2.1.output, by omega, fun j hj => by
        have hlt : j < w2.heap.size := by omega
        exact ((hg5.block j (by rw [World.size_alloc]; omega) (by simp; omega)).trans ((heap_past w2 _ _ _ (Array.getElem?_eq_getElem hlt)).trans (Array.getElem?_eq_getElem hlt).symm)).trans (HK.out.2.1.block j hj)⟩
      have K6 := K5.set0 (.slice vo l.length vc)
      have K7 := K6.set1 (.int .i64 0)
      have K8 := K7.set2 (.int .i64 0)
      have hraw' : RawsOwn w.heap.size w5 l (.slice vo l.length vc) := raws_base hraw (by rw [World.size_alloc]; omega)
      have O8 := raws_set (raws_set (raws_set hraw' K5.k0 (by decide) (i := 0) (.slice vo l.length vc)) K6.k1 (by decide) (i := 0) (.int .i64 0)) K7.k2 (by decide) (i := 0) (.int .i64 0)
      have B8 := tc_below (tc_below (tc_below B5 (Nat.le_refl _) 0 (.slice vo l.length vc)) (g := w.heap.size + 1) (by omega) 0 (.int .i64 0)) (g := w.heap.size + 1 + 1) (by omega) 0 (.int .i64 0)
      have c0 : w5.cell? ⟨w.heap.size, 0, none⟩ = some (.slice none 0 0) := by rw [cell_of_row _ _ _ _ _ _ K5.k0]; rfl
      have f0 : w5.frozen? ⟨w.heap.size, 0, none⟩ = false := tc_frozen K5.k0 rfl
      have c1 : (w5.setCell ⟨w.heap.size, 0, none⟩ (.slice vo l.length vc)).cell? ⟨w.heap.size + 1, 0, none⟩ = some (.int .i64 0) := by rw [cell_of_row _ _ _ _ _ _ K6.k1]; rfl
      have f1 : (w5.setCell ⟨w.heap.size, 0, none⟩ (.slice vo l.length vc)).frozen? ⟨w.heap.size + 1, 0, none⟩ = false := tc_frozen K6.k1 rfl
      have c2 : ((w5.setCell ⟨w.heap.size, 0, none⟩ (.slice vo l.length vc)).setCell ⟨w.heap.size + 1, 0, none⟩ (.int .i64 0)).cell? ⟨w.heap.size + 1 + 1, 0, none⟩ = some (.int .i64 0) := by rw [cell_of_row _ _ _ _ _ _ K7.k2]; rfl
      have f2 : ((w5.setCell ⟨w.heap.size, 0, none⟩ (.slice vo l.length vc)).setCell ⟨w.heap.size + 1, 0, none⟩ (.int .i64 0)).frozen? ⟨w.heap.size + 1 + 1, 0, none⟩ = false := tc_frozen K7.k2 rfl
      have HK8 : Hid (_ ∧ _ ∧ _) := ⟨K8, O8, B8⟩
      clear hg5 K5 B5 K6 K7 K8 O8 B8 hraw hraw'
      go_wp2_with fail
      refine leaves_cons (f := 26) (args := #[.pointer (some ⟨w.heap.size, 0, none⟩), .pointer (some ⟨w.heap.size + 1, 0, none⟩), .pointer (some ⟨w.heap.size + 1 + 1, 0, none⟩)]) (by simp) (by simp [go_sem]) ?_
      refine (catch_idle w.heap.size (w.heap.size + 1) (w.heap.size + 1 + 1) _).mono ?_
      rintro e u' w6 ⟨rfl, rfl, rfl⟩
      refine ⟨_, res3_run rfl HK8.out.1 rfl rfl rfl, .slice vo l.length vc, ?_, ?_, HK8.out.2.2⟩
      · rw [HR.out]
        rfl
      · rw [HR.out]
        exact HK8.out.2.1
  · have HP : Hid (parseP S = ([], (lexT S).2.1, (lexT S).2.2)) := parseP_lex hE
    obtain ⟨R, hR⟩ : ∃ R, R = parseP S := ⟨_, rfl⟩
    rw [← hR] at HP ⊢
    obtain ⟨⟨L, E, A⟩, hL⟩ : ∃ x, x = lexT S := ⟨_, rfl⟩
    rw [← hL] at C1 HP hE
    simp only at C1 HP hE
    have hne : ((E : Int) != 0) = true := by simp; omega
    clear hE hL hR
    go_enter_defers Tryd.func18, Tryd.ntmps18
    go_wp2_with fail
    refine (C1.out _).mono ?_
    rintro e w1 ⟨u, rfl, -, hb1⟩
    have B1 : Below w.heap.size w w1 := (((((Below.refl _ _).alloc (Nat.le_refl _) _).alloc (by simp) _).alloc (by simp; omega) _)).trans (hb1.mono (by simp; omega))
    have z1 : w.heap.size + 3 ≤ w1.heap.size := by have := hb1.size; simp at this; omega
    have K1 : Res3 w1 w.heap.size (.slice none 0 0) (.int .i64 0) (.int .i64 0) :=
      ⟨(hb1.block _ (by simp; omega)).trans (heap_past _ _ _ _ (heap_past _ _ _ _ (heap_new _ _ _ rfl))), (hb1.block _ (by simp)).trans (heap_past _ _ _ _ (heap_new _ _ _ (by simp))), (hb1.block _ (by simp)).trans (heap_new _ _ _ (by simp))⟩
    have K2 := K1.set1 (.int .i64 (E : Int))
    have K3 := K2.set2 (.int .i64 (A : Int))
    have c1 : w1.cell? ⟨w.heap.size + 1, 0, none⟩ = some (.int .i64 0) := by rw [cell_of_row _ _ _ _ _ _ K1.k1]; rfl
    have f1 : w1.frozen? ⟨w.heap.size + 1, 0, none⟩ = false := tc_frozen K1.k1 rfl
    have c2 : (w1.setCell ⟨w.heap.size + 1, 0, none⟩ (.int .i64 (E : Int))).cell? ⟨w.heap.size + 1 + 1, 0, none⟩ = some (.int .i64 0) := by rw [cell_of_row _ _ _ _ _ _ K2.k2]; rfl
    have f2 : (w1.setCell ⟨w.heap.size + 1, 0, none⟩ (.int .i64 (E : Int))).frozen? ⟨w.heap.size + 1 + 1, 0, none⟩ = false := tc_frozen K2.k2 rfl
    have c3 : ((w1.setCell ⟨w.heap.size + 1, 0, none⟩ (.int .i64 (E : Int))).setCell ⟨w.heap.size + 1 + 1, 0, none⟩ (.int .i64 (A : Int))).cell? ⟨w.heap.size + 1, 0, none⟩ = some (.int .i64 (E : Int)) := by rw [cell_of_row _ _ _ _ _ _ K3.k1]; rfl
    have B3 : Below w.heap.size w ((w1.setCell ⟨w.heap.size + 1, 0, none⟩ (.int .i64 (E : Int))).setCell ⟨w.heap.size + 1 + 1, 0, none⟩ (.int .i64 (A : Int))) := tc_below (tc_below B1 (by omega) _ _) (by omega) _ _
    have HK : Hid (_ ∧ _) := ⟨K3, B3⟩
    clear hb1 B1 K1 K2 K3 B3
    go_wp2_with fail
    obtain ⟨wa, hwa⟩ : ∃ wa, wa = ((w1.setCell ⟨w.heap.size + 1, 0, none⟩ (.int .i64 (E : Int))).setCell ⟨w.heap.size + 1 + 1, 0, none⟩ (.int .i64 (A : Int))) := ⟨_, rfl⟩
    rw [← hwa] at HK ⊢
    clear hwa c1 f1 c2 f2 c3
    refine region_cut (fun a a' w' => (∃ y z, a' = (a.put (some 15) y).put (some 16) z) ∧ Res3 w' w.heap.size (.slice none 0 0) (.int .i64 (E : Int)) (.int .i64 (A : Int)) ∧ Below w.heap.size w w') ?_ ?_
    · refine region_beginS (fun w' => w'.heap[w.heap.size + 1]? = some (.cells #[.int .i64 (E : Int)] 26 (0, 0)) ∧ w'.heap[w.heap.size + 1 + 1]? = some (.cells #[.int .i64 (A : Int)] 3 (0, 0))) 5 rfl (by kernel_rfl) ?_
      have i24 : ∀ W, (isAgg 26).run Tryd.prog W = .ok false W := fun W => by kernel_rfl
      have i3 : ∀ W, (isAgg 3).run Tryd.prog W = .ok false W := fun W => by kernel_rfl
      have kd : Res3 wa.drew w.heap.size (.slice none 0 0) (.int .i64 (E : Int)) (.int .i64 (A : Int)) := ⟨HK.out.1.k0, HK.out.1.k1, HK.out.1.k2⟩
      have bd : Below w.heap.size w wa.drew := HK.out.2.drew
      refine wpAnyH_take (i := 0) (v := .int .i64 (E : Int)) rfl (by kernel_rfl) (by kernel_rfl) (by kernel_rfl) (fun _ _ _ h => absurd h.1 (by simp)) (.inl ⟨rfl, fun W hW => run_loadOp rfl _ _ _ (.int .i64 (E : Int)) rfl (load_one W (i24 W) _ _ (by rw [cell_of_row _ _ _ _ _ _ hW.1]; rfl))⟩) ⟨kd.k1, kd.k2⟩ ?_
      refine wpAnyH_take (i := 1) (v := .int .i64 (A : Int)) rfl (by kernel_rfl) (by kernel_rfl) (by kernel_rfl) (fun _ _ _ h => absurd h.1 (by simp)) (.inl ⟨rfl, fun W hW => run_loadOp rfl _ _ _ (.int .i64 (A : Int)) rfl (load_one W (i3 W) _ _ (by rw [cell_of_row _ _ _ _ _ _ hW.2]; rfl))⟩) ⟨kd.k1, kd.k2⟩ ?_
      have k4 := kd.set0 (.slice none 0 0)
      have k5 := k4.set1 (.int .i64 (E : Int))
      have k6 := k5.set2 (.int .i64 (A : Int))
      have b6 := tc_below (tc_below (tc_below bd (Nat.le_refl _) 0 (.slice none 0 0)) (g := w.heap.size + 1) (by omega) 0 (.int .i64 (E : Int))) (g := w.heap.size + 1 + 1) (by omega) 0 (.int .i64 (A : Int))
      refine wpAnyH_all (rs := [2]) (by kernel_rfl) (by decide) ?_
      intro i hi
      obtain rfl := List.mem_singleton.1 hi
      refine wpOp_skip0 rfl rfl (run_storeOp rfl _ _ _ (.pointer (some ⟨w.heap.size, 0, none⟩)) (.slice none 0 0) rfl rfl (store_one (fun W => Tryd.sizeOf50 W) _ _ _ (.slice none 0 0) (.inl ⟨_, _, _, rfl⟩) (by rw [cell_of_row _ _ _ _ _ _ kd.k0]; rfl) (tc_frozen kd.k0 rfl))) rfl ⟨⟨k4.k1, k4.k2⟩, ?_⟩
      refine wpAnyH_all (rs := [3]) (by kernel_rfl) (by decide) ?_
      intro i hi
      obtain rfl := List.mem_singleton.1 hi
      refine wpOp_skip0 rfl rfl (run_storeOp rfl _ _ _ (.pointer (some ⟨w.heap.size + 1, 0, none⟩)) (.int .i64 (E : Int)) rfl rfl (store_one (fun W => Tryd.sizeOf26 W) _ _ _ (.int .i64 (E : Int)) (.inr ⟨_, _, rfl⟩) (by rw [cell_of_row _ _ _ _ _ _ k4.k1]; rfl) (tc_frozen k4.k1 rfl))) rfl ⟨⟨k5.k1, k5.k2⟩, ?_⟩
      refine wpAnyH_all (rs := [4]) (by kernel_rfl) (by decide) ?_
      intro i hi
      obtain rfl := List.mem_singleton.1 hi
      refine wpOp_skip0 rfl rfl (run_storeOp rfl _ _ _ (.pointer (some ⟨w.heap.size + 1 + 1, 0, none⟩)) (.int .i64 (A : Int)) rfl rfl (store_one (fun W => Tryd.sizeOf3 W) _ _ _ (.int .i64 (A : Int)) (.inr ⟨_, _, rfl⟩) (by rw [cell_of_row _ _ _ _ _ _ k5.k2]; rfl) (tc_frozen k5.k2 rfl))) rfl ⟨⟨k6.k1, k6.k2⟩, ?_⟩
      refine wpAnyH_done (by kernel_rfl) ?_ _
      exact ⟨rfl, ⟨_, _, rfl⟩, k6, b6⟩
    rintro a' w' ⟨⟨y, z, rfl⟩, k6, b6⟩
    simp only [Act.put, List.setIfInBounds_toArray, List.set_cons_succ, List.set_cons_zero]
    go_wp2_with fail
    refine ⟨_, res3_run rfl k6 rfl rfl rfl, .slice none 0 0, ?_, ?_, b6⟩
    · rw [HP.out]
    · rw [HP.out]
      exact NOwn.nil _ _ _ _ _
end Go.Proofs.YtnbklmmampdbfaaDoor
namespace Go.Proofs.YtnbklmmampdbfaaDoor
open Go
set_option maxRecDepth 20000

/-- Where a walk through tokens stands, and what was wrong first. -/
structure Ws where
  i : Nat
  bad : Nat
  pos : Nat
/-- The token at hand. -/
def nx (E : Nat) (T : List Tok) (s : Ws) : Tok := T.getD s.i ⟨0, E, [], 0⟩
/-- The first fault counts. -/
def wrong (E : Nat) (T : List Tok) (e : Nat) (s : Ws) : Ws := if s.bad = 0 then ⟨s.i, e, (nx E T s).pos⟩ else s
def stepW (s : Ws) : Ws := ⟨s.i + 1, s.bad, s.pos⟩
def kindW (E : Nat) (T : List Tok) (k : Nat) (s : Ws) : Tok × Ws := (nx E T s, stepW (if (nx E T s).kind = k then s else wrong E T 8 s))
def wordW (E : Nat) (T : List Tok) (w : List UInt8) (s : Ws) : Bool := decide ((nx E T s).kind = 1) && (nx E T s).text == w
def figW (E : Nat) (T : List Tok) (s : Ws) : Fig × Ws := (⟨((kindW E T 2 s).1.num : Int), ((kindW E T 2 s).1.pos : Int)⟩, (kindW E T 2 s).2)
def dotsW (E : Nat) (T : List Tok) : Nat → Ws → List Fig × Ws
  | 0, s => ([], s)
  | n + 1, s => ((figW E T (kindW E T 3 s).2).1 :: (dotsW E T n (figW E T (kindW E T 3 s).2).2).1, (dotsW E T n (figW E T (kindW E T 3 s).2).2).2)
def optW (E : Nat) (T : List Tok) (b : Bool) (k : Nat) (s : Ws) : Option Fig × Ws := if b = true ∧ (nx E T s).kind = k then (some (figW E T (stepW s)).1, (figW E T (stepW s)).2) else (none, s)
/-- What is looked at before a clause's numbers. -/
def headW (E : Nat) (T : List Tok) (had : List Cla) (s : Ws) : Ws :=
  let s1 := if !(isAddrW (nx E T s).text) && !(isPortW (nx E T s).text) && !((nx E T s).text == wProto) then wrong E T 8 s else s
  stepW (if had.any (fun c => c.word == (nx E T s).text) then wrong E T 9 s1 else s1)
def clauseW (E : Nat) (T : List Tok) (had : List Cla) (s : Ws) : Cla × Ws :=
  let t := nx E T s
  let f := figW E T (headW E T had s)
  let d := if isAddrW t.text then dotsW E T 3 f.2 else ([], f.2)
  let o4 := optW E T (isAddrW t.text) 4 d.2
  let o5 := optW E T (isPortW t.text) 5 o4.2
  (⟨t.text, (t.pos : Int), f.1 :: (d.1 ++ o4.1.toList ++ o5.1.toList), o4.1.isSome, o5.1.isSome⟩, o5.2)
def clausesW (E : Nat) (T : List Tok) : Nat → List Cla → Ws → List Cla × Ws
  | 0, had, s => (had, s)
  | f + 1, had, s => if s.bad = 0 ∧ (nx E T s).kind = 1 then clausesW E T f (had ++ [(clauseW E T had s).1]) (clauseW E T had s).2 else (had, s)
def frontW (E : Nat) (T : List Tok) (s : Ws) : (Bool × Fig × List Cla) × Ws :=
  if wordW E T wDefault s then ((true, ⟨0, 0⟩, []), stepW s) else
    let f := figW E T s
    let c := clausesW E T (T.length - f.2.i) [] f.2
    ((false, f.1, c.1), c.2)
def actW (E : Nat) (T : List Tok) (s : Ws) : (Bool × Fig) × Ws :=
  if wordW E T wDrop s then ((true, ⟨0, 0⟩), stepW s) else
    let f := figW E T (stepW (if wordW E T wPort s then s else wrong E T 8 s))
    ((false, f.1), f.2)
def endW (E : Nat) (T : List Tok) (s : Ws) : Ws := if s.i < T.length ∧ (nx E T s).kind ≠ 7 then wrong E T 8 s else s
def rowW (E : Nat) (T : List Tok) (s : Ws) : Raw × Ws :=
  let h := frontW E T s
  let k := kindW E T 6 h.2
  let a := actW E T k.2
  (⟨((nx E T s).pos : Int), h.1.1, h.1.2.1, h.1.2.2, a.1.1, a.1.2⟩, endW E T a.2)
def rowsW (E : Nat) (T : List Tok) : Nat → List Raw → Ws → List Raw × Ws
  | 0, had, s => (had, s)
  | f + 1, had, s => if s.i < T.length ∧ s.bad = 0 then (if (nx E T s).kind = 7 then rowsW E T f had (stepW s) else
      rowsW E T f (had ++ [(rowW E T (if had.length = 64 then wrong E T 4 s else s)).1]) (rowW E T (if had.length = 64 then wrong E T 4 s else s)).2) else (had, s)

/-- What was wrong stays so. -/
def Keeps (s s' : Ws) : Prop := s.bad ≠ 0 → s'.bad = s.bad ∧ s'.pos = s.pos
theorem Keeps.refl (s : Ws) : Keeps s s := fun _ => ⟨rfl, rfl⟩
theorem Keeps.trans {a b c : Ws} (h1 : Keeps a b) (h2 : Keeps b c) : Keeps a c := fun h => by
  obtain ⟨e1, e2⟩ := h1 h
  obtain ⟨e3, e4⟩ := h2 (by rw [e1]; exact h)
  exact ⟨e3.trans e1, e4.trans e2⟩
theorem keeps_wrong (E : Nat) (T : List Tok) (e : Nat) (s : Ws) : Keeps s (wrong E T e s) := fun h => by unfold wrong; rw [if_neg h]; exact ⟨rfl, rfl⟩
theorem keeps_step (s : Ws) : Keeps s (stepW s) := fun _ => ⟨rfl, rfl⟩
theorem keeps_kind (E : Nat) (T : List Tok) (k : Nat) (s : Ws) : Keeps s (kindW E T k s).2 := by
  unfold kindW
  refine Keeps.trans ?_ (keeps_step _)
  split
  · exact Keeps.refl _
  · exact keeps_wrong E T 8 s
theorem keeps_fig (E : Nat) (T : List Tok) (s : Ws) : Keeps s (figW E T s).2 := keeps_kind E T 2 s
theorem keeps_dots (E : Nat) (T : List Tok) : ∀ (n : Nat) (s : Ws), Keeps s (dotsW E T n s).2
  | 0, s => Keeps.refl s
  | n + 1, s => ((keeps_kind E T 3 s).trans (keeps_fig E T _)).trans (keeps_dots E T n _)
theorem keeps_opt (E : Nat) (T : List Tok) (b : Bool) (k : Nat) (s : Ws) : Keeps s (optW E T b k s).2 := by
  unfold optW
  split
  · exact (keeps_step s).trans (keeps_fig E T _)
  · exact Keeps.refl s
theorem keeps_head (E : Nat) (T : List Tok) (had : List Cla) (s : Ws) : Keeps s (headW E T had s) := by
  unfold headW
  refine Keeps.trans ?_ (keeps_step _)
  split
  · refine Keeps.trans ?_ (keeps_wrong E T 9 _)
    split
    · exact keeps_wrong E T 8 s
    · exact Keeps.refl s
  · split
    · exact keeps_wrong E T 8 s
    · exact Keeps.refl s
theorem keeps_clause (E : Nat) (T : List Tok) (had : List Cla) (s : Ws) : Keeps s (clauseW E T had s).2 := by
  unfold clauseW
  refine (((keeps_head E T had s).trans (keeps_fig E T _)).trans ?_).trans ((keeps_opt E T _ 4 _).trans (keeps_opt E T _ 5 _))
  split
  · exact keeps_dots E T 3 _
  · exact Keeps.refl _
theorem keeps_clauses (E : Nat) (T : List Tok) : ∀ (f : Nat) (had : List Cla) (s : Ws), Keeps s (clausesW E T f had s).2
  | 0, _, s => Keeps.refl s
  | f + 1, had, s => by
    unfold clausesW
    split
    · exact (keeps_clause E T had s).trans (keeps_clauses E T f _ _)
    · exact Keeps.refl s
theorem keeps_front (E : Nat) (T : List Tok) (s : Ws) : Keeps s (frontW E T s).2 := by
  unfold frontW
  split
  · exact keeps_step s
  · exact (keeps_fig E T s).trans (keeps_clauses E T _ _ _)
theorem keeps_act (E : Nat) (T : List Tok) (s : Ws) : Keeps s (actW E T s).2 := by
  unfold actW
  split
  · exact keeps_step s
  · refine Keeps.trans (Keeps.trans ?_ (keeps_step _)) (keeps_fig E T _)
    split
    · exact Keeps.refl s
    · exact keeps_wrong E T 8 s
theorem keeps_end (E : Nat) (T : List Tok) (s : Ws) : Keeps s (endW E T s) := by
  unfold endW
  split
  · exact keeps_wrong E T 8 s
  · exact Keeps.refl s
theorem keeps_row (E : Nat) (T : List Tok) (s : Ws) : Keeps s (rowW E T s).2 :=
  (((keeps_front E T s).trans (keeps_kind E T 6 _)).trans (keeps_act E T _)).trans (keeps_end E T _)

/-- A walk does what is said of the tokens that are left. -/
def Does {α : Type} (T : List Tok) (s : Ws) (y : α × Ws) (r : Res (α × List Tok)) : Prop :=
  match r with
  | .ok (a, T') => y.1 = a ∧ y.2.bad = 0 ∧ y.2.pos = s.pos ∧ T.drop y.2.i = T'
  | .error (e, q) => y.2.bad = e ∧ y.2.pos = q ∧ e ≠ 0
theorem Does.bind {α β : Type} {T : List Tok} {s : Ws} {y : α × Ws} {r : Res (α × List Tok)} {z : β × Ws} {g : α × List Tok → Res (β × List Tok)} (h : Does T s y r) (hk : Keeps y.2 z.2)
    (h2 : ∀ a T', r = .ok (a, T') → y.1 = a → y.2.bad = 0 → T.drop y.2.i = T' → Does T y.2 z (g (a, T'))) : Does T s z (r.bind g) := by
  cases r with
  | error x =>
    obtain ⟨e, q⟩ := x
    obtain ⟨h1, h3, h4⟩ := h
    obtain ⟨k1, k2⟩ := hk (by rw [h1]; exact h4)
    exact ⟨k1.trans h1, k2.trans h3, h4⟩
  | ok x =>
    obtain ⟨a, T'⟩ := x
    obtain ⟨h1, h3, h4, h5⟩ := h
    have := h2 a T' rfl h1 h3 h5
    show Does T s z (g (a, T'))
    revert this
    generalize g (a, T') = r2
    intro this
    cases r2 with
    | error x => exact this
    | ok x => exact ⟨this.1, this.2.1, this.2.2.1.trans h4, this.2.2.2⟩
theorem Does.map {α β : Type} {T : List Tok} {s : Ws} {y : α × Ws} {r : Res (α × List Tok)} {z : β × Ws} {g : α × List Tok → β × List Tok} (h : Does T s y r) (hz : z.2 = y.2) (h2 : ∀ a T', r = .ok (a, T') → y.1 = a → g (a, T') = (z.1, T')) : Does T s z (r.map g) := by
  cases r with
  | error x =>
    obtain ⟨e, q⟩ := x
    obtain ⟨h1, h3, h4⟩ := h
    exact ⟨by rw [hz]; exact h1, by rw [hz]; exact h3, h4⟩
  | ok x =>
    obtain ⟨a, T'⟩ := x
    obtain ⟨h1, h3, h4, h5⟩ := h
    have e := h2 a T' rfl h1
    show Does T s z (.ok (g (a, T')))
    rw [e]
    exact ⟨rfl, by rw [hz]; exact h3, by rw [hz]; exact h4, by rw [hz]; exact h5⟩

theorem nx_nil {E : Nat} {T : List Tok} {s : Ws} (h : T.drop s.i = []) : nx E T s = ⟨0, E, [], 0⟩ := by
  unfold nx
  have : T.length ≤ s.i := List.drop_eq_nil_iff.1 h
  rw [List.getD, List.getElem?_eq_none this]; rfl
theorem nx_cons {E : Nat} {T : List Tok} {s : Ws} {t : Tok} {T' : List Tok} (h : T.drop s.i = t :: T') : nx E T s = t ∧ s.i < T.length ∧ T.drop (s.i + 1) = T' := by
  have hh : T[s.i]? = some t := by rw [← List.head?_drop, h]; rfl
  refine ⟨by unfold nx; rw [List.getD, hh]; rfl, (List.getElem?_eq_some_iff.1 hh).1, ?_⟩
  rw [← List.drop_drop, h]; rfl
theorem nx_pos (E : Nat) (T : List Tok) (s : Ws) : (nx E T s).pos = posOf E (T.drop s.i) := by
  cases h : T.drop s.i with
  | nil => rw [nx_nil h]; rfl
  | cons t T' => rw [(nx_cons h).1]; rfl
theorem wrong_is {E : Nat} {T : List Tok} {e : Nat} {s : Ws} (h : s.bad = 0) : wrong E T e s = ⟨s.i, e, (nx E T s).pos⟩ := by unfold wrong; rw [if_pos h]

theorem does_kind (E : Nat) (T : List Tok) (k : Nat) (hk : k ≠ 0) (s : Ws) (h : s.bad = 0) : Does T s (kindW E T k s) (takeK E k (T.drop s.i)) := by
  unfold kindW
  cases hd : T.drop s.i with
  | nil =>
    rw [nx_nil hd, if_neg (by simpa using (Ne.symm hk)), wrong_is h, nx_nil hd]
    exact ⟨rfl, rfl, by decide⟩
  | cons t T' =>
    obtain ⟨e1, e2, e3⟩ := nx_cons (E := E) hd
    rw [e1, show takeK E k (t :: T') = if t.kind = k then .ok (t, T') else .error (8, t.pos) from rfl]
    by_cases c : t.kind = k
    · rw [if_pos c, if_pos c]
      exact ⟨rfl, h, rfl, e3⟩
    · rw [if_neg c, if_neg c, wrong_is h, e1]
      exact ⟨rfl, rfl, by decide⟩
theorem does_fig (E : Nat) (T : List Tok) (s : Ws) (h : s.bad = 0) : Does T s (figW E T s) (takeF E (T.drop s.i)) :=
  (does_kind E T 2 (by decide) s h).map rfl fun a T' _ ha => by rw [← ha]; rfl
theorem does_dots (E : Nat) (T : List Tok) : ∀ (n : Nat) (s : Ws), s.bad = 0 → Does T s (dotsW E T n s) (takeD E n (T.drop s.i))
  | 0, s, h => ⟨rfl, h, rfl, rfl⟩
  | n + 1, s, h => by
    unfold dotsW takeD
    refine (does_kind E T 3 (by decide) s h).bind ((keeps_fig E T _).trans (keeps_dots E T n _)) fun a T' _ _ hb hT => ?_
    subst hT
    refine (does_fig E T _ hb).bind (keeps_dots E T n _) fun b T'' _ he hb2 hT2 => ?_
    subst hT2
    exact (does_dots E T n _ hb2).map rfl fun c T3 _ hc => by rw [← hc, ← he]
theorem does_opt (E : Nat) (T : List Tok) (k : Nat) (hk : k ≠ 0) (s : Ws) (h : s.bad = 0) : Does T s (optW E T true k s) (takeO E k (T.drop s.i)) := by
  unfold optW
  cases hd : T.drop s.i with
  | nil =>
    rw [if_neg (by rw [nx_nil hd]; exact fun c => hk c.2.symm)]
    exact ⟨rfl, h, rfl, hd⟩
  | cons t T' =>
    obtain ⟨e1, e2, e3⟩ := nx_cons (E := E) hd
    rw [show takeO E k (t :: T') = if t.kind = k then (takeF E T').map (fun y => (some y.1, y.2)) else .ok (none, t :: T') from rfl]
    by_cases c : t.kind = k
    · rw [if_pos ⟨rfl, by rw [e1]; exact c⟩, if_pos c, ← e3]
      exact (does_fig E T (stepW s) h).map rfl fun a T3 _ ha => by rw [← ha]
    · rw [if_neg (by rw [e1]; exact fun d => c d.2), if_neg c]
      exact ⟨rfl, h, rfl, hd⟩
theorem opt_no (E : Nat) (T : List Tok) (k : Nat) (s : Ws) : optW E T false k s = (none, s) := by unfold optW; rw [if_neg (by simp)]
theorem addr_port (w : List UInt8) (h : isAddrW w = true) : isPortW w = false := by
  unfold isAddrW at h
  simp only [Bool.or_eq_true, beq_iff_eq] at h
  rcases h with rfl | rfl <;> rfl
theorem does_clause (E : Nat) (T : List Tok) (had : List Cla) (s : Ws) (h : s.bad = 0) (t : Tok) (T' : List Tok) (hd : T.drop s.i = t :: T') : Does T s (clauseW E T had s) (takeC E had t T') := by
  obtain ⟨e1, e2, e3⟩ := nx_cons (E := E) hd
  unfold takeC
  by_cases c1 : (!(isAddrW t.text) && !(isPortW t.text) && !(t.text == wProto)) = true
  · rw [if_pos c1]
    have hh : (headW E T had s).bad = 8 ∧ (headW E T had s).pos = t.pos := by
      unfold headW
      rw [e1]
      simp only [c1, if_true]
      split
      · have := keeps_wrong E T 9 (wrong E T 8 s) (by rw [wrong_is h]; show (8 : Nat) ≠ 0; decide)
        rw [wrong_is h, e1] at this ⊢
        exact this
      · rw [wrong_is h, e1]; exact ⟨rfl, rfl⟩
    have hk : Keeps (headW E T had s) (clauseW E T had s).2 := by
      unfold clauseW
      refine ((keeps_fig E T _).trans ?_).trans ((keeps_opt E T _ 4 _).trans (keeps_opt E T _ 5 _))
      split
      · exact keeps_dots E T 3 _
      · exact Keeps.refl _
    obtain ⟨k1, k2⟩ := hk (by rw [hh.1]; decide)
    exact ⟨k1.trans hh.1, k2.trans hh.2, by decide⟩
  rw [if_neg c1]
  by_cases c2 : had.any (fun c => c.word == t.text) = true
  · rw [if_pos c2]
    have hh : (headW E T had s).bad = 9 ∧ (headW E T had s).pos = t.pos := by
      unfold headW
      rw [e1]
      simp only [c2, if_true]
      rw [if_neg c1, wrong_is h, e1]
      exact ⟨rfl, rfl⟩
    have hk : Keeps (headW E T had s) (clauseW E T had s).2 := by
      unfold clauseW
      refine ((keeps_fig E T _).trans ?_).trans ((keeps_opt E T _ 4 _).trans (keeps_opt E T _ 5 _))
      split
      · exact keeps_dots E T 3 _
      · exact Keeps.refl _
    obtain ⟨k1, k2⟩ := hk (by rw [hh.1]; decide)
    exact ⟨k1.trans hh.1, k2.trans hh.2, by decide⟩
  rw [if_neg c2]
  have hh : headW E T had s = stepW s := by
    unfold headW
    rw [e1]
    simp only [if_neg c1, if_neg c2]
  unfold clauseW
  simp only [hh, e1]
  have hs : Does T s (figW E T (stepW s)) (takeF E T') := by rw [← e3]; exact does_fig E T (stepW s) h
  refine hs.bind ?_ fun x T2 hr hx hb hT2 => ?_
  · refine Keeps.trans ?_ ((keeps_opt E T _ 4 _).trans (keeps_opt E T _ 5 _))
    split
    · exact keeps_dots E T 3 _
    · exact Keeps.refl _
  subst hT2
  by_cases c3 : isAddrW t.text = true
  · have c4 := addr_port t.text c3
    simp only [c3, if_true, c4]
    refine (does_dots E T 3 _ hb).bind ((keeps_opt E T _ 4 _).trans (keeps_opt E T _ 5 _)) fun y T3 _ hy hb3 hT3 => ?_
    subst hT3
    refine (does_opt E T 4 (by decide) _ hb3).map (by rw [opt_no]) fun z T4 _ hz => ?_
    rw [opt_no]
    simp [hx, hy, hz]
  · have c3' : isAddrW t.text = false := by simpa using c3
    simp only [c3', Bool.false_eq_true, if_false, opt_no]
    by_cases c4 : isPortW t.text = true
    · simp only [c4, if_true]
      refine (does_opt E T 5 (by decide) _ hb).map rfl fun z T4 _ hz => ?_
      simp [hx, hz]
    · have c4' : isPortW t.text = false := by simpa using c4
      simp only [c4', Bool.false_eq_true, if_false, opt_no]
      exact ⟨by simp [hx], hb, rfl, rfl⟩
theorem does_clauses (E : Nat) (T : List Tok) : ∀ (f : Nat) (had : List Cla) (s : Ws), s.bad = 0 → Does T s (clausesW E T f had s) (takeCs E f had (T.drop s.i))
  | 0, had, s, h => ⟨rfl, h, rfl, rfl⟩
  | f + 1, had, s, h => by
    unfold clausesW
    cases hd : T.drop s.i with
    | nil =>
      rw [if_neg (by rw [nx_nil hd]; exact fun c => absurd (show (0 : Nat) = 1 from c.2) (by decide))]
      exact ⟨rfl, h, rfl, hd⟩
    | cons t T' =>
      obtain ⟨e1, e2, e3⟩ := nx_cons (E := E) hd
      rw [show takeCs E (f + 1) had (t :: T') = if t.kind = 1 then (takeC E had t T').bind (fun x => takeCs E f (had ++ [x.1]) x.2) else .ok (had, t :: T') from rfl]
      by_cases c : t.kind = 1
      · rw [if_pos ⟨h, by rw [e1]; exact c⟩, if_pos c]
        refine (does_clause E T had s h t T' hd).bind (keeps_clauses E T f _ _) fun x T2 _ hx hb hT2 => ?_
        subst hT2
        rw [← hx]
        exact does_clauses E T f _ _ hb
      · rw [if_neg (by rw [e1]; exact fun d => c d.2), if_neg c]
        exact ⟨rfl, h, rfl, hd⟩
theorem word_cons {E : Nat} {T : List Tok} {s : Ws} {t : Tok} {T' : List Tok} (hd : T.drop s.i = t :: T') (w : List UInt8) : (wordW E T w s = true) ↔ (t.kind = 1 ∧ t.text = w) := by
  unfold wordW
  rw [(nx_cons (E := E) hd).1]
  simp
theorem word_nil {E : Nat} {T : List Tok} {s : Ws} (hd : T.drop s.i = []) (w : List UInt8) : wordW E T w s = false := by
  unfold wordW
  rw [nx_nil hd]
  rfl
theorem does_front (E : Nat) (T : List Tok) (s : Ws) (h : s.bad = 0) : Does T s (frontW E T s) (takeH E (T.drop s.i)) := by
  unfold frontW
  have hf : Does T s (((false, (figW E T s).1, (clausesW E T (T.length - (figW E T s).2.i) [] (figW E T s).2).1) : Bool × Fig × List Cla), (clausesW E T (T.length - (figW E T s).2.i) [] (figW E T s).2).2)
      ((takeF E (T.drop s.i)).bind fun x => (takeCs E x.2.length [] x.2).map fun y => ((false, x.1, y.1), y.2)) := by
    refine (does_fig E T s h).bind (keeps_clauses E T _ _ _) fun x T2 _ hx hb hT2 => ?_
    subst hT2
    rw [show (T.drop (figW E T s).2.i).length = T.length - (figW E T s).2.i from List.length_drop]
    exact (does_clauses E T _ [] _ hb).map rfl fun y T3 _ hy => by rw [← hy, ← hx]
  cases hd : T.drop s.i with
  | nil =>
    rw [word_nil hd, if_neg (by decide)]
    rw [hd] at hf
    exact hf
  | cons t T' =>
    obtain ⟨e1, e2, e3⟩ := nx_cons (E := E) hd
    rw [show takeH E (t :: T') = if t.kind = 1 ∧ t.text = wDefault then .ok ((true, ⟨0, 0⟩, []), T') else (takeF E (t :: T')).bind fun x => (takeCs E x.2.length [] x.2).map fun y => ((false, x.1, y.1), y.2) from rfl]
    by_cases c : t.kind = 1 ∧ t.text = wDefault
    · rw [if_pos c, if_pos ((word_cons hd wDefault).2 c)]
      exact ⟨rfl, h, rfl, e3⟩
    · rw [if_neg c, if_neg (fun d => c ((word_cons hd wDefault).1 d))]
      rw [hd] at hf
      exact hf
theorem does_act (E : Nat) (T : List Tok) (s : Ws) (h : s.bad = 0) : Does T s (actW E T s) (takeA E (T.drop s.i)) := by
  unfold actW
  cases hd : T.drop s.i with
  | nil =>
    rw [word_nil hd, word_nil hd, if_neg (by decide), if_neg (by decide)]
    obtain ⟨k1, k2⟩ := (keeps_step (wrong E T 8 s)).trans (keeps_fig E T _) (by rw [wrong_is h]; show (8 : Nat) ≠ 0; decide)
    rw [wrong_is h, nx_nil hd] at k1 k2
    refine ⟨?_, ?_, by decide⟩
    · rw [wrong_is h, nx_nil hd]; exact k1
    · rw [wrong_is h, nx_nil hd]; exact k2
  | cons t T' =>
    obtain ⟨e1, e2, e3⟩ := nx_cons (E := E) hd
    rw [show takeA E (t :: T') = if t.kind = 1 ∧ t.text = wDrop then .ok ((true, ⟨0, 0⟩), T') else if t.kind = 1 ∧ t.text = wPort then (takeF E T').map (fun x => ((false, x.1), x.2)) else .error (8, t.pos) from rfl]
    by_cases c : t.kind = 1 ∧ t.text = wDrop
    · rw [if_pos c, if_pos ((word_cons hd wDrop).2 c)]
      exact ⟨rfl, h, rfl, e3⟩
    · rw [if_neg c, if_neg (fun d => c ((word_cons hd wDrop).1 d))]
      by_cases c2 : t.kind = 1 ∧ t.text = wPort
      · rw [if_pos c2, if_pos ((word_cons hd wPort).2 c2), ← e3]
        exact (does_fig E T (stepW s) h).map rfl fun a T3 _ ha => by rw [← ha]
      · rw [if_neg c2, if_neg (fun d => c2 ((word_cons hd wPort).1 d))]
        obtain ⟨k1, k2⟩ := (keeps_step (wrong E T 8 s)).trans (keeps_fig E T _) (by rw [wrong_is h]; show (8 : Nat) ≠ 0; decide)
        rw [wrong_is h, e1] at k1 k2
        refine ⟨?_, ?_, by decide⟩
        · rw [wrong_is h, e1]; exact k1
        · rw [wrong_is h, e1]; exact k2
theorem does_end (E : Nat) (T : List Tok) (s : Ws) (h : s.bad = 0) : Does T s ((), endW E T s) ((takeE (T.drop s.i)).map fun u => ((), u)) := by
  unfold endW
  cases hd : T.drop s.i with
  | nil =>
    rw [if_neg (fun c => absurd (List.drop_eq_nil_iff.1 hd) (by omega))]
    exact ⟨rfl, h, rfl, hd⟩
  | cons t T' =>
    obtain ⟨e1, e2, e3⟩ := nx_cons (E := E) hd
    rw [show takeE (t :: T') = if t.kind = 7 then .ok (t :: T') else .error (8, t.pos) from rfl]
    by_cases c : t.kind = 7
    · rw [if_pos c, if_neg (by rw [e1]; exact fun d => d.2 c)]
      exact ⟨rfl, h, rfl, hd⟩
    · rw [if_neg c, if_pos ⟨e2, by rw [e1]; exact c⟩, wrong_is h, e1]
      exact ⟨rfl, rfl, by decide⟩
theorem does_row (E : Nat) (T : List Tok) (s : Ws) (h : s.bad = 0) : Does T s (rowW E T s) (takeR E (T.drop s.i)) := by
  unfold rowW takeR
  refine (does_front E T s h).bind (((keeps_kind E T 6 _).trans (keeps_act E T _)).trans (keeps_end E T _)) fun x T2 _ hx hb hT2 => ?_
  subst hT2
  refine (does_kind E T 6 (by decide) _ hb).bind ((keeps_act E T _).trans (keeps_end E T _)) fun y T3 _ hy hb3 hT3 => ?_
  subst hT3
  refine (does_act E T _ hb3).bind (keeps_end E T _) fun z T4 _ hz hb4 hT4 => ?_
  subst hT4
  have he := does_end E T _ hb4
  rw [← nx_pos, ← hx, ← hz]
  revert he
  cases takeE (T.drop (actW E T (kindW E T 6 (frontW E T s).2).2).2.i) with
  | error q => exact fun he => he
  | ok u => exact fun he => ⟨rfl, he.2⟩
/-- THE WALK THROUGH THE TOKENS comes to the lines, or to what is wrong first. -/
theorem does_rows (E : Nat) (T : List Tok) : ∀ (f : Nat) (had : List Raw) (s : Ws), s.bad = 0 → match takeL E f had (T.drop s.i) with
    | .ok l => (rowsW E T f had s).2.bad = 0 ∧ (rowsW E T f had s).1 = l
    | .error x => (rowsW E T f had s).2.bad = x.1 ∧ (rowsW E T f had s).2.pos = x.2 ∧ x.1 ≠ 0
  | 0, had, s, h => ⟨h, rfl⟩
  | f + 1, had, s, h => by
    have stay : ∀ (g : Nat) (had : List Raw) (s : Ws), s.bad ≠ 0 → rowsW E T g had s = (had, s) := fun g had s hb => by
      cases g with
      | zero => rfl
      | succ g => unfold rowsW; rw [if_neg (fun c => hb c.2)]
    cases hd : T.drop s.i with
    | nil =>
      have hR : rowsW E T (f + 1) had s = (had, s) := by
        unfold rowsW
        rw [if_neg (fun c => absurd (List.drop_eq_nil_iff.1 hd) (by omega))]
      rw [hR]
      exact ⟨h, rfl⟩
    | cons t T' =>
      obtain ⟨e1, e2, e3⟩ := nx_cons (E := E) hd
      have hL : takeL E (f + 1) had (t :: T') = if t.kind = 7 then takeL E f had T' else if had.length = 64 then .error (4, t.pos) else (takeR E (t :: T')).bind (fun x => takeL E f (had ++ [x.1]) x.2) := rfl
      have hR : rowsW E T (f + 1) had s = if t.kind = 7 then rowsW E T f had (stepW s) else rowsW E T f (had ++ [(rowW E T (if had.length = 64 then wrong E T 4 s else s)).1]) (rowW E T (if had.length = 64 then wrong E T 4 s else s)).2 := by
        rw [rowsW, if_pos ⟨e2, h⟩, e1]
      by_cases c : t.kind = 7
      · rw [if_pos c] at hL hR
        rw [hL, hR]
        have := does_rows E T f had (stepW s) h
        rw [show (stepW s).i = s.i + 1 from rfl, e3] at this
        exact this
      · rw [if_neg c] at hL hR
        by_cases c2 : had.length = 64
        · rw [if_pos c2] at hL
          simp only [if_pos c2] at hR
          rw [hL, hR]
          obtain ⟨k1, k2⟩ := keeps_row E T (wrong E T 4 s) (by rw [wrong_is h]; show (4 : Nat) ≠ 0; decide)
          have hw : (wrong E T 4 s).bad = 4 ∧ (wrong E T 4 s).pos = t.pos := by rw [wrong_is h, e1]; exact ⟨rfl, rfl⟩
          rw [stay _ _ _ (by rw [k1, hw.1]; decide)]
          exact ⟨k1.trans hw.1, k2.trans hw.2, by show (4 : Nat) ≠ 0; decide⟩
        · rw [if_neg c2] at hL
          simp only [if_neg c2] at hR
          rw [hL, hR]
          have hr := does_row E T s h
          rw [hd] at hr
          cases hx : takeR E (t :: T') with
          | error x =>
            rw [hx] at hr
            obtain ⟨h1, h2, h3⟩ := hr
            rw [stay _ _ _ (by rw [h1]; exact h3)]
            exact ⟨h1, h2, h3⟩
          | ok x =>
            rw [hx] at hr
            obtain ⟨a, T2⟩ := x
            obtain ⟨h1, h2, _, h4⟩ := hr
            have := does_rows E T f (had ++ [(rowW E T s).1]) (rowW E T s).2 h2
            rw [h4, h1] at this
            rw [h1]
            exact this
/-! How far a walk goes. -/
theorem wrong_i (E : Nat) (T : List Tok) (e : Nat) (s : Ws) : (wrong E T e s).i = s.i := by unfold wrong; split <;> rfl
theorem kind_i (E : Nat) (T : List Tok) (k : Nat) (s : Ws) : (kindW E T k s).2.i = s.i + 1 := by
  unfold kindW stepW
  split
  · rfl
  · simp [wrong_i]
theorem fig_i (E : Nat) (T : List Tok) (s : Ws) : (figW E T s).2.i = s.i + 1 := kind_i E T 2 s
theorem dots_i (E : Nat) (T : List Tok) : ∀ (n : Nat) (s : Ws), (dotsW E T n s).2.i = s.i + 2 * n
  | 0, s => rfl
  | n + 1, s => by
    have := dots_i E T n (figW E T (kindW E T 3 s).2).2
    rw [fig_i, kind_i] at this
    rw [dotsW]
    show (dotsW E T n (figW E T (kindW E T 3 s).2).2).2.i = _
    omega
theorem opt_i (E : Nat) (T : List Tok) (b : Bool) (k : Nat) (s : Ws) : s.i ≤ (optW E T b k s).2.i ∧ (optW E T b k s).2.i ≤ s.i + 2 := by
  unfold optW
  split
  · have := fig_i E T (stepW s)
    have h2 : (stepW s).i = s.i + 1 := rfl
    constructor <;> (show _ ≤ _; simp only; omega)
  · exact ⟨Nat.le_refl _, Nat.le_add_right _ _⟩
theorem head_i (E : Nat) (T : List Tok) (had : List Cla) (s : Ws) : (headW E T had s).i = s.i + 1 := by
  unfold headW stepW
  simp only
  split
  · rw [wrong_i]; split <;> simp [wrong_i]
  · split <;> simp [wrong_i]
theorem clause_i (E : Nat) (T : List Tok) (had : List Cla) (s : Ws) : s.i + 2 ≤ (clauseW E T had s).2.i ∧ (clauseW E T had s).2.i ≤ s.i + 12 := by
  unfold clauseW
  simp only
  have h1 := head_i E T had s
  have h2 := fig_i E T (headW E T had s)
  have h3 : (headW E T had s).i + 1 ≤ (if isAddrW (nx E T s).text = true then dotsW E T 3 (figW E T (headW E T had s)).2 else ([], (figW E T (headW E T had s)).2)).2.i ∧ (if isAddrW (nx E T s).text = true then dotsW E T 3 (figW E T (headW E T had s)).2 else ([], (figW E T (headW E T had s)).2)).2.i ≤ (headW E T had s).i + 7 := by
    split
    · have := dots_i E T 3 (figW E T (headW E T had s)).2
      omega
    · show _ ≤ (figW E T (headW E T had s)).2.i ∧ (figW E T (headW E T had s)).2.i ≤ _
      omega
  revert h3
  generalize (if isAddrW (nx E T s).text = true then dotsW E T 3 (figW E T (headW E T had s)).2 else ([], (figW E T (headW E T had s)).2)) = d
  intro h3
  have h4 := opt_i E T (isAddrW (nx E T s).text) 4 d.2
  have h5 := opt_i E T (isPortW (nx E T s).text) 5 (optW E T (isAddrW (nx E T s).text) 4 d.2).2
  omega
theorem kind1_lt {E : Nat} {T : List Tok} {s : Ws} (h : (nx E T s).kind = 1) : s.i < T.length := by
  by_cases hi : s.i < T.length
  · exact hi
  · rw [nx_nil (List.drop_eq_nil_iff.2 (by omega))] at h
    cases h
theorem clauses_i (E : Nat) (T : List Tok) : ∀ (f : Nat) (had : List Cla) (s : Ws), s.i ≤ T.length + 12 → s.i ≤ (clausesW E T f had s).2.i ∧ (clausesW E T f had s).2.i ≤ T.length + 12
  | 0, _, s, h => ⟨Nat.le_refl _, h⟩
  | f + 1, had, s, h => by
    unfold clausesW
    split
    · rename_i hc
      have h1 := kind1_lt hc.2
      have h2 := clause_i E T had s
      have h3 := clauses_i E T f (had ++ [(clauseW E T had s).1]) (clauseW E T had s).2 (by omega)
      omega
    · exact ⟨Nat.le_refl _, h⟩
theorem front_i (E : Nat) (T : List Tok) (s : Ws) (h : s.i < T.length) : s.i < (frontW E T s).2.i ∧ (frontW E T s).2.i ≤ T.length + 12 := by
  unfold frontW
  split
  · show s.i < s.i + 1 ∧ s.i + 1 ≤ _
    omega
  · have h1 := fig_i E T s
    have h2 := clauses_i E T (T.length - (figW E T s).2.i) [] (figW E T s).2 (by omega)
    simp only
    omega
theorem act_i (E : Nat) (T : List Tok) (s : Ws) : s.i < (actW E T s).2.i ∧ (actW E T s).2.i ≤ s.i + 2 := by
  unfold actW
  split
  · show s.i < s.i + 1 ∧ s.i + 1 ≤ _
    omega
  · simp only
    rw [fig_i]
    have : (stepW (if wordW E T wPort s = true then s else wrong E T 8 s)).i = s.i + 1 := by
      unfold stepW
      split
      · rfl
      · simp [wrong_i]
    omega
/-- A line takes a token at least, and goes no further than so many behind the last one. -/
theorem row_i (E : Nat) (T : List Tok) (s : Ws) (h : s.i < T.length) : s.i < (rowW E T s).2.i ∧ (rowW E T s).2.i ≤ T.length + 15 := by
  unfold rowW
  simp only
  have h1 := front_i E T s h
  have h2 := kind_i E T 6 (frontW E T s).2
  have h3 := act_i E T (kindW E T 6 (frontW E T s).2).2
  have h4 : (endW E T (actW E T (kindW E T 6 (frontW E T s).2).2).2).i = (actW E T (kindW E T 6 (frontW E T s).2).2).2.i := by
    unfold endW
    split
    · exact wrong_i E T 8 _
    · rfl
  omega
/-- The numbers, one behind the other. -/
def dotsA (E : Nat) (T : List Tok) : Nat → List Fig × Ws → List Fig × Ws
  | 0, x => x
  | n + 1, x => ((dotsA E T n x).1 ++ [(figW E T (kindW E T 3 (dotsA E T n x).2).2).1], (figW E T (kindW E T 3 (dotsA E T n x).2).2).2)
theorem dotsA_left (E : Nat) (T : List Tok) : ∀ (n : Nat) (l : List Fig) (s : Ws), dotsA E T (n + 1) (l, s) = dotsA E T n (l ++ [(figW E T (kindW E T 3 s).2).1], (figW E T (kindW E T 3 s).2).2)
  | 0, l, s => rfl
  | n + 1, l, s => by
    rw [dotsA, dotsA_left E T n l s]
    rfl
theorem dots_A (E : Nat) (T : List Tok) : ∀ (n : Nat) (l : List Fig) (s : Ws), dotsA E T n (l, s) = (l ++ (dotsW E T n s).1, (dotsW E T n s).2)
  | 0, l, s => by simp [dotsA, dotsW]
  | n + 1, l, s => by
    rw [dotsA_left, dots_A E T n, dotsW]
    simp
end Go.Proofs.YtnbklmmampdbfaaDoor
namespace Go.Proofs.YtnbklmmampdbfaaDoor
open Go Go.RowKit
set_option maxRecDepth 20000

theorem parseP_zero7 {S : List UInt8} (h : (parseP S).2.1 = 0) : parseT S = .ok (parseP S).1 := by
  unfold parseP at h ⊢
  cases hx : parseT S with
  | ok l => rfl
  | error x =>
    rw [hx] at h
    exfalso
    have h' : x.1 = 0 := h
    unfold parseT at hx
    by_cases h4 : 4096 < S.length
    · rw [if_pos h4] at hx; cases hx; exact absurd h' (by decide)
    · rw [if_neg h4] at hx
      cases hl : lexW 0 S with
      | error y =>
        rw [hl] at hx
        cases hx
        obtain ⟨e, p⟩ := x
        have := lexW_error S 0 e p hl
        have h2 : e = 0 := h'
        omega
      | ok T =>
        rw [hl] at hx
        have hx' : takeL S.length (T.length + 1) [] T = .error x := hx
        have := does_rows S.length T (T.length + 1) [] ⟨0, 0, 0⟩ rfl
        rw [show T.drop (Ws.mk 0 0 0).i = T from rfl, hx'] at this
        exact this.2.2 h'
theorem parseP_nil7 {S : List UInt8} (h : (parseP S).2.1 ≠ 0) : (parseP S).1 = [] := by
  unfold parseP at h ⊢
  cases hx : parseT S with
  | ok l => rw [hx] at h; exact absurd rfl h
  | error x => rfl


def ent00 : Ent := ⟨false, 0, 0, 0, 0, 0, 0, 0, 0, 0, 0, 0⟩
/-- What a text comes to. -/
def readP (S : List UInt8) : List Ent × Int × Int := outC (readT S)
theorem readP_bad {S : List UInt8} (h : (parseP S).2.1 ≠ 0) : readP S = ([], ((parseP S).2.1 : Int), ((parseP S).2.2 : Int)) := by
  unfold readP readT
  unfold parseP at h ⊢
  cases hp : parseT S with
  | ok l => rw [hp] at h; exact absurd rfl h
  | error x => rfl
theorem readP_good {S : List UInt8} (h : (parseP S).2.1 = 0) : readP S = checkP (S.length : Int) (parseP S).1 := by
  have := parseP_zero7 h
  unfold readP readT checkP
  rw [this]
theorem raws_sl7 {B : Nat} {w : World} {L : List Raw} {v : Value} (h : RawsOwn B w L v) : RawsAt w v L := by
  obtain ⟨P, h1, h2, h3⟩ := h
  refine ⟨P, h1, gsl_of (E := RawE) h2 fun c _ => rfl, fun p hp => ?_⟩
  obtain ⟨Q, q1, q2, q3⟩ := h3 p hp
  exact ⟨Q, q1, gsl_of (E := ClaE) q2 fun c _ => rfl, fun r hr => gsl_of (E := FigE) (q3 r hr) fun c _ => rfl⟩

set_option maxHeartbeats 4000000 in
theorem read_any (s : ByteArray) (hs : s.size ≤ maxLen) (w : World) :
    Calls Tryd.prog 8 #[.string s] w fun e w' => ∃ v, e = .returned (.tuple #[v, .int .i64 (readP s.data.toList).2.1, .int .i64 (readP s.data.toList).2.2]) ∧ EntsOwn w.heap.size w' (readP s.data.toList).1 v ∧ Below w.heap.size w w' := by
  have C1 : Hid (∀ W, Calls Tryd.prog 18 #[.string s] W fun e w' => ∃ v, e = .returned (.tuple #[v, .int .i64 ((parseP s.data.toList).2.1 : Nat), .int .i64 ((parseP s.data.toList).2.2 : Nat)]) ∧ RawsOwn W.heap.size w' (parseP s.data.toList).1 v ∧ Below W.heap.size W w') := parse_any s hs
  have hlen : (s.data.toList.length : Int) = (s.size : Int) := by rw [← Lib.size_eq]
  have hz : (parseP s.data.toList).2.1 = 0 → readP s.data.toList = checkP (s.size : Int) (parseP s.data.toList).1 := fun h => by rw [readP_good h, hlen]
  have hb := @readP_bad s.data.toList
  obtain ⟨S, hS⟩ : ∃ S, S = s.data.toList := ⟨_, rfl⟩
  rw [← hS] at C1 hz hb ⊢
  have CK : Hid (∀ (l : List Raw) vl W, RawsAt W vl l → Calls Tryd.prog 19 #[vl, .int .i64 (s.size : Int)] W fun e w' => ∃ v, e = .returned (.tuple #[v, .int .i64 (checkP (s.size : Int) l).2.1, .int .i64 (checkP (s.size : Int) l).2.2]) ∧ EntsOwn W.heap.size w' (checkP (s.size : Int) l).1 v ∧ Below W.heap.size W w') := fun l vl W h => check_any l vl _ W h
  obtain ⟨⟨R, E, A⟩, hP⟩ : ∃ x, x = parseP S := ⟨_, rfl⟩
  rw [← hP] at C1 hz hb
  simp only at C1 hz hb
  obtain ⟨X, hX⟩ : ∃ X, X = readP S := ⟨_, rfl⟩
  rw [← hX] at hz hb ⊢
  unfold maxLen at hs
  clear hS hP hX hlen
  by_cases hE : E = 0
  · subst hE
    obtain rfl := hz rfl
    clear hz hb
    go_enter Tryd.func8, Tryd.ntmps8
    go_wp2_with fail
    refine (C1.out _).mono ?_
    rintro e w1 ⟨v, rfl, ho1, hb1⟩
    have HR : Hid (RawsAt w1 v R) := raws_sl7 ho1
    have HB : Hid (Below w.heap.size w w1) := hb1
    clear ho1 hb1
    go_wp2_with fail
    refine (CK.out _ _ _ HR.out).mono ?_
    rintro e w2 ⟨v2, rfl, ho2, hb2⟩
    have HO : Hid (EntsOwn w.heap.size w2 (checkP (s.size : Int) R).1 v2) := gown_base ho2 HB.out.size
    have HB2 : Hid (Below w.heap.size w w2) := HB.out.trans (hb2.mono HB.out.size)
    clear ho2 hb2
    go_wp2_with fail
    go_ret3
    exact ⟨_, rfl, HO.out, HB2.out⟩
  · obtain rfl := hb hE
    have hne : ((E : Int) != 0) = true := by simp; omega
    clear hz hb hE
    go_enter Tryd.func8, Tryd.ntmps8
    go_wp2_with fail
    refine (C1.out _).mono ?_
    rintro e w1 ⟨v, rfl, ho1, hb1⟩
    have HB : Hid (Below w.heap.size w w1) := hb1
    clear ho1 hb1
    go_wp2_with fail
    go_ret3
    exact ⟨_, rfl, World.ownsRow_nil _ _ _ _, HB.out⟩

def ex7A : List UInt8 := [57, 32, 100, 112, 111, 114, 116, 32, 56, 48, 32, 45, 62, 32, 112, 111, 114, 116, 32, 49, 10, 57, 32, 115, 114, 99, 32, 49, 48, 46, 48, 46, 48, 46, 48, 47, 56, 32, 45, 62, 32, 112, 111, 114, 116, 32, 50, 10, 100, 101, 102, 97, 117, 108, 116, 32, 45, 62, 32, 100, 114, 111, 112]
def ex7B : List UInt8 := [49, 32, 115, 114, 99, 32, 49, 46, 50, 46, 51, 46, 50, 53, 54, 32, 45, 62, 32, 100, 114, 111, 112]
def ex7E : List Ent := [⟨false, 9, 1, 0, 0, 0, 0, 0, 65535, 80, 80, -1⟩, ⟨false, 9, 2, 167772160, 8, 0, 0, 0, 65535, 0, 65535, -1⟩, ⟨true, 0, 0, 0, 0, 0, 0, 0, 0, 0, 0, 0⟩]
def ex7H : List Int := [10, 0, 0, 1, 0, 0, 0, 0, 0, 0, 0, 80, 0]
def ex7K : List Int := [10, 0, 0, 1, 0, 0, 0, 0, 0, 0, 0, 81, 0]
theorem ex7_read : readP ex7A = (ex7E, 0, 0) := by kernel_rfl
theorem ex7_bad : readP ex7B = ([], 10, 12) := by kernel_rfl
theorem ex7_one : saysT (applyT ex7H) ex7E = (1, true) := by kernel_rfl
theorem ex7_two : saysT (applyT ex7K) ex7E = (2, true) := by kernel_rfl
theorem ex7H_byt : Byt ex7H := ⟨rfl, fun k => by
  rcases Nat.lt_or_ge k 13 with h | h
  · rcases (show k = 0 ∨ k = 1 ∨ k = 2 ∨ k = 3 ∨ k = 4 ∨ k = 5 ∨ k = 6 ∨ k = 7 ∨ k = 8 ∨ k = 9 ∨ k = 10 ∨ k = 11 ∨ k = 12 by omega) with h | h | h | h | h | h | h | h | h | h | h | h | h <;> subst h <;> decide
  · rw [List.getD_eq_getElem?_getD, List.getElem?_eq_none h]; decide⟩
theorem ex7K_byt : Byt ex7K := ⟨rfl, fun k => by
  rcases Nat.lt_or_ge k 13 with h | h
  · rcases (show k = 0 ∨ k = 1 ∨ k = 2 ∨ k = 3 ∨ k = 4 ∨ k = 5 ∨ k = 6 ∨ k = 7 ∨ k = 8 ∨ k = 9 ∨ k = 10 ∨ k = 11 ∨ k = 12 by omega) with h | h | h | h | h | h | h | h | h | h | h | h | h <;> subst h <;> decide
  · rw [List.getD_eq_getElem?_getD, List.getElem?_eq_none h]; decide⟩
theorem ex7_32 : ∀ x ∈ ex7E, ent32 x := fun x hx => by
  simp only [ex7E, List.mem_cons, List.not_mem_nil, or_false] at hx
  rcases hx with rfl | rfl | rfl <;> exact ⟨⟨by decide, by decide⟩, ⟨by decide, by decide⟩⟩

end Go.Proofs.YtnbklmmampdbfaaDoor
namespace Go.Proofs.YtnbklmmampdbfaaDoor
open Go Go.RowKit
set_option maxRecDepth 20000

def ex8A : List UInt8 := [50, 32, 100, 112, 111, 114, 116, 32, 49, 45, 50, 32, 45, 62, 32, 112, 111, 114, 116, 32, 49, 10, 53, 32, 100, 112, 111, 114, 116, 32, 49, 32, 45, 62, 32, 112, 111, 114, 116, 32, 50, 10, 100, 101, 102, 97, 117, 108, 116, 32, 45, 62, 32, 100, 114, 111, 112]
def ex8P : Ent := ⟨false, 2, 1, 0, 0, 0, 0, 0, 65535, 1, 2, -1⟩
def ex8Q : Ent := ⟨false, 5, 2, 0, 0, 0, 0, 0, 65535, 1, 1, -1⟩
def ex8D : Ent := ⟨true, 0, 0, 0, 0, 0, 0, 0, 0, 0, 0, 0⟩
def ex8E : List Ent := [ex8P, ex8Q, ex8D]
def ex8R : List Ent := [ex8Q, ex8P, ex8D]
def ex8H : List Int := [0, 0, 0, 0, 0, 0, 0, 0, 0, 0, 0, 1, 0]
def ex8M : List Int := [0, 0, 0, 0, 0, 0, 0, 0, 0, 0, 255, 255, 0]
def ex8N : List Int := [0, 0, 0, 0, 0, 0, 0, 0, 0, 0, 0, 2, 0]
def ex8O : List Int := [0, 0, 0, 0, 0, 0, 0, 0, 0, 0, 0, 0, 0]
def ex8T : List RuleM := [⟨0, (ex8H, ex8M), 2⟩, ⟨1, (ex8N, ex8M), 1⟩, ⟨2, (ex8O, ex8O), 0⟩]
theorem ex8_read : readP ex8A = (ex8E, 0, 0) := by kernel_rfl
theorem ex8_rows {R : List Ent} (h : RowsOf ex8E R) : R = ex8R := by
  refine rowsOf_one h ⟨[ex8Q, ex8P], ⟨rfl, ?_, ?_⟩, rfl⟩
  · refine List.pairwise_cons.2 ⟨fun y hy => ?_, List.pairwise_cons.2 ⟨fun y hy => by simp at hy, List.Pairwise.nil⟩⟩
    obtain rfl : y = ex8P := by simpa using hy
    show (2 : Int) ≤ 5
    decide
  · exact (alike_swap (X := [ex8P]) (Y := [ex8Q]) (fun y hy x hx => by
      obtain rfl : y = ex8Q := by simpa using hy
      obtain rfl : x = ex8P := by simpa using hx
      show (2 : Int) < 5
      decide)).symm
theorem ex8_comp : compT ex8R = (ex8T, 0) := by kernel_rfl
theorem ex8_look : lookT ex8T ex8H = (⟨0, (ex8H, ex8M), 2⟩, true) := by kernel_rfl
theorem ex8_32 : ∀ x ∈ ex8E, ent32 x := fun x hx => by
  simp only [ex8E, List.mem_cons, List.not_mem_nil, or_false] at hx
  rcases hx with rfl | rfl | rfl <;> exact ⟨⟨by decide, by decide⟩, ⟨by decide, by decide⟩⟩
theorem byt_dec {L : List Int} (h : L.length = 13) (h2 : L.all (fun x => decide (0 ≤ x) && decide (x < 256)) = true) : Byt L := by
  refine ⟨h, fun k => ?_⟩
  rw [List.getD_eq_getElem?_getD]
  by_cases hk : k < L.length
  · rw [List.getElem?_eq_getElem hk, Option.getD_some]
    have := List.all_eq_true.1 h2 L[k] (List.getElem_mem _)
    simp at this
    exact this
  · rw [List.getElem?_eq_none (by omega)]
    exact ⟨by decide, by decide⟩
theorem ex8_ok : ∀ r ∈ ex8T, okR8 r := fun r hr => by
  simp only [ex8T, List.mem_cons, List.not_mem_nil, or_false] at hr
  rcases hr with rfl | rfl | rfl <;> exact ⟨byt_dec rfl (by decide), byt_dec rfl (by decide)⟩
theorem ex8O_Z : ex8O = Z := by rw [Z_eq]; rfl

set_option maxHeartbeats 8000000 in
set_option maxRecDepth 100000 in
theorem awake8_any (w : World) (hP : Places w) : Calls Tryd.prog 7 #[] w fun e w' => e = .returned (.bool true) ∧ Below w.heap.size w w' := by
  have C1 : Hid (∀ W, Calls Tryd.prog 8 #[.string ⟨#[50, 32, 100, 112, 111, 114, 116, 32, 49, 45, 50, 32, 45, 62, 32, 112, 111, 114, 116, 32, 49, 10, 53, 32, 100, 112, 111, 114, 116, 32, 49, 32, 45, 62, 32, 112, 111, 114, 116, 32, 50, 10, 100, 101, 102, 97, 117, 108, 116, 32, 45, 62, 32, 100, 114, 111, 112]⟩] W fun e w' => ∃ v, e = .returned (.tuple #[v, .int .i64 0, .int .i64 0]) ∧ EntsOwn W.heap.size w' ex8E v ∧ Below W.heap.size W w') := fun W => by
    have := read_any ⟨#[50, 32, 100, 112, 111, 114, 116, 32, 49, 45, 50, 32, 45, 62, 32, 112, 111, 114, 116, 32, 49, 10, 53, 32, 100, 112, 111, 114, 116, 32, 49, 32, 45, 62, 32, 112, 111, 114, 116, 32, 50, 10, 100, 101, 102, 97, 117, 108, 116, 32, 45, 62, 32, 100, 114, 111, 112]⟩ (by decide) W
    rw [show (⟨#[50, 32, 100, 112, 111, 114, 116, 32, 49, 45, 50, 32, 45, 62, 32, 112, 111, 114, 116, 32, 49, 10, 53, 32, 100, 112, 111, 114, 116, 32, 49, 32, 45, 62, 32, 112, 111, 114, 116, 32, 50, 10, 100, 101, 102, 97, 117, 108, 116, 32, 45, 62, 32, 100, 114, 111, 112]⟩ : ByteArray).data.toList = ex8A from rfl, ex8_read] at this
    exact this
  have C2 : Hid (∀ W v, EntsAt W v ex8E → Below w.heap.size w W → Calls Tryd.prog 9 #[v] W fun e w' => (∃ u, e = .returned (.tuple #[u, .int .i64 0]) ∧ w'.ownsRow W.heap.size 35 28 u ex8T.length (gcells ruleV ex8T)) ∧ Below W.heap.size W w') := fun W v h hb =>
    (compile_any ex8E ex8_32 (by decide) v W h (hP.later hP.pos hb)).mono fun e w' hh => by
      obtain ⟨⟨R, h1, u, h2, h3⟩, h4⟩ := hh
      obtain rfl := ex8_rows h1
      rw [ex8_comp] at h2 h3
      exact ⟨⟨u, h2, h3⟩, h4⟩
  have C3 : Hid (∀ W v, RulesAt W v ex8T → Calls Tryd.prog 10 #[v, .agg #[.int .u8 0, .int .u8 0, .int .u8 0, .int .u8 0, .int .u8 0, .int .u8 0, .int .u8 0, .int .u8 0, .int .u8 0, .int .u8 0, .int .u8 0, .int .u8 1, .int .u8 0]] W fun e w' => e = .returned (.tuple #[.agg (ruleV ⟨0, (ex8H, ex8M), 2⟩), .bool true]) ∧ Below W.heap.size W w') := fun W v h => by
    have := look_any ex8T ex8_ok v ex8H (byt_dec rfl (by decide)) W h
    rw [ex8_look] at this
    exact this
  have hZl := Z_byt.1
  have HA : Hid (∀ W, Calls Tryd.prog 17 #[] W fun e w' => e = .returned (.agg (cv Z Z)) ∧ Below W.heap.size W w') := all8
  have heq : ∀ w, (Op.equalIn 10000 33 (.agg (cv Z Z)) (.agg (cv Z Z))).run Tryd.prog w = .ok true w := fun w => by rw [eqC Z Z Z Z hZl hZl hZl hZl w]; simp
  have hegc : ∀ op x y xs ys w, (eqGuard op 33 x y (.agg xs) (.agg ys)).run Tryd.prog w = .ok () w := egC
  clear hP
  go_enter Tryd.func7, Tryd.ntmps7
  go_wp2_with fail
  refine (C1.out _).mono ?_
  rintro e w1 ⟨v, rfl, ho1, hb1⟩
  have HE1 : Hid (EntsAt w1 v ex8E) := ents_sl ho1
  have HB1 : Hid (Below w.heap.size w w1) := hb1
  clear ho1 hb1
  go_wp2_with fail
  refine (C2.out _ _ HE1.out HB1.out).mono ?_
  rintro e w2 ⟨⟨u, rfl, ho2⟩, hb2⟩
  have HB2 : Hid (Below w.heap.size w w2) := HB1.out.trans (hb2.mono HB1.out.size)
  have HR2 : Hid (RulesAt w2 u ex8T) := gsl_of (E := RuleE) ho2 fun c hc => ruleV_size (ex8_ok c hc)
  obtain ⟨o2, c2, rfl⟩ := gown_slice ho2
  rw [show ex8T.length = 3 from rfl] at HR2 ⊢
  clear ho2 hb2
  go_wp2_with fail
  refine (C3.out _ _ HR2.out).mono ?_
  rintro e w3 ⟨rfl, hb3⟩
  have HB3 : Hid (Below w.heap.size w w3) := HB2.out.trans (hb3.mono HB2.out.size)
  obtain ⟨r, hr⟩ : ∃ r : RuleM, r = ⟨0, (ex8H, ex8M), 2⟩ := ⟨_, rfl⟩
  have hrk : okR8 r := by rw [hr]; exact ex8_ok _ (by simp [ex8T])
  have hact : r.action = 2 := by rw [hr]
  rw [← hr]
  obtain ⟨g, off, cur, ty, fr, q, rfl, hg, hc, hq⟩ := (GSl.below HR2.out hb3).at 2 (by decide)
  obtain rfl : q = ⟨2, (ex8O, ex8O), 0⟩ := (Option.some.inj hq).symm
  have HRK : Hid (okR8 r) := hrk
  have KN : Hid ((w3.alloc (.cells (ruleV r) 35)).heap[w3.heap.size]? = some (.cells (ruleV r) 35 (0, 0))) := heap_new _ _ _ rfl
  have KG : Hid ((w3.alloc (.cells (ruleV r) 35)).heap[g]? = some (.cells cur ty fr)) := heap_past _ _ _ _ hg
  have HC : Hid (∀ j, j < 26 → cur[off + 56 + 1 + j]? = (cv Z Z)[j]?) := fun j hj => by
    have h1 := hc (1 + j) (by show 1 + j < 28; omega)
    rw [(rule_at (ex8_ok ⟨2, (ex8O, ex8O), 0⟩ (by simp [ex8T]))).2.1 j hj] at h1
    rw [← ex8O_Z, ← h1]
    congr 1
    show off + 56 + 1 + j = off + 2 * 28 + (1 + j)
    omega
  have HB4 : Hid (Below w.heap.size w (w3.alloc (.cells (ruleV r) 35))) := HB3.out.alloc HB3.out.size _
  have ca : ∀ W, (∃ u : Later (w3.alloc (.cells (ruleV r) 35)), W = u.world) → W.cell? ⟨w3.heap.size, 27, none⟩ = some (.int .i64 2) := fun W hW => by
    rw [cell_of_row _ _ _ _ _ _ (later_block KN.out W hW), (rule_at HRK.out).2.2, hact]
  have hsz := ruleV_size hrk
  clear hb3 hr hrk hact hg hc hq
  go_wp2_with (refine wl_storeE (E := RuleE) RuleOk rfl _ _ rfl w3.heap.size (ruleV r) (rule_fits HRK.out) rfl rfl _ (heap_new _ _ _ rfl) rfl _ (setRow_new _ _ _ _ _ rfl) ?_)
  obtain ⟨w4, hw4⟩ : ∃ w4, w4 = w3.alloc (.cells (ruleV r) 35) := ⟨_, rfl⟩
  rw [← hw4] at KN KG HB4 ca ⊢
  obtain ⟨g3, hg3⟩ : ∃ g3, g3 = w3.heap.size := ⟨_, rfl⟩
  rw [← hg3] at KN ca ⊢
  clear hw4 hg3
  have ca' : ∀ u : Later w4, u.world.cell? ⟨g3, 27, none⟩ = some (.int .i64 2) := fun u => ca _ ⟨u, rfl⟩
  clear ca
  have ne1 := Later.ne w4
  refine wp_region_later (by kernel_rfl) (by kernel_rfl) ?_
  repeat go_big_quiet_step (fail)
  refine qlE (E := CubE) CubOk rfl _ rfl g (off + 56 + 1) rfl cur ty fr (cv Z Z) (cv_size _ _ hZl hZl) (later_block KG.out) HC.out ?_
  simp only [Act.put, List.setIfInBounds_toArray, List.set_cons_succ, List.set_cons_zero]
  go_big_quiet_want; go_big_quiet_op
  refine ⟨_, fun u => Calls.later_of (HA.out u.world), ?_⟩
  go_big_quiet_on
  repeat go_big_quiet_step (fail)
  refine wpQuiet_nil ?_
  rintro w' ⟨v5, rfl⟩
  go_wp2_with fail
  go_ret
  exact ⟨rfl, HB4.out.trans (v5.below.mono HB4.out.size)⟩
end Go.Proofs.YtnbklmmampdbfaaDoor
namespace Go.Proofs.YtnbklmmampdbfaaDoor
open Go Go.RowKit
set_option maxRecDepth 20000

theorem wl_min7 {ops : Array Oper} {rest : List Oper} {o : Oper} {a : Act} {w : World} {Q : Exit → Act → World → Prop} (hgd : o.guard = none) (x y : Operand) (ho : o.op = .call { callee := .builtin .min, args := #[x, y], argTypes := #[3, 3] })
    (p q r : Int) (hx : a.eval x = .int .i64 p) (hy : a.eval y = .int .i64 q) (hr : r = min p q) (h : wpList Tryd.prog ops Q rest (a.put o.dst (.int .i64 r)) w) : wpList Tryd.prog ops Q (o :: rest) a w := by
  obtain ⟨dst, op, ty, pos, after, guard⟩ := o
  subst ho
  have hr : (execOp a.eval ⟨dst, .call { callee := .builtin .min, args := #[x, y], argTypes := #[3, 3] }, ty, pos, after, guard⟩).run Tryd.prog w = .ok (.value (.int .i64 r)) w := by
    subst hr
    by_cases h1 : p ≤ q
    · rw [show min p q = p by omega]
      unfold execOp
      simp [resolve, invoke, builtin, hx, hy, Builtin.min_, Builtin.min2]
      all_goals omega
    · rw [show min p q = q by omega]
      unfold execOp
      simp [resolve, invoke, builtin, hx, hy, Builtin.min_, Builtin.min2]
      all_goals omega
  refine wpList_plain hgd fun K hK => ?_
  unfold Oper.wp
  rw [hr]
  exact hK _ _ h

theorem GSl.take7 {α : Type} {E : El} {enc : α → Array Value} {w : World} {o : Option Addr} {n cap : Nat} {C : List α} (h : GSl E enc w (.slice o n cap) C) {k : Nat} (hk : k ≤ n) : GSl E enc w (.slice o k cap) (C.take k) := by
  obtain ⟨o', cap', h1, h2, h3, h4⟩ := h
  simp only [Value.slice.injEq] at h1
  obtain ⟨rfl, rfl, rfl⟩ := h1
  have hl : (C.take k).length = k := by rw [List.length_take]; omega
  refine ⟨o, cap, by rw [hl], by rw [hl]; omega, h3, fun i hi => ?_⟩
  rw [hl] at hi
  obtain ⟨g, off, cur, t, fr, e1, e2, e3⟩ := h4 i (by omega)
  refine ⟨g, off, cur, t, fr, e1, e2, fun j hj => ?_⟩
  rw [List.getElem_take]
  exact e3 j hj
end Go.Proofs.YtnbklmmampdbfaaDoor
namespace Go.Proofs.YtnbklmmampdbfaaDoor
open Go Go.RowKit
set_option maxRecDepth 20000

theorem slice_rules {o : Option Addr} {n0 cap : Nat} {w : World} {l : List RuleM} (h : RulesAt w (.slice o n0 cap) l) (n : Nat) (hn : n ≤ n0) (hc : n0 ≤ cap) (W : World) :
    (Instr.sliceAt 29 (.slice o n0 cap) none (some (.int .i64 (n : Int))) none).run Tryd.prog W = .ok (.slice o n cap) W := by
  rcases Nat.eq_zero_or_pos n0 with h0 | h0
  · obtain rfl : n = 0 := by omega
    cases o with
    | none => simp [go_sem, Tryd.underlying29]
    | some a => simp [go_sem, Tryd.underlying29]
  · obtain ⟨g, off, _, _, _, _, rfl, _⟩ := h.at 0 h0
    simp [go_sem, Tryd.underlying29]
    omega
theorem look_has (l : List RuleM) (H : List Int) (h : (lookT l H).2 = true) : has (lookT l H).1.cube.1 (lookT l H).1.cube.2 H = true := by
  unfold lookT at h ⊢
  cases hf : l.find? (hasR H) with
  | none => rw [hf] at h; cases h
  | some r =>
    have h2 : hasR H r = true := List.find?_some hf
    exact h2
theorem look_ok {l : List RuleM} (h : ∀ r ∈ l, okR8 r) (H : List Int) : okR8 (lookT l H).1 := by
  unfold lookT
  cases hf : l.find? (hasR H) with
  | none => exact rule0_ok
  | some r => exact h r (List.mem_of_find?_eq_some hf)

set_option maxHeartbeats 8000000 in
set_option maxRecDepth 100000 in
theorem lawFLooks_any (l0 : List RuleM) (hok0 : ∀ r ∈ l0, okR8 r) (vl : Value) (H : List Int) (hH : Byt H) (w : World) (hl0 : RulesAt w vl l0) (hP : Places w) :
    Calls Tryd.prog 5 #[vl, .agg (hv H)] w fun e w' => e = .returned (.bool true) ∧ Below w.heap.size w w' := by
  have hHl := hH.1
  obtain ⟨o, cap, rfl, hc1, hc2⟩ := GSl.slice hl0
  obtain ⟨n0, hn0⟩ : ∃ n, n = l0.length := ⟨_, rfl⟩
  rw [← hn0] at hl0 hc1 ⊢
  obtain ⟨n, hn⟩ : ∃ n, n = min n0 40 := ⟨_, rfl⟩
  have HNM : Hid ((n : Int) = min (n0 : Int) 40) := (by omega : (n : Int) = min (n0 : Int) 40)
  have hn0' : n ≤ n0 := by omega
  have hl : RulesAt w (.slice o n cap) (l0.take n) := GSl.take7 hl0 hn0'
  have hok : ∀ r ∈ l0.take n, okR8 r := fun r hr => hok0 r (List.mem_of_mem_take hr)
  have hsl : ∀ W, (Instr.sliceAt 29 (.slice o n0 cap) none (some (.int .i64 (n : Int))) none).run Tryd.prog W = .ok (.slice o n cap) W := slice_rules hl0 n hn0' hc1
  obtain ⟨l, hle⟩ : ∃ l, l = l0.take n := ⟨_, rfl⟩
  rw [← hle] at hl hok
  unfold maxLen at hc2
  have AW : Hid (∀ W, Below w.heap.size w W → Calls Tryd.prog 7 #[] W fun e w' => e = .returned (.bool true) ∧ Below W.heap.size W w') := fun W hb => awake8_any W (hP.later hP.pos hb)
  have L1 : Hid (∀ W, Below w.heap.size w W → Calls Tryd.prog 10 #[.slice o n cap, .agg (hv H)] W fun e w' => e = .returned (.tuple #[.agg (ruleV (lookT l H).1), .bool (lookT l H).2]) ∧ Below W.heap.size W w') := fun W hb => look_any l hok _ H hH W (GSl.below hl hb)
  have L2 : Hid (∀ W, Below w.heap.size w W → Calls Tryd.prog 15 #[.slice o n cap, .agg (hv H)] W fun e w' => e = .returned (.tuple #[.agg (ruleV (lookT l H).1), .bool (lookT l H).2]) ∧ Below W.heap.size W w') := fun W hb => rlook_any l hok _ H hH W (GSl.below hl hb)
  have hhas := look_has l H
  have hr := look_ok hok H
  obtain ⟨⟨r, ok⟩, hS⟩ : ∃ S, S = lookT l H := ⟨_, rfl⟩
  rw [← hS] at L1 L2 hhas hr
  simp only at L1 L2 hhas hr
  have HA : Hid (ok = true → ∀ W, Calls Tryd.prog 16 #[.agg (cv r.cube.1 r.cube.2), .agg (hv H)] W fun e w' => e = .returned (.bool true) ∧ Below W.heap.size W w') := fun h W => by
    have := has_any r.cube.1 r.cube.2 H hr.1 hr.2 hH W
    rwa [hhas h] at this
  have HR : Hid (okR8 r) := hr
  have hsz := ruleV_size hr
  have heq : ∀ w, (Op.equalIn 10000 35 (.agg (ruleV r)) (.agg (ruleV r))).run Tryd.prog w = .ok true w := eqR_same hr
  have heg : ∀ op x y w, (eqGuard op 35 x y (.agg (ruleV r)) (.agg (ruleV r))).run Tryd.prog w = .ok () w := fun op x y w => egR op x y _ _ w
  have K0 : Hid ((w.alloc (.cells (hv H) 23)).heap[w.heap.size]? = some (.cells (hv H) 23 (0, 0))) := heap_new _ _ _ rfl
  have B0 : Hid (Below w.heap.size w (w.alloc (.cells (hv H) 23))) := (Below.refl _ _).alloc (Nat.le_refl _) _
  clear hl hl0 hok hok0 hle hn hn0 hP hS hhas hr
  go_enter Tryd.func5, Tryd.ntmps5
  go_wp2_with fail
  refine (AW.out _ B0.out).mono ?_
  rintro e w1 ⟨rfl, hb1⟩
  have R1 : Hid (w1.heap[w.heap.size]? = some (.cells (hv H) 23 (0, 0))) := (hb1.block _ (by simp)).trans K0.out
  have B1 : Hid (Below w.heap.size w w1) := B0.out.trans (hb1.mono B0.out.size)
  clear hb1 K0 B0
  go_wp2_with (first
    | (refine wl_min7 rfl _ _ rfl (n0 : Int) 40 (n : Int) rfl rfl HNM.out ?_)
    | (refine wl_load26 rfl _ rfl w.heap.size rfl H R1.out hHl ?_))
  refine (L1.out _ B1.out).mono ?_
  rintro e w2 ⟨rfl, hb2⟩
  have R2 : Hid ((w2.alloc (.cells (ruleV r) 35)).heap[w.heap.size]? = some (.cells (hv H) 23 (0, 0))) := heap_past _ _ _ _ ((hb2.block _ (Array.getElem?_eq_some_iff.1 R1.out).1).trans R1.out)
  have B2 : Hid (Below w.heap.size w (w2.alloc (.cells (ruleV r) 35))) := (B1.out.trans (hb2.mono B1.out.size)).alloc (B1.out.trans (hb2.mono B1.out.size)).size _
  have X2 : Hid ((w2.alloc (.cells (ruleV r) 35)).heap[w2.heap.size]? = some (.cells (ruleV r) 35 (0, 0))) := heap_new _ _ _ rfl
  clear hb2
  go_wp2_with (first
    | (refine wl_storeE (E := RuleE) RuleOk rfl _ _ rfl w2.heap.size (ruleV r) (rule_fits HR.out) rfl rfl _ (heap_new _ _ _ rfl) rfl _ (setRow_new _ _ _ _ _ rfl) ?_)
    | (refine wl_load26 rfl _ rfl w.heap.size rfl H R2.out hHl ?_))
  refine (L2.out _ B2.out).mono ?_
  rintro e w3 ⟨rfl, hb3⟩
  have B3 : Hid (Below w.heap.size w (w3.alloc (.cells (ruleV r) 35))) := (B2.out.trans (hb3.mono B2.out.size)).alloc (B2.out.trans (hb3.mono B2.out.size)).size _
  have R3 : Hid ((w3.alloc (.cells (ruleV r) 35)).heap[w.heap.size]? = some (.cells (hv H) 23 (0, 0))) := heap_past _ _ _ _ ((hb3.block _ (Array.getElem?_eq_some_iff.1 R2.out).1).trans R2.out)
  have X3 : Hid ((w3.alloc (.cells (ruleV r) 35)).heap[w2.heap.size]? = some (.cells (ruleV r) 35 (0, 0))) := heap_past _ _ _ _ ((hb3.block _ (by simp)).trans X2.out)
  have Y3 : Hid ((w3.alloc (.cells (ruleV r) 35)).heap[w3.heap.size]? = some (.cells (ruleV r) 35 (0, 0))) := heap_new _ _ _ rfl
  clear hb3 X2 R2 B2
  cases ok with
  | true =>
    go_wp2_with (first
      | (refine wl_storeE (E := RuleE) RuleOk rfl _ _ rfl w3.heap.size (ruleV r) (rule_fits HR.out) rfl rfl _ (heap_new _ _ _ rfl) rfl _ (setRow_new _ _ _ _ _ rfl) ?_)
      | (refine wl_loadE (E := RuleE) RuleOk rfl _ rfl w2.heap.size 0 rfl _ _ _ (ruleV r) hsz X3.out (own_cells _ _) ?_)
      | (refine wl_loadE (E := RuleE) RuleOk rfl _ rfl w3.heap.size 0 rfl _ _ _ (ruleV r) hsz Y3.out (own_cells _ _) ?_)
      | (refine wl_loadE (E := CubE) CubOk rfl _ rfl w2.heap.size 1 rfl _ _ _ (cv r.cube.1 r.cube.2) (cv_size _ _ HR.out.1.1 HR.out.2.1) X3.out (rule_at HR.out).2.1 ?_)
      | (refine wl_loadHg rfl _ rfl w.heap.size rfl H R3.out hHl ?_))
    refine (HA.out (by first | exact rfl | exact trivial) _).mono ?_
    rintro e w4 ⟨rfl, hb4⟩
    have B4 : Hid (Below w.heap.size w w4) := B3.out.trans (hb4.mono B3.out.size)
    clear hb4
    go_wp2_with fail
    go_ret
    exact ⟨rfl, B4.out⟩
  | false =>
    go_wp2_with (first
      | go_skip
      | (refine wl_storeE (E := RuleE) RuleOk rfl _ _ rfl w3.heap.size (ruleV r) (rule_fits HR.out) rfl rfl _ (heap_new _ _ _ rfl) rfl _ (setRow_new _ _ _ _ _ rfl) ?_)
      | (refine wl_loadE (E := RuleE) RuleOk rfl _ rfl w2.heap.size 0 rfl _ _ _ (ruleV r) hsz X3.out (own_cells _ _) ?_)
      | (refine wl_loadE (E := RuleE) RuleOk rfl _ rfl w3.heap.size 0 rfl _ _ _ (ruleV r) hsz Y3.out (own_cells _ _) ?_))
    go_ret
    exact ⟨rfl, B3.out⟩
end Go.Proofs.YtnbklmmampdbfaaDoor
