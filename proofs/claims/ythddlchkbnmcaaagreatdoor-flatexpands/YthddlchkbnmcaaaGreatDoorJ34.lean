import Derived.Test.YthddlchkbnmcaaaGreatDoorJ29
import Derived.Test.YthddlchkbnmcaaaGreatDoorJ14
import Derived.Test.YthddlchkbnmcaaaGreatDoorJ1
namespace Go.Proofs.YthddlchkbnmcaaaGreatDoor
open Go Go.RowKit
set_option maxRecDepth 20000

def okW (x : List UInt8) : Bool := isAddrW x || isPortW x || x == wProto
/-- A clause, whatever its word. -/
def clauT (E : Nat) (t : Tok) (T : List Tok) : Res (Cla × List Tok) := if isAddrW t.text then addrC E t T else if isPortW t.text then portC6 E t T else if t.text == wProto then protC E t T else .error (8, t.pos)

set_option maxHeartbeats 4000000 in
theorem clause_other (W0 w : World) (g E : Nat) (t : Tok) (ht : okW t.text = false) :
    Calls Tryz.prog 115 #[.pointer (some ⟨g, 0, none⟩), .agg (encT t)] w fun e w' => Took W0 w g E (ClaR w.heap.size) (.error (8, t.pos)) e w' := by
  unfold okW isAddrW isPortW at ht
  simp only [Bool.or_eq_false_iff] at ht
  have e0 : (t.text == [115, 114, 99]) = false := ht.1.1.1
  have e1 : (t.text == [100, 115, 116]) = false := ht.1.1.2
  have e2 : (t.text == [115, 112, 111, 114, 116]) = false := ht.1.2.1
  have e3 : (t.text == [100, 112, 111, 114, 116]) = false := ht.1.2.2
  have e4 : (t.text == [112, 114, 111, 116, 111]) = false := ht.2
  have q1 := fun x => tok_cells (heap_past _ x _ _ (heap_new w (.cells (encT t) 117) _ rfl))
  have q2 := fun x y => tok_cells (heap_past _ y _ _ (heap_past _ x _ _ (heap_new w (.cells (encT t) 117) _ rfl)))
  have t1 := fun x => (q1 x).2.1
  have t2 := fun x => (q1 x).2.2.1
  have t5 := fun x y => (q2 x y).2.1
  have t6 := fun x y => (q2 x y).2.2.1
  clear q1 q2 ht
  go_enter Tryz.func115, Tryz.ntmps115
  go_wp2_with (first
    | (refine wl_storeE (E := ClaE) ClaOk rfl _ _ rfl (w.heap.size + 2) (claV ⟨t.text, (t.pos : Int), [], false, false⟩ (.slice none 0 0)) (cla_fits _ _ ⟨_, _, _, rfl⟩) rfl rfl _ (heap_new _ _ _ (by simp)) rfl _ (setRow_new _ _ _ _ _ (by simp)) ?_))
  exact ⟨rfl, gb_alloc (gb_alloc (gb_alloc (gb_refl w g) _) _) _, rfl⟩
theorem clause_any (W0 w : World) (g E : Nat) (t : Tok) (T : List Tok) (h : Rd W0 w g E T) :
    Calls Tryz.prog 115 #[.pointer (some ⟨g, 0, none⟩), .agg (encT t)] w fun e w' => Took W0 w g E (ClaR w.heap.size) (clauT E t T) e w' := by
  unfold clauT
  by_cases h1 : t.text = wSrc
  · rw [if_pos (by rw [h1]; rfl)]; exact clause_src W0 w g E t h1 T h
  · by_cases h2 : t.text = wDst
    · rw [if_pos (by rw [h2]; rfl)]; exact clause_dst W0 w g E t h2 T h
    · have hA : isAddrW t.text = false := by unfold isAddrW; rw [Bool.or_eq_false_iff, beq_eq_false_iff_ne, beq_eq_false_iff_ne]; exact ⟨h1, h2⟩
      rw [hA, if_neg (by decide)]
      by_cases h3 : t.text = wSport
      · rw [if_pos (by rw [h3]; rfl)]; exact clause_sport W0 w g E t h3 T h
      · by_cases h4 : t.text = wDport
        · rw [if_pos (by rw [h4]; rfl)]; exact clause_dport W0 w g E t h4 T h
        · have hP : isPortW t.text = false := by unfold isPortW; rw [Bool.or_eq_false_iff, beq_eq_false_iff_ne, beq_eq_false_iff_ne]; exact ⟨h3, h4⟩
          rw [hP, if_neg (by decide)]
          by_cases h5 : t.text = wProto
          · rw [if_pos (by rw [h5]; rfl)]; exact clause_proto W0 w g E t h5 T h
          · have hp5 : (t.text == wProto) = false := by rw [beq_eq_false_iff_ne]; exact h5
            rw [hp5, if_neg (by decide)]
            exact clause_other W0 w g E t (by unfold okW; rw [hA, hP, hp5]; rfl)
/-- What the model says of a clause, and what the reader does. -/
theorem takeC_eq (E : Nat) (had : List Cla) (hh : ∀ c ∈ had, okW c.word = true) (t : Tok) (T : List Tok) : takeC E had t T = if had.any (fun c => c.word == t.text) then .error (9, t.pos) else clauT E t T := by
  unfold takeC clauT
  by_cases hb : had.any (fun c => c.word == t.text) = true
  · rw [if_pos hb]
    obtain ⟨c, hc, hw⟩ := List.any_eq_true.1 hb
    have hk : okW t.text = true := by
      have := hh c hc
      rwa [show c.word = t.text by simpa using hw] at this
    rw [if_neg, if_pos hb]
    unfold okW at hk
    intro hn
    simp only [Bool.and_eq_true, Bool.not_eq_true', Bool.or_eq_true] at hn hk
    rcases hk with (hk | hk) | hk
    · rw [hk] at hn; simp at hn
    · rw [hk] at hn; simp at hn
    · rw [hk] at hn; simp at hn
  · rw [if_neg hb, if_neg hb]
    by_cases hA : isAddrW t.text = true
    · rw [if_pos hA, if_neg (by rw [hA]; simp)]
      unfold addrC addrT
      cases hF : takeF E T with
      | error x => rfl
      | ok x =>
        show (if isAddrW t.text = true then _ else _) = _
        rw [if_pos hA]
        show _ = ((takeD E 3 x.2).map fun y => (x.1 :: y.1, y.2)).bind _
        cases hD : takeD E 3 x.2 with
        | error y => rfl
        | ok y => rfl
    · have hA' : isAddrW t.text = false := by simpa using hA
      rw [hA', if_neg (show ¬ (false = true) by decide)]
      by_cases hP : isPortW t.text = true
      · rw [if_pos hP, if_neg (by rw [hP]; simp)]
        unfold portC6
        cases hF : takeF E T with
        | error x => rfl
        | ok x =>
          simp only [Except.bind, Bool.false_eq_true, if_false, hP, if_true]
      · have hP' : isPortW t.text = false := by simpa using hP
        rw [hP', if_neg (show ¬ (false = true) by decide)]
        by_cases hQ : (t.text == wProto) = true
        · rw [if_pos hQ, if_neg (by rw [hQ]; simp)]
          unfold protC
          cases hF : takeF E T with
          | error x => rfl
          | ok x =>
            simp only [Except.bind, Except.map, Bool.false_eq_true, if_false]
        · have hQ' : (t.text == wProto) = false := by simpa using hQ
          rw [hQ', if_neg (show ¬ (false = true) by decide), if_pos (by simp)]
theorem clauT_ok {E : Nat} {t : Tok} {T T' : List Tok} {c : Cla} (h : clauT E t T = .ok (c, T')) : okW c.word = true := by
  unfold clauT at h
  by_cases hA : isAddrW t.text = true
  · rw [if_pos hA] at h
    obtain ⟨y, _, h2⟩ := bind_ok h
    obtain ⟨z, _, h3⟩ := map_ok h2
    cases h3
    unfold okW
    rw [show (Cla.word _) = t.text from rfl, hA]; rfl
  · rw [if_neg hA] at h
    by_cases hP : isPortW t.text = true
    · rw [if_pos hP] at h
      obtain ⟨y, _, h2⟩ := bind_ok h
      obtain ⟨z, _, h3⟩ := map_ok h2
      cases h3
      unfold okW
      rw [show (Cla.word _) = t.text from rfl, hP]; simp
    · rw [if_neg hP] at h
      by_cases hQ : (t.text == wProto) = true
      · rw [if_pos hQ] at h
        obtain ⟨z, _, h3⟩ := map_ok h
        cases h3
        unfold okW
        rw [show (Cla.word _) = t.text from rfl, hQ]; simp
      · rw [if_neg hQ] at h
        cases h
theorem Eats.len {T T' : List Tok} (h : Eats T T') : T'.length ≤ T.length := by
  obtain ⟨A, rfl, _⟩ := h
  simp
/-- How many tokens are left, as memory has it. -/
def restN (w : World) (g : Nat) : Nat := match w.heap[g]? with | some (Obj.cells cs _ _) => (match cs[0]? with | some (Value.slice _ n _) => n | _ => 0) | _ => 0
theorem rest_is {W0 w : World} {g E : Nat} {T : List Tok} (h : Rd W0 w g E T) : restN w g = T.length := by
  obtain ⟨_, _, v, h2, h3⟩ := h
  obtain ⟨o, cap, rfl, _, _⟩ := h3.slice
  unfold restN
  rw [h2]
  rfl
/-- Clauses in memory that are one's own, down to their numbers. -/
def FigsR (B : Nat) (w : World) (c : Cla) (u : Value) : Prop := FigsOwn B w c.nums u
def ClasOwn (B : Nat) (w : World) (C : List Cla) (v : Value) : Prop := NOwn ClaE claV (FigsR B) w B v C
theorem ClasOwn.by {w w' : World} {g B : Nat} (hgr : w.grownBy w' (some g)) (hB : g < B) {C : List Cla} {v : Value} (h : ClasOwn B w C v) : ClasOwn B w' C v := by
  obtain ⟨P, h1, h2, h3⟩ := h
  exact ⟨P, h1, own_by hgr hB h2, fun p hp => own_by hgr hB (h3 p hp)⟩
theorem ClasOwn.below {w w' : World} {B : Nat} (hb : Below w.heap.size w w') {C : List Cla} {v : Value} (h : ClasOwn B w C v) : ClasOwn B w' C v := by
  obtain ⟨P, h1, h2, h3⟩ := h
  exact ⟨P, h1, gown_below h2 hb, fun p hp => gown_below (h3 p hp) hb⟩
theorem figs_slice {B : Nat} {w : World} {c : Cla} {u : Value} (h : FigsR B w c u) : ∃ o n m, u = .slice o n m := by
  obtain ⟨o, cap, e⟩ := gown_slice h
  exact ⟨o, _, cap, e⟩

set_option maxHeartbeats 8000000 in
theorem clauses_any (W0 w : World) (g E : Nat) (T : List Tok) (hTl : T.length ≤ 5000) (h : Rd W0 w g E T) :
    Calls Tryz.prog 97 #[.pointer (some ⟨g, 0, none⟩)] w fun e w' => Took W0 w g E (ClasOwn w.heap.size) (takeCs E T.length [] T) e w' := by
  have CP : Hid (∀ W T, Rd W0 W g E T → Calls Tryz.prog 70 #[.pointer (some ⟨g, 0, none⟩)] W fun e w' => e = .returned (.agg (encT (hd E T))) ∧ Below W.heap.size W w') := fun W T h => peek_any W0 W g E T h
  have CK : Hid (∀ W T, Rd W0 W g E T → Calls Tryz.prog 71 #[.pointer (some ⟨g, 0, none⟩), .int .i64 1] W fun e w' => Took W0 W g E (fun _ t v => v = .agg (encT t)) (takeK E 1 T) e w') := fun W T h => take_any W0 W g E 1 (by decide) T h
  have CC : Hid (∀ W t T, Rd W0 W g E T → Calls Tryz.prog 115 #[.pointer (some ⟨g, 0, none⟩), .agg (encT t)] W fun e w' => Took W0 W g E (ClaR W.heap.size) (clauT E t T) e w') := fun W t T h => clause_any W0 W g E t T h
  have CS : Hid (∀ W v C, ClasOwn w.heap.size W C v → ∀ k t, W.heap[k]? = some (.cells (encT t) 117 (0, 0)) → Calls Tryz.prog 99 #[v, .func (.func 114) #[] #[.pointer (some ⟨k, 0, none⟩)]] W fun e w' => e = .returned (.bool (C.any (fun c => c.word == t.text))) ∧ Below W.heap.size W w') := fun W v C hC k t hk => containsFunc_any (R := FigsR w.heap.size) (fun _ _ _ h => figs_slice h) W v C (NOwn.sl (fun _ _ => rfl) hC) k t hk
  have hmf : ∀ (fn : Fn) (first cap : Array Value) (w : World), (Instr.makeFunc fn first cap).run Tryz.prog w = .ok (.func fn first cap) w := fun _ _ _ _ => rfl
  have hgl := h.size
  have H : Hid (Rd W0 w g E T) := h
  obtain ⟨A, hA⟩ : ∃ A, A = takeCs E T.length [] T := ⟨_, rfl⟩
  rw [← hA]
  have HA0 : Hid (A = takeCs E T.length [] T) := hA
  clear h hA
  go_enter Tryz.func97, Tryz.ntmps97
  go_wp2_with fail
  go_loopw [3] (fun out wr => ∃ (f : Nat) (had : List Cla) (T1 : List Tok), T1.length ≤ f ∧ had.length + T1.length ≤ 5000 ∧ Hid (∀ c ∈ had, okW c.word = true) ∧ Hid (A = takeCs E f had T1) ∧ w.grownBy wr (some g) ∧ Rd W0 wr g E T1 ∧ ClasOwn w.heap.size wr had out) (fun _ wr => restN wr g)
  case atStart => exact ⟨T.length, [], T, Nat.le_refl _, by simpa using hTl, fun c hc => by simp at hc, HA0, gb_refl _ _, H.out, NOwn.nil _ _ _ _ _⟩
  case round =>
    obtain ⟨f, had, T1, hf, hl, HV, HA, hg, R1, hown⟩ := hrel
    have OWN : Hid (ClasOwn w.heap.size wr had u3) := hown
    have HG : Hid (w.grownBy wr (some g)) := hg
    have HR : Hid (Rd W0 wr g E T1) := R1
    clear hown hg R1 HA0
    have hf0 := tok_f0 (hd E T1)
    by_cases hk : (hd E T1).kind = 1
    · obtain ⟨T2, hT2, hK⟩ := takeK_yes (by decide) hk
      have hk' : (((hd E T1).kind : Int) == 1) = true := by simp; omega
      obtain ⟨t, ht⟩ : ∃ t, t = hd E T1 := ⟨_, rfl⟩
      have HT1 : Hid (T1 = t :: T2) := by show _ = _; rw [ht]; exact hT2
      have hl2 : had.length + T2.length + 1 ≤ 5000 := by rw [hT2] at hl; simp at hl; omega
      have hf2 : T2.length + 1 ≤ f := by rw [hT2] at hf; simpa using hf
      obtain ⟨f', rfl⟩ : ∃ f', f = f' + 1 := ⟨f - 1, by omega⟩
      have HA2 : Hid (A = (takeC E had t T2).bind fun x => takeCs E f' (had ++ [x.1]) x.2) := by
        show _ = _
        rw [HA.out, HT1.out, takeCs, if_pos (by rw [ht]; exact hk)]
      have HRest : Hid (restN wr g = T2.length + 1) := by show _ = _; rw [rest_is HR.out, HT1.out]; rfl
      rw [← ht] at hf0 hk' hK
      have HK : Hid (takeK E 1 T1 = .ok (t, T2)) := hK
      clear hk hT2 hK HA hl hf
      go_wp2_with fail
      refine (CP.out _ T1 HR.out).mono ?_
      rw [← ht]
      clear ht
      rintro e w1 ⟨rfl, hb1⟩
      have HR1 : Hid (Rd W0 w1 g E T1) := HR.out.below hb1
      have HG1 : Hid (w.grownBy w1 (some g)) := grown_trans HG.out (grown_below hb1)
      have OWN1 : Hid (ClasOwn w.heap.size w1 had u3) := OWN.out.below hb1
      clear hb1
      go_wp2_with fail
      refine (CK.out _ T1 HR1.out).mono ?_
      rw [HK.out]
      rintro e w2 ⟨hg2, ⟨v, rfl, rfl⟩, R2⟩
      have HG2 : Hid (w.grownBy w2 (some g)) := grown_trans HG1.out hg2
      have OWN2 : Hid (ClasOwn w.heap.size (w2.alloc (.cells (encT t) 117)) had u3) := (OWN1.out.by hg2 hgl.2).below ((Below.refl _ _).alloc (Nat.le_refl _) _)
      have HR2 : Hid (Rd W0 (w2.alloc (.cells (encT t) 117)) g E T2) := R2.alloc _
      have HT : Hid ((w2.alloc (.cells (encT t) 117)).heap[w2.heap.size]? = some (.cells (encT t) 117 (0, 0))) := heap_new _ _ _ rfl
      clear hg2 R2
      go_wp2_with (first
        | (refine wl_storeE (E := TokE) TokOk rfl _ _ rfl w2.heap.size (encT t) (tv_fits _ _ _ _) rfl rfl _ (heap_new _ _ _ rfl) rfl _ (setRow_new _ _ _ _ _ rfl) ?_))
      refine (CS.out _ u3 had OWN2.out w2.heap.size t HT.out).mono ?_
      rintro e w4 ⟨rfl, hb4⟩
      have ht4 : w4.heap[w2.heap.size]? = some (.cells (encT t) 117 (0, 0)) := (hb4.block _ (by simp)).trans HT.out
      obtain ⟨_, t1, _, _⟩ := tok_cells ht4
      have HT4 : Hid (w4.heap[w2.heap.size]? = some (.cells (encT t) 117 (0, 0))) := ht4
      have HG4 : Hid (w.grownBy w4 (some g)) := grown_trans (gb_alloc HG2.out _) (grown_below hb4)
      have OWN4 : Hid (ClasOwn w.heap.size w4 had u3) := OWN2.out.below hb4
      have HR4 : Hid (Rd W0 w4 g E T2) := HR2.out.below hb4
      clear hb4 ht4
      by_cases hd2 : had.any (fun c => c.word == t.text) = true
      · have HA3 : Hid (A = .error (9, t.pos)) := by
          show _ = _
          rw [HA2.out, takeC_eq E had HV.out, if_pos hd2]; rfl
        rw [hd2]
        clear hd2
        go_wp2_with fail
        rw [HA3.out]
        exact ⟨rfl, HG4.out, rfl⟩
      · have HC3 : Hid (takeC E had t T2 = clauT E t T2) := by
          show _ = _
          rw [takeC_eq E had HV.out, if_neg hd2]
        have HA3 : Hid (A = (clauT E t T2).bind fun x => takeCs E f' (had ++ [x.1]) x.2) := by
          show _ = _
          rw [HA2.out, HC3.out]
        have hd3 : had.any (fun c => c.word == t.text) = false := by simpa using hd2
        rw [hd3]
        clear hd2 hd3 t1
        go_wp2_with (first
          | (refine wl_loadE (E := TokE) TokOk rfl _ rfl w2.heap.size 0 rfl _ _ _ (encT t) rfl HT4.out (own_cells _ _) ?_))
        refine (CC.out _ t T2 HR4.out).mono ?_
        cases hC : clauT E t T2 with
        | error x =>
          obtain ⟨c, q⟩ := x
          have HA4 : Hid (A = .error (c, q)) := by show _ = _; rw [HA3.out, hC]; rfl
          clear hC
          rintro e w5 ⟨hg5, rfl⟩
          go_wp2_with fail
          rw [HA4.out]
          exact ⟨rfl, grown_trans HG4.out hg5, rfl⟩
        | ok x =>
          obtain ⟨c, T3⟩ := x
          have HA4 : Hid (A = takeCs E f' (had ++ [c]) T3) := by show _ = _; rw [HA3.out, hC]; rfl
          have hle := (eats_C (HC3.out.trans hC)).len
          have HV4 : Hid (∀ d ∈ had ++ [c], okW d.word = true) := fun d hd => by
            rcases List.mem_append.1 hd with hd | hd
            · exact HV.out d hd
            · rw [List.mem_singleton.1 hd]; exact clauT_ok hC
          clear hC
          rintro e w5 ⟨hg5, ⟨v, rfl, u, rfl, hfig5⟩, R5⟩
          have z4 := HG4.out.size
          have OWN5 : Hid (ClasOwn w.heap.size w5 had u3) := OWN4.out.by hg5 hgl.2
          have HG5 : Hid (w.grownBy w5 (some g)) := grown_trans HG4.out hg5
          have HF5 : Hid (FigsR w.heap.size w5 c u) := gown_base hfig5 z4
          have HR5 : Hid (Rd W0 w5 g E T3) := R5
          obtain ⟨o5, n5, m5, rfl⟩ := figs_slice HF5.out
          clear hg5 hfig5 R5
          go_wp2_with (first
            | (refine wl_buildE (E := ClaE) ClaOk rfl _ rfl (claV c (.slice o5 n5 m5)) rfl rfl ?_)
            | (at_builtin; refine of_stopT ?_))
          unfold StopT
          obtain ⟨P, hP1, hP2, hP3⟩ := OWN5.out
          have HO6 : Hid ((w5.alloc (.cells (claV c (.slice o5 n5 m5)) 129)).ownsRow w.heap.size 129 5 u3 P.length (gcells (fun p : Cla × Value => claV p.1 p.2) P)) := hP2.alloc _
          have hPl : P.length = had.length := by rw [← hP1, List.length_map]
          have z5 := HG5.out.size
          refine wl_appendE (E := ClaE) ClaOk (fun p : Cla × Value => claV p.1 p.2) rfl _ _ rfl w.heap.size _ P (c, .slice o5 n5 m5) (cla_fits _ _ ⟨_, _, _, rfl⟩) rfl HO6.out _ 1 rfl (heap_new _ _ _ rfl) (by omega) (by simp; omega) ?_
          intro v' w6 hown6 hgr6 _
          have apart : ∀ (d : Cla) (x : Value), FigsR w.heap.size w5 d x → FigsR w.heap.size w6 d x := fun d x hx => own_grown hgr6 (hx.alloc _) (own_apart HO6.out (hx.alloc _) (by decide))
          have HOWN6 : Hid (ClasOwn w.heap.size w6 (had ++ [c]) v') := NOwn.snoc hP1 hown6 (fun p hp => apart _ _ (hP3 p hp)) (apart _ _ HF5.out)
          have HG6 : Hid (w.grownBy w6 (some g)) := gb_own (gb_alloc HG5.out _) hgr6 fun k hk => (HO6.out.lt k hk).1
          have HR6 : Hid (Rd W0 w6 g E T3) := rd_own (HR5.out.alloc _) hgr6 fun k hk => Nat.lt_of_lt_of_le hgl.2 (HO6.out.lt k hk).1
          obtain ⟨o6, cap6, rfl⟩ := gown_slice hown6
          clear hown6 hgr6 apart hP1 hP2 hP3 hPl HO6
          simp only [Act.put, List.setIfInBounds_toArray, List.set_cons_succ, List.set_cons_zero]
          go_wp2_with fail
          go_roundw
          case rel => exact ⟨f', had ++ [c], T3, by omega, by simp; omega, HV4, HA4, HG6.out, HR6.out, HOWN6.out⟩
          case measure => rw [HRest.out, rest_is HR6.out]; omega
    · have hk' : (((hd E T1).kind : Int) == 1) = false := by simp; omega
      have HA2 : Hid (A = .ok (had, T1)) := by
        show _ = _
        rw [HA.out]
        cases T1 with
        | nil => cases f <;> rfl
        | cons t T2 =>
          obtain ⟨f', rfl⟩ : ∃ f', f = f' + 1 := ⟨f - 1, by simp at hf; omega⟩
          exact if_neg hk
      clear hk HA
      go_wp2_with fail
      refine (CP.out _ T1 HR.out).mono ?_
      obtain ⟨t, ht⟩ : ∃ t, t = hd E T1 := ⟨_, rfl⟩
      rw [← ht] at hf0 hk' ⊢
      clear ht
      rintro e w1 ⟨rfl, hb1⟩
      go_wp2_with fail
      go_ret
      rw [HA2.out]
      exact ⟨grown_trans HG.out (grown_below hb1), ⟨_, rfl, OWN.out.below hb1⟩, HR.out.below hb1⟩
end Go.Proofs.YthddlchkbnmcaaaGreatDoor
