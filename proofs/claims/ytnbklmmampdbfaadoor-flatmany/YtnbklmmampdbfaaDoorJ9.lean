import Derived.Test.YtnbklmmampdbfaaDoorJ5
import Derived.Maps.AppendAt
import Derived.Test.YtnbklmmampdbfaaDoorJ3
import Derived.Test.YtnbklmmampdbfaaDoorJ4
import Derived.Test.YtnbklmmampdbfaaDoorJ6
import Derived.Test.YtnbklmmampdbfaaDoorJ7
namespace Go.Proofs.YtnbklmmampdbfaaDoor
open Go Go.RowKit
set_option maxRecDepth 20000

/-- The worlds that hold two blocks. -/
structure Keep (g1 : Nat) (o1 : Obj) (g2 : Nat) (o2 : Obj) where
  world : World
  k1 : world.heap[g1]? = some o1
  k2 : world.heap[g2]? = some o2

theorem qN' {C : World → Prop} {ops : Array Oper} {Q : Act → Prop} {rest : List Oper} {o : Oper} {a : Act} (hw : Region.wanted o (yielded ops a.tmps) = true) (x : Operand) (ho : o.op = .load 3 x)
    (g k : Nat) (hx : a.eval x = .pointer (some ⟨g, k, none⟩)) (cs : Array Value) (t : TypeId) (fr : Nat × Nat) (n : Int) (hg : ∀ w', C w' → w'.heap[g]? = some (.cells cs t fr)) (hc : cs[k]? = some (.int .i64 n))
    (h : wpQuiet Tryd.prog ops C Q rest (a.put o.dst (.int .i64 n))) : wpQuiet Tryd.prog ops C Q (o :: rest) a := by
  refine BigFrame.wpQuiet_want hw fun K hK => ⟨.int .i64 n, fun w hC => ?_, hK _ h⟩
  unfold Oper.quietAt execOp
  simp only [ho, hx, Instr.loadAt, Instr.sureAddr, Sem.run_bind, Sem.run_pure, Result.andThen_ok, load_num w g k cs t fr n (hg w hC) hc]
  exact ⟨rfl, rfl⟩
theorem qH' {C : World → Prop} {ops : Array Oper} {Q : Act → Prop} {rest : List Oper} {o : Oper} {a : Act} (hw : Region.wanted o (yielded ops a.tmps) = true) (x : Operand) (ho : o.op = .load 23 x)
    (g : Nat) (hx : a.eval x = .pointer (some ⟨g, 0, none⟩)) (L : List Int) (hg : ∀ w', C w' → w'.heap[g]? = some (.cells (hv L) 23 (0, 0))) (hL : L.length = 13)
    (h : wpQuiet Tryd.prog ops C Q rest (a.put o.dst (.agg (hv L)))) : wpQuiet Tryd.prog ops C Q (o :: rest) a :=
  q_load_row hw 23 x ho g hx 23 (hv L) (0, 0) _ hg Tryd.underlying23 rfl (size26 L hL) h
theorem wpOp_buildC {ops : Array Oper} {Q : Exit → Act → World → Prop} {i : Nat} {o : Oper} {K : Act → World → Prop} {a : Act} {w : World} (hi : ops[i]? = some o) (hw : Region.wanted o (yielded ops a.tmps) = true) (x : Operand) (ho : o.op = .buildSlice 78 1 #[(0, x)]) (V M : List Int) (hV : V.length = 13) (hM : M.length = 13) (hx : a.eval x = .agg (cv V M)) (d : Option Tmp) (hd : o.dst = d)
    (hK : K (a.put d (.slice (some ⟨w.heap.size, 0, none⟩) 1 1)) (w.alloc (.cells (cv V M) 33))) : wpOp Tryd.prog ops Q i K a w := by
  subst hd
  refine wpOp_wanted hi hw ?_
  obtain ⟨ie, hie, hz, hs, _⟩ := infoC
  refine wp_buildSlice 78 33 1 _ ho (cv V M) ie (.agg zeroC) Tryd.underlying78 hie hz (by rw [hs]; decide) (by rw [hs]; decide) ?_ hK
  have hsz := cv_size V M hV hM
  simp only [List.map_toArray, List.map_cons, List.map_nil, hx, Instr.fill, hs, Nat.zero_mul, Value.cells, hsz]
  rw [if_neg (by simp)]
  congr 1
  exact fold_all _ _ (by rw [hsz]; simp)
theorem wpOp_append1 {ops : Array Oper} {Q : Exit → Act → World → Prop} {i : Nat} {o : Oper} {K : Act → World → Prop} {a : Act} {w : World} (hi : ops[i]? = some o) (hw : Region.wanted o (yielded ops a.tmps) = true) (s x : Operand) (ho : o.op = .call { callee := .builtin .append, args := #[s, x], argTypes := #[78, 78] })
    (base : Nat) (v : Value) (C : List (List Int × List Int)) (V M : List Int) (hV : V.length = 13) (hM : M.length = 13) (hs : a.eval s = v) (hown : w.ownsRow base 33 26 v C.length (ccells C)) (g cap : Nat) (hx : a.eval x = .slice (some ⟨g, 0, none⟩) 1 cap) (hg : w.heap[g]? = some (.cells (cv V M) 33 (0, 0)))
    (hn : C.length ≤ 1000000) (hbase : base ≤ w.heap.size) (d : Option Tmp) (hd : o.dst = d)
    (hK : ∀ v' w', w'.ownsRow base 33 26 v' (C ++ [(V, M)]).length (ccells (C ++ [(V, M)])) → w.grownBy w' v.ownBlock → K (a.put d v') w') : wpOp Tryd.prog ops Q i K a w := by
  subst hd
  refine wpOp_wanted hi hw ?_
  obtain ⟨i0, hi0, hz0, hz1, hz2⟩ := infoC
  have hsz := cv_size V M hV hM
  obtain ⟨v', w', hr, h2, h3, _, _⟩ := run_append_own_at (P := Tryd.prog) w base 78 o.type 33 i0 (.agg zeroC) 26 26 Tryd.underlying78 hi0 hz0 hz1 hz2 rfl (by decide) v _ _ hown ⟨g, 0, none⟩ 1 cap (cv V M).toList (by simp [hsz]) (fun j y hy => by
      have hadd : (⟨g, 0, none⟩ : Addr).add j = ⟨g, j, none⟩ := by unfold Addr.add; split <;> simp_all
      rw [hadd, cell_of_row w g j _ _ _ hg, ← hy]
      simp) (fun u hu => (Array.all_eq_true_iff_forall_mem.1 (cv_one V M)) u (by simpa using hu)) (by unfold maxLen; omega) (by omega) hbase
  unfold Oper.wp execOp
  simp only [ho, resolve, invoke, builtin, Sem.run_bind, Sem.run_pure, Result.andThen_ok, List.map_toArray, List.map_cons, List.map_nil, hs, hx, hr]
  refine hK v' w' ?_ h3
  rw [List.length_append, ccells_append, ccells_one]; exact h2

end Go.Proofs.YtnbklmmampdbfaaDoor
namespace Go.Proofs.YtnbklmmampdbfaaDoor
open Go Go.RowKit
set_option maxRecDepth 20000

/-- Have no two of these cubes a header together? -/
def Apart (C : List (List Int × List Int)) : Prop := ∀ (i k : Nat) (U N U' N' : List Int), i < k → C[i]? = some (U, N) → C[k]? = some (U', N') → meets U N U' N' = false
def apartL : List (List Int × List Int) → Bool
  | [] => true
  | c :: C => (C.all fun d => !(meets c.1 c.2 d.1 d.2)) && apartL C
theorem apartL_iff : ∀ {C : List (List Int × List Int)}, apartL C = true ↔ Apart C
  | [] => ⟨fun _ i k U N U' N' _ h1 => by simp at h1, fun _ => rfl⟩
  | c :: C => by
    rw [apartL, Bool.and_eq_true, List.all_eq_true, apartL_iff (C := C)]
    constructor
    · rintro ⟨h1, h2⟩ i k U N U' N' hik hi hk
      obtain ⟨k, rfl⟩ : ∃ k', k = k' + 1 := ⟨k - 1, by omega⟩
      rw [List.getElem?_cons_succ] at hk
      cases i with
      | zero =>
        obtain rfl : c = (U, N) := by simpa using hi
        have := h1 (U', N') (List.mem_of_getElem? hk)
        simpa using this
      | succ i =>
        rw [List.getElem?_cons_succ] at hi
        exact h2 i k U N U' N' (by omega) hi hk
    · intro h
      refine ⟨fun d hd => ?_, fun i k U N U' N' hik hi hk => h (i + 1) (k + 1) U N U' N' (by omega) (by simpa using hi) (by simpa using hk)⟩
      obtain ⟨k, hk, hd⟩ := List.getElem_of_mem hd
      have := h 0 (k + 1) c.1 c.2 d.1 d.2 (by omega) (by simp) (by rw [List.getElem?_cons_succ, List.getElem?_eq_getElem hk, hd])
      rw [this]; rfl
theorem apartL_yes {C : List (List Int × List Int)} (h : Apart C) : apartL C = true := apartL_iff.2 h
theorem apartL_no {C : List (List Int × List Int)} (h : ¬ Apart C) : apartL C = false := by
  cases e : apartL C with
  | false => rfl
  | true => exact absurd (apartL_iff.1 e) h

theorem meets_symm (V M V' M' : List Int) : meets V M V' M' = meets V' M' V M := by
  rw [Bool.eq_iff_iff, meets_iff, meets_iff]
  exact ⟨fun h i hi h1 h2 => (h i hi h2 h1).symm, fun h i hi h1 h2 => (h i hi h2 h1).symm⟩
theorem meetR_form (V M V' M' : List Int) : ∃ A B, A.length = 13 ∧ B.length = 13 ∧ meetR V M V' M' = .tuple #[.agg (cv A B), .bool (meets V M V' M')] := by
  cases h : meets V M V' M'
  · exact ⟨Z, Z, Z_byt.1, Z_byt.1, meetR_no _ _ _ _ h⟩
  · exact ⟨_, _, (meetV_byt _ _ _ _).1, (meetM_byt _ _).1, meetR_yes _ _ _ _ h⟩

end Go.Proofs.YtnbklmmampdbfaaDoor
namespace Go.Proofs.YtnbklmmampdbfaaDoor
open Go Go.RowKit
set_option maxRecDepth 20000

/-- A piece's cube has the headers whose port is one of its numbers. -/
theorem has_port (H : List Int) (hH : Byt H) (f : Int) (hf : f = 2 ∨ f = 3) (a b : Nat) (ha : a ≤ 65535) (hb : b ≤ 16) (hm : a % sz b = 0) : has (pxV f a b) (pxM f b) H = inP (a, b) (fld H f) := by
  have hs := size_23 f hf
  have h := has_field H hH f a b (by omega) (by omega) (by rw [hs]; exact Nat.lt_of_le_of_lt ha (by decide)) (by omega)
  rw [hs] at h
  rw [show has (pxV f a b) (pxM f b) H = _ from h]
  unfold inP
  rw [show 8 * 2 - b = 16 - b by omega]
  show decide (a / sz b = fld H f / sz b) = (decide (a ≤ fld H f) && decide (fld H f < a + sz b))
  have hp := sz_pos b
  generalize fld H f = g
  generalize sz b = s at hm hp
  rw [Bool.eq_iff_iff, decide_eq_true_eq, Bool.and_eq_true, decide_eq_true_eq, decide_eq_true_eq]
  have h1 := Nat.div_add_mod a s
  have h2 := Nat.div_add_mod g s
  have h3 := Nat.mod_lt g hp
  rw [hm, Nat.add_zero] at h1
  constructor
  · intro e
    rw [e] at h1
    omega
  · rintro ⟨h4, h5⟩
    have h6 : a / s ≤ g / s := Nat.div_le_div_right h4
    have h7 : g / s < a / s + 1 := by
      rw [Nat.div_lt_iff_lt_mul hp, Nat.add_mul, Nat.one_mul, Nat.mul_comm, h1]
      exact h5
    omega
theorem rng_mod {h n : Nat} {p : Nat × Nat} (hp : p ∈ rng h n) : p.1 % sz p.2 = 0 ∧ p.1 + sz p.2 ≤ h + 1 := by
  obtain ⟨_, h2, h3⟩ := rng_mem h n p hp
  rw [h3]
  exact (okP_iff _ _ _).1 (gr_is _ _ h2).2.1
theorem rng_apart (h : Nat) : ∀ n, ∀ (i k : Nat) (a b : Nat × Nat), i < k → (rng h n)[i]? = some a → (rng h n)[k]? = some b → a.1 + sz a.2 ≤ b.1 := by
  refine rng_induct h _ (fun n hn => ?_) (fun n hn ih => ?_)
  · rw [rng_nil hn]; intro i k a b _ ha; simp at ha
  · intro i k a b hik ha hb
    rw [rng_cons hn] at ha hb
    obtain ⟨k', rfl⟩ : ∃ k', k = k' + 1 := ⟨k - 1, by omega⟩
    rw [List.getElem?_cons_succ] at hb
    cases i with
    | zero =>
      obtain rfl : a = (n, gr n h) := by simpa using ha.symm
      exact (rng_mem _ _ _ (List.mem_of_getElem? hb)).1
    | succ i =>
      rw [List.getElem?_cons_succ] at ha
      exact ih i k' a b (by omega) ha hb

theorem hasL_ports (H : List Int) (hH : Byt H) (f l h : Int) (hf : f = 2 ∨ f = 3) (c : isR l h = true) : hasL (portC f (ran l h)) H = decide (l ≤ (fld H f : Int) ∧ (fld H f : Int) ≤ h) := by
  have hc := (isR_iff l h).1 c
  have hran : ran l h = rng h.toNat l.toNat := by rw [ran, if_pos c]
  rw [Bool.eq_iff_iff, decide_eq_true_eq]
  have hcn := cnt_rng h.toNat (fld H f) l.toNat
  unfold hasL portC
  rw [List.any_eq_true, hran]
  constructor
  · rintro ⟨x, hx, h1⟩
    rw [List.mem_map] at hx
    obtain ⟨p, hp, rfl⟩ := hx
    have hm := rng_mod hp
    have hmm := rng_mem _ _ _ hp
    rw [has_port H hH f hf p.1 p.2 (by omega) (rng_bits hp) hm.1] at h1
    unfold inP at h1
    rw [Bool.and_eq_true, decide_eq_true_eq, decide_eq_true_eq] at h1
    simp only at h1
    omega
  · intro h1
    rw [if_pos (by omega)] at hcn
    obtain ⟨p, hp⟩ := List.exists_mem_of_length_pos (by rw [hcn]; decide : 0 < ((rng h.toNat l.toNat).filter fun p => inP p (fld H f)).length)
    rw [List.mem_filter] at hp
    have hmm := rng_mem _ _ _ hp.1
    refine ⟨_, List.mem_map.2 ⟨p, hp.1, rfl⟩, ?_⟩
    rw [has_port H hH f hf p.1 p.2 (by omega) (rng_bits hp.1) (rng_mod hp.1).1]
    exact hp.2

theorem has_self (V M : List Int) : has V M V = true := (has_iff _ _ _).2 fun _ _ _ => rfl
theorem apart_ports (f l h : Int) (hf : f = 2 ∨ f = 3) (c : isR l h = true) : Apart (portC f (ran l h)) := by
  have hc := (isR_iff l h).1 c
  have hran : ran l h = rng h.toNat l.toNat := by rw [ran, if_pos c]
  rw [hran]
  intro i k U N U' N' hik h1 h2
  unfold portC at h1 h2
  rw [List.getElem?_map, Option.map_eq_some_iff] at h1 h2
  obtain ⟨p, hp, hp'⟩ := h1
  obtain ⟨q, hq, hq'⟩ := h2
  obtain ⟨rfl, rfl⟩ := Prod.mk.inj hp'
  obtain ⟨rfl, rfl⟩ := Prod.mk.inj hq'
  cases hm : meets (pxV f p.1 p.2) (pxM f p.2) (pxV f q.1 q.2) (pxM f q.2) with
  | false => rfl
  | true =>
    have hs := has_self (meetV (pxV f p.1 p.2) (pxM f p.2) (pxV f q.1 q.2) (pxM f q.2)) (meetM (pxM f p.2) (pxM f q.2))
    rw [has_meet _ _ _ _ _ hm, Bool.and_eq_true] at hs
    have mp := List.mem_of_getElem? hp
    have mq := List.mem_of_getElem? hq
    have gp := rng_mem _ _ _ mp
    have gq := rng_mem _ _ _ mq
    have ha := rng_apart _ _ i k p q hik hp hq
    rw [has_port _ (meetV_byt _ _ _ _) f hf p.1 p.2 (by omega) (rng_bits mp) (rng_mod mp).1, has_port _ (meetV_byt _ _ _ _) f hf q.1 q.2 (by omega) (rng_bits mq) (rng_mod mq).1] at hs
    unfold inP at hs
    simp only [Bool.and_eq_true, decide_eq_true_eq] at hs
    omega

end Go.Proofs.YtnbklmmampdbfaaDoor
namespace Go.Proofs.YtnbklmmampdbfaaDoor
open Go Go.RowKit
set_option maxRecDepth 20000

theorem has_prefix (H : List Int) (hH : Byt H) (f : Int) (hf : f = 0 ∨ f = 1) (v k : Nat) (hvb : v < 2 ^ 32) (hk : k ≤ 32) :
    has (pxV f v k) (pxM f k) H = decide ((fld H f ^^^ v) / 2 ^ (32 - k) = 0) := by
  have hs := size_01 f hf
  have := has_field H hH f v k (by omega) (by omega) (by rw [hs]; exact hvb) (by omega)
  rw [hs] at this
  rw [show has (pxV f v k) (pxM f k) H = _ from this, Bool.eq_iff_iff, decide_eq_true_eq, decide_eq_true_eq, xor_top]
  exact eq_comm

end Go.Proofs.YtnbklmmampdbfaaDoor
namespace Go.Proofs.YtnbklmmampdbfaaDoor
open Go Go.RowKit
set_option maxRecDepth 20000

/-! The table means the policy: mathematics alone. -/
theorem hasL_cross8 (A B : List CubeT) (H : List Int) : hasL (crossL A B) H = (hasL A H && hasL B H) := by
  unfold hasL
  rw [Bool.eq_iff_iff, Bool.and_eq_true, List.any_eq_true, List.any_eq_true, List.any_eq_true]
  constructor
  · rintro ⟨c, hc, h⟩
    unfold crossL at hc
    rw [List.mem_flatMap] at hc
    obtain ⟨a, ha, hd⟩ := hc
    unfold crossR at hd
    rw [List.mem_map] at hd
    obtain ⟨b, hb, rfl⟩ := hd
    rw [List.mem_filter] at hb
    rw [has_meet _ _ _ _ _ hb.2, Bool.and_eq_true] at h
    exact ⟨⟨a, ha, h.1⟩, ⟨b, hb.1, h.2⟩⟩
  · rintro ⟨⟨a, ha, h1⟩, ⟨b, hb, h2⟩⟩
    have hm := has_meets h1 h2
    refine ⟨(meetV a.1 a.2 b.1 b.2, meetM a.2 b.2), ?_, ?_⟩
    · unfold crossL
      rw [List.mem_flatMap]
      refine ⟨a, ha, ?_⟩
      unfold crossR
      rw [List.mem_map]
      exact ⟨b, List.mem_filter.2 ⟨hb, hm⟩, rfl⟩
    · rw [has_meet _ _ _ _ _ hm, h1, h2]; rfl
theorem hasL_all8 (H : List Int) : hasL [allC] H = true := by
  unfold hasL allC
  rw [List.any_cons, List.any_nil, Bool.or_false, has_iff]
  intro i hi hm
  rw [show bt Z i = false from mk_bt _ i hi] at hm
  cases hm
theorem hasL_fold (H : List Int) : ∀ (L : List (List CubeT)) (A : List CubeT), hasL (L.foldl crossL A) H = (hasL A H && L.all fun B => hasL B H)
  | [], A => by simp
  | B :: L, A => by rw [List.foldl_cons, hasL_fold H L, hasL_cross8, List.all_cons, Bool.and_assoc]
theorem hasL_meets8 (L : List (List CubeT)) (H : List Int) : hasL (meetsL L) H = L.all fun B => hasL B H := by
  unfold meetsL
  rw [hasL_fold, hasL_all8, Bool.true_and]
theorem fldN_eq (H : List Int) (hH : Byt H) (f : Int) : fldN H f = (fld H f : Int) := fld_eq H hH f
theorem hasL_pref8 (H : List Int) (hH : Byt H) (f : Int) (hf : f = 0 ∨ f = 1) (v n : Int) (h0 : 0 ≤ v) (h1 : v < 4294967296) : hasL (prefL f v n) H = beginsM (fldN H f) v n := by
  unfold hasL prefL
  rw [List.any_cons, List.any_nil, Bool.or_false]
  have hs := size_01 f hf
  have hk : clip8 n ≤ 32 := by unfold clip8; omega
  have := has_field H hH f v.toNat (clip8 n) (by omega) (by omega) (by rw [hs]; omega) (by omega)
  rw [hs] at this
  rw [show has (pxV f v.toNat (clip8 n)) (pxM f (clip8 n)) H = _ from this]
  unfold beginsM
  rw [show clB n = clip8 n from rfl, fldN_eq H hH, Bool.eq_iff_iff, decide_eq_true_eq, beq_iff_eq]
  obtain ⟨m, rfl⟩ : ∃ m : Nat, v = m := ⟨v.toNat, by omega⟩
  obtain ⟨k, hk2⟩ : ∃ k, k = 32 - clip8 n := ⟨_, rfl⟩
  rw [show 8 * 4 - clip8 n = k by omega]
  have e1 : ((fld H f : Nat) : Int) / 2 ^ k = ((fld H f / 2 ^ k : Nat) : Int) := by simp
  have e2 : ((m : Nat) : Int) / 2 ^ k = ((m / 2 ^ k : Nat) : Int) := by simp
  rw [e1, e2, show ((m : Int)).toNat = m from rfl]
  constructor
  · intro h; rw [h]
  · intro h; exact (Int.ofNat.inj h).symm
theorem hasL_prot8 (H : List Int) (hH : Byt H) (n : Int) : hasL (protL n) H = (n == -1 || n == fldN H 4) := by
  have hlt := fld_lt H hH 4
  rw [show 8 * sizeOfF 4 = 8 from rfl] at hlt
  unfold protL
  split
  next h => rw [hasL_all8, h]; rfl
  next h =>
    have e : (n == -1) = false := by rw [beq_eq_false_iff_ne]; exact h
    rw [e, Bool.false_or, fldN_eq H hH]
    split
    next h2 =>
      unfold hasL
      rw [List.any_cons, List.any_nil, Bool.or_false]
      show has (pxV 4 n.toNat 8) (pxM 4 8) H = _
      rw [has_proto H hH n.toNat (by omega), Bool.eq_iff_iff, decide_eq_true_eq, beq_iff_eq]
      omega
    next h2 =>
      unfold hasL
      rw [List.any_nil, eq_comm, beq_eq_false_iff_ne]
      omega
theorem hasL_port8 (H : List Int) (hH : Byt H) (f : Int) (hf : f = 2 ∨ f = 3) (l h : Int) (h0 : 0 ≤ l) (h1 : h ≤ 65535) : hasL (portP f l h) H = (decide (l ≤ fldN H f) && decide (fldN H f ≤ h)) := by
  unfold portP
  rw [show decide (f = 2 ∨ f = 3) = true from decide_eq_true hf, Bool.true_and, fldN_eq H hH]
  split
  next c => rw [hasL_ports H hH f l h hf c, Bool.decide_and]
  next c =>
    rw [isR_iff] at c
    unfold hasL
    rw [List.any_nil, Bool.eq_iff_iff, Bool.and_eq_true, decide_eq_true_eq, decide_eq_true_eq]
    constructor
    · intro h; cases h
    · intro h; omega
/-- Ports that can be. -/
def okPt (x : Ent) : Prop := x.dflt = false → 0 ≤ x.slow ∧ x.shigh ≤ 65535 ∧ 0 ≤ x.dlow ∧ x.dhigh ≤ 65535
theorem cubes_has (H : List Int) (hH : Byt H) (x : Ent) (h32 : ent32 x) (hx : okPt x) : hasL (cubesT x) H = applyT H x := by
  unfold cubesT applyT
  cases hd : x.dflt with
  | true => rw [if_pos rfl, hasL_all8]; rfl
  | false =>
    obtain ⟨p1, p2, p3, p4⟩ := hx hd
    rw [if_neg (by simp), hasL_meets8, Bool.false_or]
    unfold five8 applyR
    simp only [List.all_cons, List.all_nil, Bool.and_true]
    rw [hasL_pref8 H hH 0 (.inl rfl) _ _ h32.1.1 h32.1.2, hasL_pref8 H hH 1 (.inr rfl) _ _ h32.2.1 h32.2.2, hasL_prot8 H hH, hasL_port8 H hH 2 (.inl rfl) _ _ p1 p2, hasL_port8 H hH 3 (.inr rfl) _ _ p3 p4]
    cases beginsM (fldN H 0) x.src x.srcBits <;> cases beginsM (fldN H 1) x.dst x.dstBits <;> cases (decide (x.slow ≤ fldN H 2) && decide (fldN H 2 ≤ x.shigh)) <;> cases (decide (x.dlow ≤ fldN H 3) && decide (fldN H 3 ≤ x.dhigh)) <;> cases (x.proto == -1 || x.proto == fldN H 4) <;> rfl
theorem find_map8 {α β : Type} (g : α → β) (p : β → Bool) : ∀ l : List α, (l.map g).find? p = (l.find? fun x => p (g x)).map g
  | [] => rfl
  | x :: l => by
    rw [List.map_cons, List.find?_cons, List.find?_cons]
    cases p (g x) with
    | true => rfl
    | false => exact find_map8 g p l
theorem find_congr8 {α : Type} {p q : α → Bool} : ∀ {l : List α}, (∀ x ∈ l, p x = q x) → l.find? p = l.find? q
  | [], _ => rfl
  | x :: l, h => by
    rw [List.find?_cons, List.find?_cons, h x (by simp), find_congr8 fun y hy => h y (List.mem_cons_of_mem _ hy)]
theorem find_filter8 {α : Type} (p q : α → Bool) : ∀ l : List α, (l.filter p).find? q = l.find? fun x => p x && q x
  | [] => rfl
  | x :: l => by
    rw [List.filter_cons, List.find?_cons]
    cases hp : p x with
    | false => rw [if_neg (by simp), Bool.false_and]; exact find_filter8 p q l
    | true =>
      rw [if_pos rfl, List.find?_cons, Bool.true_and, find_filter8 p q l]
def coreR (r : RuleM) : CubeT × Int := (r.cube, r.action)
theorem core_renum (T : List RuleM) : (renum T).map coreR = T.map coreR := by
  unfold renum
  rw [List.map_map]
  rw [show (coreR ∘ fun q : RuleM × Nat => (⟨(q.2 : Int), q.1.cube, q.1.action⟩ : RuleM)) = coreR ∘ Prod.fst from rfl, ← List.map_map, List.zipIdx_map_fst]
theorem core_rules (P : List (CubeT × Int)) : (rulesOf P).map coreR = P := by
  unfold rulesOf
  rw [List.map_map]
  rw [show (coreR ∘ fun q : (CubeT × Int) × Nat => (⟨(q.2 : Int), q.1.1, q.1.2⟩ : RuleM)) = Prod.fst from rfl, List.zipIdx_map_fst]
def hasP (H : List Int) (q : CubeT × Int) : Bool := has q.1.1 q.1.2 H
theorem core_find {T T' : List RuleM} (h : T.map coreR = T'.map coreR) (H : List Int) : (T.find? (hasR H)).map coreR = (T'.find? (hasR H)).map coreR := by
  have e : ∀ L : List RuleM, (L.find? (hasR H)).map coreR = (L.map coreR).find? (hasP H) := fun L => (find_map8 coreR (hasP H) L).symm
  rw [e, e, h]
theorem look_action {T : List RuleM} {o : Option Int} {H : List Int} (h : (T.find? (hasR H)).map (fun r => r.action) = o) : (lookT T H).1.action = o.getD 0 ∧ (lookT T H).2 = o.isSome := by
  unfold lookT
  subst h
  cases T.find? (hasR H) with
  | none => exact ⟨rfl, rfl⟩
  | some r => exact ⟨rfl, rfl⟩
theorem has_within9 (V M V' M' H : List Int) (h : within V M V' M' = true) (h2 : has V M H = true) : has V' M' H = true := by
  rw [has_iff] at h2 ⊢
  rw [within_iff] at h
  intro i hi hm
  obtain ⟨h3, h4⟩ := h i hi hm
  rw [← h4]; exact h2 i hi h3
/-- The first rule that has a header: of the first row that applies. -/
theorem comp_look (R : List Ent) (H : List Int) (hH : Byt H) (h32 : ∀ x ∈ R, ent32 x) (hp : ∀ x ∈ R, okPt x) (h0 : (compT R).2 = 0) :
    ((compT R).1.find? (hasR H)).map (fun r => r.action) = (R.find? (applyT H)).map fun x => x.action := by
  have e1 : (compT R).1 = renum (trimT (rulesOf (pairsT R))) := by
    unfold compT at h0 ⊢
    split at h0
    · cases h0
    · split at h0
      · cases h0
      · rw [if_neg (by assumption), if_neg (by assumption)]
  have e2 := core_find (core_renum (trimT (rulesOf (pairsT R)))) H
  rw [trimT_go, trim_look withinR (hasR H) (fun a b h1 h2 => has_within9 _ _ _ _ _ h1 h2) _ [] (fun a ha => by simp at ha), ← trimT_go, ← e1] at e2
  have e3 : ((rulesOf (pairsT R)).find? (hasR H)).map coreR = (pairsT R).find? (hasP H) := by
    have := (find_map8 coreR (hasP H) (rulesOf (pairsT R))).symm
    rw [core_rules] at this
    exact this
  rw [e3] at e2
  have e4 : pairsT R = (R.flatMap fun x => (cubesT x).map fun c => (c, x)).map fun q => (q.1, q.2.action) := by
    unfold pairsT
    rw [List.map_flatMap]
    congr 1
    funext x
    unfold pq8
    rw [List.map_map]; rfl
  have e5 := look_expand cubesT (fun c : CubeT => has c.1 c.2 H) R
  rw [find_congr8 (p := fun x => (cubesT x).any fun c => has c.1 c.2 H) (q := applyT H) (fun x hx => cubes_has H hH x (h32 x hx) (hp x hx))] at e5
  rw [e4, find_map8] at e2
  have e6 := congrArg (Option.map fun q : CubeT × Int => q.2) e2
  rw [Option.map_map, Option.map_map] at e6
  rw [← e5, Option.map_map]
  exact e6

/-- The rows' first one that applies. -/
theorem rows_says {l R : List Ent} (h : RowsOf l R) (ap : Ent → Bool) : (saysT ap l).1 = ((R.find? fun x => x.dflt || ap x).map fun x => x.action).getD 0 ∧ (saysT ap l).2 = (R.find? fun x => x.dflt || ap x).isSome := by
  obtain ⟨S, hS, rfl⟩ := h
  have hin := bestGo_in ap l l 0 none (fun k => by rw [Nat.zero_add]) (fun j p hjp => by cases hjp)
  have hmax := bestGo_max ap l l 0 none (fun k => by rw [Nat.zero_add]) (fun k y hk => absurd hk (Nat.not_lt_zero _)) (fun j p hjp => by cases hjp)
  have hmem : ∀ x, x ∈ S ↔ x ∈ l ∧ x.dflt = false := fun x => by
    rw [hS.alike.mem, List.mem_filter, Bool.not_eq_true']
  rw [List.find?_append]
  cases hb : bestGo ap 0 none l with
  | some b =>
    obtain ⟨i, p⟩ := b
    obtain ⟨y, hy, hyp, hyd, hya⟩ := hin i p hb
    have e1 : saysT ap l = (y.action, true) := by
      unfold saysT whichT
      rw [hb]
      simp only [List.getD_eq_getElem?_getD, hy]
      rfl
    have hyS : y ∈ S := (hmem y).2 ⟨List.mem_of_getElem? hy, hyd⟩
    have e2 : S.find? (fun x => x.dflt || ap x) = some y := by
      cases hf : S.find? (fun x => x.dflt || ap x) with
      | none => exact absurd (List.find?_eq_none.1 hf y hyS) (by simp [hya])
      | some z =>
        obtain ⟨hz, A, B, hAB, hA⟩ := List.find?_eq_some_iff_append.1 hf
        have hzS : z ∈ S := by rw [hAB]; simp
        obtain ⟨hzl, hzd⟩ := (hmem z).1 hzS
        rw [hzd, Bool.false_or] at hz
        have hzp : z.prio = p := by
          obtain ⟨k, hk⟩ := List.mem_iff_getElem?.1 hzl
          obtain ⟨j', p', hj', hh⟩ := hmax k z (by rw [Nat.zero_add]; exact (List.getElem?_eq_some_iff.1 hk).1) hk hzd hz
          rw [hb] at hj'
          obtain ⟨rfl, rfl⟩ := Prod.mk.inj (Option.some.inj hj')
          have h1 : z.prio ≤ p := by omega
          have h2 : y.prio ≤ z.prio := by
            have hd := hS.desc
            rw [hAB] at hyS
            unfold Desc at hd
            rw [hAB, List.pairwise_append] at hd
            rcases List.mem_append.1 hyS with hq | hq
            · have := hA y hq; rw [hyd, hya] at this; simp at this
            · rcases List.mem_cons.1 hq with rfl | hq
              · exact Int.le_refl _
              · exact (List.pairwise_cons.1 hd.2.1).1 y hq
          omega
        have e3 : S.find? (fun x => (x.prio == p) && (x.dflt || ap x)) = some z := by
          rw [List.find?_eq_some_iff_append]
          refine ⟨by simp [hzp, hz], A, B, hAB, fun a ha => ?_⟩
          have := hA a ha
          cases hq : (a.dflt || ap a) with
          | true => rw [hq] at this; cases this
          | false => rw [Bool.and_false]; rfl
        have e4 := congrArg (List.find? fun x => x.dflt || ap x) (hS.alike p)
        rw [find_filter8, find_filter8, find_filter8] at e4
        have e5 : l.find? (fun a => !a.dflt && (a.prio == p && (a.dflt || ap a))) = some y := by
          rw [List.find?_eq_some_iff_getElem]
          have hi := (List.getElem?_eq_some_iff.1 hy).1
          have hyi := (List.getElem?_eq_some_iff.1 hy).2
          refine ⟨by simp [hyd, hya, hyp], i, hi, hyi, fun j hj => ?_⟩
          obtain ⟨a, ha⟩ : ∃ a, l[j]'(by omega) = a := ⟨_, rfl⟩
          rw [ha]
          have haj : l[j]? = some a := List.getElem?_eq_some_iff.2 ⟨by omega, ha⟩
          cases hq : (!a.dflt && (a.prio == p && (a.dflt || ap a))) with
          | false => rfl
          | true =>
            exfalso
            rw [Bool.and_eq_true, Bool.and_eq_true] at hq
            obtain ⟨q1, q2, q3⟩ := hq
            rw [Bool.not_eq_true'] at q1
            rw [q1, Bool.false_or] at q3
            obtain ⟨j', p', hj', hh⟩ := hmax j a (by omega) haj q1 q3
            rw [hb] at hj'
            obtain ⟨rfl, rfl⟩ := Prod.mk.inj (Option.some.inj hj')
            rw [beq_iff_eq] at q2
            omega
        exact (e3.symm.trans e4).trans e5
    rw [e1, e2]
    exact ⟨rfl, rfl⟩
  | none =>
    have hno : ∀ x ∈ S, (x.dflt || ap x) = false := fun x hx => by
      obtain ⟨hxl, hxd⟩ := (hmem x).1 hx
      obtain ⟨k, hk⟩ := List.mem_iff_getElem?.1 hxl
      cases ha : ap x with
      | false => rw [hxd]; rfl
      | true =>
        obtain ⟨j', p', hj', hh⟩ := hmax k x (by rw [Nat.zero_add]; exact (List.getElem?_eq_some_iff.1 hk).1) hk hxd ha
        rw [hb] at hj'
        cases hj'
    have e2 : S.find? (fun x => x.dflt || ap x) = none := List.find?_eq_none.2 fun x hx => by rw [hno x hx]; simp
    rw [e2, Option.none_or, find_filter8]
    have e3 : l.find? (fun x => x.dflt && (x.dflt || ap x)) = l.find? fun x => x.dflt := find_congr8 fun x _ => by cases x.dflt <;> simp
    rw [e3]
    unfold saysT whichT
    rw [hb]
    rcases firstD_first l 0 with ⟨k, x, h1, h2, h3, h4⟩ | ⟨h1, h2⟩
    · rw [h1, Nat.zero_add]
      have hk := List.getElem?_eq_some_iff.1 h2
      have hk1 : k < l.length := hk.1
      have e5 : l.find? (fun x => x.dflt) = some x := by
        rw [List.find?_eq_some_iff_getElem]
        refine ⟨h3, k, hk.1, hk.2, fun j hj => ?_⟩
        rw [h4 j _ hj (List.getElem?_eq_some_iff.2 ⟨by omega, rfl⟩)]; rfl
      rw [e5]
      simp only [List.getD_eq_getElem?_getD, h2]
      exact ⟨rfl, rfl⟩
    · rw [h1]
      have e5 : l.find? (fun x => x.dflt) = none := List.find?_eq_none.2 fun x hx => by
        obtain ⟨k, hk⟩ := List.mem_iff_getElem?.1 hx
        rw [h2 k x hk]; simp
      rw [e5]
      exact ⟨rfl, rfl⟩
/-- What the table's first rule says is what the list says. -/
theorem flat_means {l R : List Ent} (h : RowsOf l R) (H : List Int) (hH : Byt H) (h32 : ∀ x ∈ l, ent32 x) (hp : ∀ x ∈ l, okPt x) (h0 : (compT R).2 = 0) :
    (lookT (compT R).1 H).1.action = (saysT (applyT H) l).1 ∧ (lookT (compT R).1 H).2 = (saysT (applyT H) l).2 := by
  have e1 := comp_look R H hH (fun x hx => h32 x ((h.mem x).1 hx)) (fun x hx => hp x ((h.mem x).1 hx)) h0
  obtain ⟨e2, e3⟩ := look_action e1
  obtain ⟨e4, e5⟩ := rows_says h (applyT H)
  have e6 : (fun x : Ent => x.dflt || applyT H x) = applyT H := by
    funext x
    unfold applyT
    cases x.dflt <;> rfl
  rw [e6] at e4 e5
  rw [e2, e3, e4, e5, Option.isSome_map]
  exact ⟨rfl, rfl⟩
end Go.Proofs.YtnbklmmampdbfaaDoor
namespace Go.Proofs.YtnbklmmampdbfaaDoor
open Go Go.RowKit
set_option maxRecDepth 20000

set_option maxHeartbeats 4000000 in
theorem refBegins_any (a b n : Int) (ha : 0 ≤ a ∧ a < 4294967296) (hb : 0 ≤ b ∧ b < 4294967296) (w : World) :
    Calls Tryd.prog 58 #[.int .u32 a, .int .u32 b, .int .i64 n] w fun e w' => e = .returned (.bool (beginsM a b n)) ∧ Below w.heap.size w w' := by
  obtain ⟨K, hK⟩ : ∃ K, K = clB n := ⟨_, rfl⟩
  have hK32 : K ≤ 32 := by rw [hK]; unfold clB; omega
  have HB : Hid (beginsM a b n = (a / 2 ^ (32 - K) == b / 2 ^ (32 - K))) := by rw [hK]; exact rfl
  have HLT : Hid (∀ k : Nat, k < K ↔ ((k : Int) < n ∧ (k : Int) < 32)) := fun k => by rw [hK]; unfold clB; omega
  have HZ : Hid (a / 2 ^ 32 = b / 2 ^ 32) := begins_zero a b ha hb
  have HS : Hid (∀ k : Nat, k < 32 → a / 2 ^ (32 - k) = b / 2 ^ (32 - k) → ((a / 2 ^ (32 - (k + 1)) = b / 2 ^ (32 - (k + 1))) ↔ a / 2 ^ (31 - k) % 2 = b / 2 ^ (31 - k) % 2)) := fun k h1 h2 => begins_step a b k h1 h2
  have HM : Hid (∀ k : Nat, k ≤ K → ¬ a / 2 ^ (32 - k) = b / 2 ^ (32 - k) → ¬ a / 2 ^ (32 - K) = b / 2 ^ (32 - K)) := fun k h1 h2 => begins_more a b k K h1 hK32 h2
  have ha0 := ha.1
  have hb0 := hb.1
  have ha1 := ha.2
  have hb1 := hb.2
  clear hK ha hb
  go_enter Tryd.func58, Tryd.ntmps58
  go_wp2_with fail
  go_loopw [7] (fun i wr => ∃ k : Nat, k ≤ K ∧ i = .int .i64 (k : Int) ∧ Hid (a / 2 ^ (32 - k) = b / 2 ^ (32 - k)) ∧ Below w.heap.size w wr) (fun i _ => K - (intOf i).toNat)
  case atStart => exact ⟨0, Nat.zero_le _, rfl, HZ.out, Below.refl _ _⟩
  case round =>
    obtain ⟨k, hk, rfl, HI, hbw⟩ := hrel
    have HBW : Hid (Below w.heap.size w wr) := hbw
    clear hbw
    by_cases hlt : k < K
    · obtain ⟨h1, h2⟩ := (HLT.out k).1 hlt
      have HSS := HS.out k (by omega) HI.out
      have ta : (a / 2 ^ (31 - k)).tmod 2 = a / 2 ^ (31 - k) % 2 := Int.tmod_eq_emod_of_nonneg (Int.ediv_nonneg ha0 (Int.pow_nonneg (by decide)))
      have tb : (b / 2 ^ (31 - k)).tmod 2 = b / 2 ^ (31 - k) % 2 := Int.tmod_eq_emod_of_nonneg (Int.ediv_nonneg hb0 (Int.pow_nonneg (by decide)))
      rw [← ta, ← tb] at HSS
      clear ta tb
      by_cases hq : (a / 2 ^ (31 - k)).tmod 2 = (b / 2 ^ (31 - k)).tmod 2
      · have hq' : ((a / 2 ^ (31 - k)).tmod 2 != (b / 2 ^ (31 - k)).tmod 2) = false := by simp [hq]
        have HI2 : Hid (a / 2 ^ (32 - (k + 1)) = b / 2 ^ (32 - (k + 1))) := HSS.2 hq
        clear HSS hq
        go_wp2_with fail
        have ne1 := Later.ne wr
        refine wp_region_later (by kernel_rfl) (by kernel_rfl) ?_
        repeat go_big_quiet_step (rfl)
        refine wpQuiet_nil ?_
        rintro w' ⟨v, rfl⟩
        have B3 : Hid (Below w.heap.size w v.world) := HBW.out.trans (v.below.mono HBW.out.size)
        obtain ⟨W3, hW3⟩ : ∃ W3, W3 = v.world := ⟨_, rfl⟩
        rw [← hW3] at B3 ⊢
        clear hW3 ne1
        go_wp2_with fail
        go_roundw
        case rel => exact ⟨k + 1, by omega, by go_num, HI2, B3.out⟩
        case measure => simp [intOf]; omega
      · have hq' : ((a / 2 ^ (31 - k)).tmod 2 != (b / 2 ^ (31 - k)).tmod 2) = true := by simp [hq]
        have HF : Hid (beginsM a b n = false) := by
          show _ = _
          rw [HB.out, beq_eq_false_iff_ne]
          exact HM.out (k + 1) (by omega) fun h => hq (HSS.1 h)
        clear HSS hq
        go_wp2_with fail
        have ne1 := Later.ne wr
        refine wp_region_later (by kernel_rfl) (by kernel_rfl) ?_
        repeat go_big_quiet_step (rfl)
        refine wpQuiet_nil ?_
        rintro w' ⟨v, rfl⟩
        have B3 : Hid (Below w.heap.size w v.world) := HBW.out.trans (v.below.mono HBW.out.size)
        go_wp2_with fail
        go_ret
        exact ⟨by rw [HF.out]; rfl, B3.out⟩
    · obtain rfl : k = K := by omega
      have HT : Hid (beginsM a b n = true) := by
        show _ = _
        rw [HB.out, beq_iff_eq]
        exact HI.out
      have hno := fun h => hlt ((HLT.out k).2 h)
      clear hlt
      by_cases h1 : (k : Int) < n
      · have h2 : ¬ (k : Int) < 32 := fun h => hno ⟨h1, h⟩
        clear hno
        go_wp2_with fail
        go_ret
        exact ⟨by rw [HT.out]; rfl, HBW.out⟩
      · clear hno
        go_wp2_with fail
        go_ret
        exact ⟨by rw [HT.out]; rfl, HBW.out⟩

set_option maxHeartbeats 2000000 in
theorem number7_any (L : List Int) (hL : Byt L) (f : Int) (h0 : 0 ≤ f) (h1 : f < 5) (w : World) :
    Calls Tryd.prog 59 #[.agg (hv L), .int .i64 f] w fun e w' => e = .returned (.int .i64 (fldN L f)) ∧ Below w.heap.size w w' := by
  have hl := hL.1
  have hf := fldN_bd L hL f h0 h1
  have FC : Hid (∀ W, Calls Tryd.prog 79 #[.agg (hv L), .int .i64 f] W fun e w' => e = .returned (.tuple #[.int .u32 (fldN L f), .int .i64 0]) ∧ Below W.heap.size W w') := fun W => refField_ok L hL f W h0 h1
  obtain ⟨F, hF⟩ : ∃ F, F = fldN L f := ⟨_, rfl⟩
  rw [← hF] at hf FC ⊢
  have f0 := hf.1
  have f1 := hf.2
  clear hF hf
  have KN : Hid ((w.alloc (.cells (hv L) 23)).heap[w.heap.size]? = some (.cells (hv L) 23 (0, 0)) ∧ Below w.heap.size w (w.alloc (.cells (hv L) 23))) := ⟨heap_new _ _ _ rfl, (Below.refl _ _).alloc (Nat.le_refl _) _⟩
  go_enter Tryd.func59, Tryd.ntmps59
  go_wp2_with (refine wl_load26 rfl _ rfl w.heap.size rfl L KN.out.1 hl ?_)
  refine (FC.out _).mono ?_
  rintro e w1 ⟨rfl, hb1⟩
  go_wp2_with fail
  go_ret
  exact ⟨rfl, KN.out.2.trans (hb1.mono KN.out.2.size)⟩
end Go.Proofs.YtnbklmmampdbfaaDoor
namespace Go.Proofs.YtnbklmmampdbfaaDoor
open Go Go.RowKit
set_option maxRecDepth 20000

set_option maxHeartbeats 16000000 in
set_option maxRecDepth 100000 in
theorem rapplies_any (x : Ent) (hx : ent32 x) (L : List Int) (hL : Byt L) (w : World) :
    Calls Tryd.prog 35 #[.agg (entV x), .agg (hv L)] w fun e w' => e = .returned (.bool (applyT L x)) ∧ Below w.heap.size w w' := by
  have hl := hL.1
  obtain ⟨Wa, hWa⟩ : ∃ Wa, Wa = (w.alloc (.cells (entV x) 47)).alloc (.cells (hv L) 23) := ⟨_, rfl⟩
  have b1 : Wa.heap[w.heap.size]? = some (.cells (entV x) 47 (0, 0)) := by rw [hWa]; exact heap_past _ _ _ _ (heap_new _ _ _ rfl)
  have b2 : Wa.heap[w.heap.size + 1]? = some (.cells (hv L) 23 (0, 0)) := by rw [hWa]; exact heap_new _ _ _ (by simp)
  have HBA : Hid (Below w.heap.size w Wa) := by rw [hWa]; exact below2 _ _ _
  have d0 := (ent_f b1).1
  rw [hWa] at d0
  cases hd : x.dflt with
  | true =>
    rw [hd] at d0
    rw [show applyT L x = true by unfold applyT; rw [hd]; rfl]
    rw [hWa] at HBA
    clear b1 b2 hWa
    go_enter Tryd.func35, Tryd.ntmps35
    go_wp2_with fail
    go_ret
    exact ⟨rfl, HBA.out⟩
  | false =>
    rw [hd] at d0
    rw [show applyT L x = applyR L x by unfold applyT; rw [hd]; rfl]
    have FD0 : Hid (∀ W, Calls Tryd.prog 59 #[.agg (hv L), .int .i64 0] W fun e w' => e = .returned (.int .i64 (fldN L 0)) ∧ Below W.heap.size W w') := fun W => number7_any L hL 0 (by decide) (by decide) W
    have fb0 := fldN_bd L hL 0 (by decide) (by decide)
    have FD1 : Hid (∀ W, Calls Tryd.prog 59 #[.agg (hv L), .int .i64 1] W fun e w' => e = .returned (.int .i64 (fldN L 1)) ∧ Below W.heap.size W w') := fun W => number7_any L hL 1 (by decide) (by decide) W
    have fb1 := fldN_bd L hL 1 (by decide) (by decide)
    have FD2 : Hid (∀ W, Calls Tryd.prog 59 #[.agg (hv L), .int .i64 2] W fun e w' => e = .returned (.int .i64 (fldN L 2)) ∧ Below W.heap.size W w') := fun W => number7_any L hL 2 (by decide) (by decide) W
    have fb2 := fldN_bd L hL 2 (by decide) (by decide)
    have FD3 : Hid (∀ W, Calls Tryd.prog 59 #[.agg (hv L), .int .i64 3] W fun e w' => e = .returned (.int .i64 (fldN L 3)) ∧ Below W.heap.size W w') := fun W => number7_any L hL 3 (by decide) (by decide) W
    have fb3 := fldN_bd L hL 3 (by decide) (by decide)
    have FD4 : Hid (∀ W, Calls Tryd.prog 59 #[.agg (hv L), .int .i64 4] W fun e w' => e = .returned (.int .i64 (fldN L 4)) ∧ Below W.heap.size W w') := fun W => number7_any L hL 4 (by decide) (by decide) W
    have fb4 := fldN_bd L hL 4 (by decide) (by decide)
    have HR : Hid (applyR L x = (beginsM (fldN L 0) x.src x.srcBits && beginsM (fldN L 1) x.dst x.dstBits && (decide (x.slow ≤ fldN L 2) && decide (fldN L 2 ≤ x.shigh)) && (decide (x.dlow ≤ fldN L 3) && decide (fldN L 3 ≤ x.dhigh)) && (x.proto == -1 || x.proto == fldN L 4))) := rfl
    obtain ⟨F0, hF0⟩ : ∃ F, F = fldN L 0 := ⟨_, rfl⟩
    rw [← hF0] at FD0 fb0 HR
    clear hF0
    obtain ⟨F1, hF1⟩ : ∃ F, F = fldN L 1 := ⟨_, rfl⟩
    rw [← hF1] at FD1 fb1 HR
    clear hF1
    obtain ⟨F2, hF2⟩ : ∃ F, F = fldN L 2 := ⟨_, rfl⟩
    rw [← hF2] at FD2 fb2 HR
    clear hF2
    obtain ⟨F3, hF3⟩ : ∃ F, F = fldN L 3 := ⟨_, rfl⟩
    rw [← hF3] at FD3 fb3 HR
    clear hF3
    obtain ⟨F4, hF4⟩ : ∃ F, F = fldN L 4 := ⟨_, rfl⟩
    rw [← hF4] at FD4 fb4 HR
    clear hF4
    have BG1 : Hid (∀ W, Calls Tryd.prog 58 #[.int .u32 F0, .int .u32 x.src, .int .i64 x.srcBits] W fun e w' => e = .returned (.bool (beginsM F0 x.src x.srcBits)) ∧ Below W.heap.size W w') := refBegins_any _ _ _ fb0 hx.1
    have BG2 : Hid (∀ W, Calls Tryd.prog 58 #[.int .u32 F1, .int .u32 x.dst, .int .i64 x.dstBits] W fun e w' => e = .returned (.bool (beginsM F1 x.dst x.dstBits)) ∧ Below W.heap.size W w') := refBegins_any _ _ _ fb1 hx.2
    have p01 := fb0.1
    have p02 := fb0.2
    have p11 := fb1.1
    have p12 := fb1.2
    obtain ⟨c1, hc1⟩ : ∃ c, c = beginsM F0 x.src x.srcBits := ⟨_, rfl⟩
    obtain ⟨c2, hc2⟩ : ∃ c, c = beginsM F1 x.dst x.dstBits := ⟨_, rfl⟩
    rw [← hc1] at BG1 HR
    rw [← hc2] at BG2 HR
    clear hc1 hc2 fb0 fb1 fb2 fb3 fb4 hx hd
    have l2 : ∀ u : Later Wa, u.world.cell? ⟨w.heap.size, 2, none⟩ = some (.int .u32 x.src) := later_cell7 b1 rfl
    have l3 : ∀ u : Later Wa, u.world.cell? ⟨w.heap.size, 3, none⟩ = some (.int .i64 x.srcBits) := later_cell7 b1 rfl
    have l4 : ∀ u : Later Wa, u.world.cell? ⟨w.heap.size, 4, none⟩ = some (.int .u32 x.dst) := later_cell7 b1 rfl
    have l5 : ∀ u : Later Wa, u.world.cell? ⟨w.heap.size, 5, none⟩ = some (.int .i64 x.dstBits) := later_cell7 b1 rfl
    have ne1 := Later.ne Wa
    cases c1 with
    | false =>
      rw [hWa] at HBA
      go_enter Tryd.func35, Tryd.ntmps35
      go_wp2_with fail
      rw [← hWa]
      rw [← hWa] at HBA
      refine wp_region_later (by kernel_rfl) (by kernel_rfl) ?_
      refine qlH rfl _ rfl (w.heap.size + 1) rfl L b2 hl ?_
      simp only [Act.put, List.setIfInBounds_toArray, List.set_cons_succ, List.set_cons_zero]
      go_big_quiet_want; go_big_quiet_op
      refine ⟨_, fun u => Calls.later_of (FD0.out u.world), ?_⟩
      go_big_quiet_on
      go_big_quiet_step (rfl)
      go_big_quiet_step (rfl)
      go_big_quiet_step (rfl)
      go_big_quiet_step (rfl)
      go_big_quiet_step (rfl)
      go_big_quiet_want; go_big_quiet_op
      refine ⟨_, fun u => Calls.later_of (BG1.out u.world), ?_⟩
      go_big_quiet_on
      go_big_quiet_step (rfl)
      go_big_quiet_step (rfl)
      go_big_quiet_step (rfl)
      go_big_quiet_step (rfl)
      go_big_quiet_step (rfl)
      go_big_quiet_step (rfl)
      go_big_quiet_step (rfl)
      go_big_quiet_step (rfl)
      go_big_quiet_step (rfl)
      go_big_quiet_step (rfl)
      go_big_quiet_step (rfl)
      go_big_quiet_step (rfl)
      refine wpQuiet_nil ?_
      rintro w' ⟨v, rfl⟩
      go_wp2_with fail
      go_ret
      rw [HR.out]
      exact ⟨by simp, HBA.out.trans (v.below.mono HBA.out.size)⟩
    | true =>
      cases c2 with
      | false =>
        rw [hWa] at HBA
        go_enter Tryd.func35, Tryd.ntmps35
        go_wp2_with fail
        rw [← hWa]
        rw [← hWa] at HBA
        refine wp_region_later (by kernel_rfl) (by kernel_rfl) ?_
        refine qlH rfl _ rfl (w.heap.size + 1) rfl L b2 hl ?_
        simp only [Act.put, List.setIfInBounds_toArray, List.set_cons_succ, List.set_cons_zero]
        go_big_quiet_want; go_big_quiet_op
        refine ⟨_, fun u => Calls.later_of (FD0.out u.world), ?_⟩
        go_big_quiet_on
        go_big_quiet_step (rfl)
        go_big_quiet_step (rfl)
        go_big_quiet_step (rfl)
        go_big_quiet_step (rfl)
        go_big_quiet_step (rfl)
        go_big_quiet_want; go_big_quiet_op
        refine ⟨_, fun u => Calls.later_of (BG1.out u.world), ?_⟩
        go_big_quiet_on
        go_big_quiet_step (rfl)
        go_big_quiet_step (rfl)
        refine qlH rfl _ rfl (w.heap.size + 1) rfl L b2 hl ?_
        simp only [Act.put, List.setIfInBounds_toArray, List.set_cons_succ, List.set_cons_zero]
        go_big_quiet_want; go_big_quiet_op
        refine ⟨_, fun u => Calls.later_of (FD1.out u.world), ?_⟩
        go_big_quiet_on
        go_big_quiet_step (rfl)
        go_big_quiet_step (rfl)
        go_big_quiet_step (rfl)
        go_big_quiet_step (rfl)
        go_big_quiet_step (rfl)
        go_big_quiet_want; go_big_quiet_op
        refine ⟨_, fun u => Calls.later_of (BG2.out u.world), ?_⟩
        go_big_quiet_on
        go_big_quiet_step (rfl)
        go_big_quiet_step (rfl)
        refine wpQuiet_nil ?_
        rintro w' ⟨v, rfl⟩
        go_wp2_with fail
        go_ret
        rw [HR.out]
        exact ⟨by simp, HBA.out.trans (v.below.mono HBA.out.size)⟩
      | true =>
        rw [hWa] at HBA
        go_enter Tryd.func35, Tryd.ntmps35
        go_wp2_with fail
        rw [← hWa]
        rw [← hWa] at HBA
        refine wp_region_later (by kernel_rfl) (by kernel_rfl) ?_
        refine qlH rfl _ rfl (w.heap.size + 1) rfl L b2 hl ?_
        simp only [Act.put, List.setIfInBounds_toArray, List.set_cons_succ, List.set_cons_zero]
        go_big_quiet_want; go_big_quiet_op
        refine ⟨_, fun u => Calls.later_of (FD0.out u.world), ?_⟩
        go_big_quiet_on
        go_big_quiet_step (rfl)
        go_big_quiet_step (rfl)
        go_big_quiet_step (rfl)
        go_big_quiet_step (rfl)
        go_big_quiet_step (rfl)
        go_big_quiet_want; go_big_quiet_op
        refine ⟨_, fun u => Calls.later_of (BG1.out u.world), ?_⟩
        go_big_quiet_on
        go_big_quiet_step (rfl)
        go_big_quiet_step (rfl)
        refine qlH rfl _ rfl (w.heap.size + 1) rfl L b2 hl ?_
        simp only [Act.put, List.setIfInBounds_toArray, List.set_cons_succ, List.set_cons_zero]
        go_big_quiet_want; go_big_quiet_op
        refine ⟨_, fun u => Calls.later_of (FD1.out u.world), ?_⟩
        go_big_quiet_on
        go_big_quiet_step (rfl)
        go_big_quiet_step (rfl)
        go_big_quiet_step (rfl)
        go_big_quiet_step (rfl)
        go_big_quiet_step (rfl)
        go_big_quiet_want; go_big_quiet_op
        refine ⟨_, fun u => Calls.later_of (BG2.out u.world), ?_⟩
        go_big_quiet_on
        go_big_quiet_step (rfl)
        go_big_quiet_step (rfl)
        refine wpQuiet_nil ?_
        rintro w' ⟨v, rfl⟩
        have k1 := later_block b1 _ ⟨v, rfl⟩
        have k2 : Hid (v.world.heap[w.heap.size + 1]? = some (.cells (hv L) 23 (0, 0))) := later_block b2 _ ⟨v, rfl⟩
        have K1 : Hid (v.world.heap[w.heap.size]? = some (.cells (entV x) 47 (0, 0))) := k1
        have BV : Hid (Below w.heap.size w v.world) := HBA.out.trans (v.below.mono HBA.out.size)
        obtain ⟨W1, hW1⟩ : ∃ W1, W1 = v.world := ⟨_, rfl⟩
        rw [← hW1] at k2 K1 BV ⊢
        clear hW1 l2 l3 l4 l5 ne1 b1 b2 hWa HBA k1
        go_wp2_with (refine wl_load26 rfl _ rfl (w.heap.size + 1) rfl L k2.out hl ?_)
        refine (FD2.out _).mono ?_
        rintro e w2 ⟨rfl, hb2⟩
        have z2 : w.heap.size + 1 < W1.heap.size := (Array.getElem?_eq_some_iff.1 k2.out).1
        have k3 : Hid (w2.heap[w.heap.size + 1]? = some (.cells (hv L) 23 (0, 0))) := (hb2.block _ z2).trans k2.out
        have K3 : Hid (w2.heap[w.heap.size]? = some (.cells (entV x) 47 (0, 0))) := (hb2.block _ (by omega)).trans K1.out
        have BW2 : Hid (Below w.heap.size w w2) := BV.out.trans (hb2.mono BV.out.size)
        have z3 : w.heap.size + 1 < w2.heap.size := (Array.getElem?_eq_some_iff.1 k3.out).1
        clear hb2 z2
        go_wp2_with (refine wl_load26 rfl _ rfl (w.heap.size + 1) rfl L k3.out hl ?_)
        refine (FD3.out _).mono ?_
        rintro e w4 ⟨rfl, hb4⟩
        have b5 : w4.heap[w.heap.size + 1]? = some (.cells (hv L) 23 (0, 0)) := (hb4.block _ z3).trans k3.out
        have b4 : w4.heap[w.heap.size]? = some (.cells (entV x) 47 (0, 0)) := (hb4.block _ (by omega)).trans K3.out
        have BW4 : Hid (Below w.heap.size w w4) := BW2.out.trans (hb4.mono BW2.out.size)
        clear hb4 z3
        have l6 : ∀ u : Later w4, u.world.cell? ⟨w.heap.size, 6, none⟩ = some (.int .i64 x.slow) := later_cell7 b4 rfl
        have l7 : ∀ u : Later w4, u.world.cell? ⟨w.heap.size, 7, none⟩ = some (.int .i64 x.shigh) := later_cell7 b4 rfl
        have l8 : ∀ u : Later w4, u.world.cell? ⟨w.heap.size, 8, none⟩ = some (.int .i64 x.dlow) := later_cell7 b4 rfl
        have l9 : ∀ u : Later w4, u.world.cell? ⟨w.heap.size, 9, none⟩ = some (.int .i64 x.dhigh) := later_cell7 b4 rfl
        have l10 : ∀ u : Later w4, u.world.cell? ⟨w.heap.size, 10, none⟩ = some (.int .i64 x.proto) := later_cell7 b4 rfl
        have ne1 := Later.ne w4
        by_cases q1 : x.slow ≤ F2
        · have q1t : decide (x.slow ≤ F2) = true := decide_eq_true q1
          by_cases q2 : F2 ≤ x.shigh
          · have q2t : decide (F2 ≤ x.shigh) = true := decide_eq_true q2
            by_cases q3 : x.dlow ≤ F3
            · have q3t : decide (x.dlow ≤ F3) = true := decide_eq_true q3
              by_cases q4 : F3 ≤ x.dhigh
              · have q4t : decide (F3 ≤ x.dhigh) = true := decide_eq_true q4
                by_cases p1 : x.proto = -1
                · have p1' : (x.proto == -1) = true := by simp [p1]
                  have P1 : Hid (x.proto = -1) := p1
                  clear p1
                  go_wp2_with fail
                  refine wp_region_later (by kernel_rfl) (by kernel_rfl) ?_
                  go_big_quiet_step (rfl)
                  go_big_quiet_step (rfl)
                  go_big_quiet_step (rfl)
                  go_big_quiet_step (rfl)
                  go_big_quiet_step (rfl)
                  go_big_quiet_step (rfl)
                  go_big_quiet_step (rfl)
                  go_big_quiet_step (rfl)
                  go_big_quiet_step (rfl)
                  go_big_quiet_step (rfl)
                  go_big_quiet_step (rfl)
                  go_big_quiet_step (rfl)
                  go_big_quiet_step (rfl)
                  go_big_quiet_step (rfl)
                  go_big_quiet_step (rfl)
                  go_big_quiet_step (rfl)
                  go_big_quiet_step (rfl)
                  go_big_quiet_step (rfl)
                  go_big_quiet_step (rfl)
                  go_big_quiet_step (rfl)
                  go_big_quiet_step (rfl)
                  go_big_quiet_step (rfl)
                  go_big_quiet_step (rfl)
                  go_big_quiet_step (rfl)
                  go_big_quiet_step (rfl)
                  go_big_quiet_step (rfl)
                  go_big_quiet_step (rfl)
                  go_big_quiet_step (rfl)
                  go_big_quiet_step (rfl)
                  go_big_quiet_step (rfl)
                  go_big_quiet_step (rfl)
                  go_big_quiet_step (rfl)
                  go_big_quiet_step (rfl)
                  go_big_quiet_step (rfl)
                  go_big_quiet_step (rfl)
                  refine wpQuiet_nil ?_
                  rintro w' ⟨v, rfl⟩
                  go_wp2_with fail
                  go_ret
                  rw [HR.out]
                  refine ⟨?_, BW4.out.trans (v.below.mono BW4.out.size)⟩
                  rw [q1t, q2t, q3t, q4t, P1.out]
                  rfl
                · have p1' : (x.proto == -1) = false := by simp [p1]
                  have P1 : Hid ((x.proto == -1) = false) := p1'
                  clear p1
                  go_wp2_with fail
                  refine wp_region_later (by kernel_rfl) (by kernel_rfl) ?_
                  go_big_quiet_step (rfl)
                  go_big_quiet_step (rfl)
                  go_big_quiet_step (rfl)
                  go_big_quiet_step (rfl)
                  go_big_quiet_step (rfl)
                  go_big_quiet_step (rfl)
                  go_big_quiet_step (rfl)
                  go_big_quiet_step (rfl)
                  go_big_quiet_step (rfl)
                  go_big_quiet_step (rfl)
                  go_big_quiet_step (rfl)
                  go_big_quiet_step (rfl)
                  go_big_quiet_step (rfl)
                  go_big_quiet_step (rfl)
                  go_big_quiet_step (rfl)
                  go_big_quiet_step (rfl)
                  go_big_quiet_step (rfl)
                  go_big_quiet_step (rfl)
                  go_big_quiet_step (rfl)
                  go_big_quiet_step (rfl)
                  go_big_quiet_step (rfl)
                  go_big_quiet_step (rfl)
                  go_big_quiet_step (rfl)
                  go_big_quiet_step (rfl)
                  go_big_quiet_step (rfl)
                  go_big_quiet_step (rfl)
                  go_big_quiet_step (rfl)
                  go_big_quiet_step (rfl)
                  go_big_quiet_step (rfl)
                  refine qlH rfl _ rfl (w.heap.size + 1) rfl L b5 hl ?_
                  simp only [Act.put, List.setIfInBounds_toArray, List.set_cons_succ, List.set_cons_zero]
                  go_big_quiet_want; go_big_quiet_op
                  refine ⟨_, fun u => Calls.later_of (FD4.out u.world), ?_⟩
                  go_big_quiet_on
                  go_big_quiet_step (rfl)
                  go_big_quiet_step (rfl)
                  go_big_quiet_step (rfl)
                  go_big_quiet_step (rfl)
                  refine wpQuiet_nil ?_
                  rintro w' ⟨v, rfl⟩
                  go_wp2_with fail
                  go_ret
                  rw [HR.out]
                  refine ⟨?_, BW4.out.trans (v.below.mono BW4.out.size)⟩
                  rw [q1t, q2t, q3t, q4t, P1.out]
                  simp
              · have q4f : decide (F3 ≤ x.dhigh) = false := decide_eq_false q4
                go_wp2_with fail
                refine wp_region_later (by kernel_rfl) (by kernel_rfl) ?_
                go_big_quiet_step (rfl)
                go_big_quiet_step (rfl)
                go_big_quiet_step (rfl)
                go_big_quiet_step (rfl)
                go_big_quiet_step (rfl)
                go_big_quiet_step (rfl)
                go_big_quiet_step (rfl)
                go_big_quiet_step (rfl)
                go_big_quiet_step (rfl)
                go_big_quiet_step (rfl)
                go_big_quiet_step (rfl)
                go_big_quiet_step (rfl)
                go_big_quiet_step (rfl)
                go_big_quiet_step (rfl)
                go_big_quiet_step (rfl)
                go_big_quiet_step (rfl)
                go_big_quiet_step (rfl)
                go_big_quiet_step (rfl)
                go_big_quiet_step (rfl)
                go_big_quiet_step (rfl)
                go_big_quiet_step (rfl)
                go_big_quiet_step (rfl)
                go_big_quiet_step (rfl)
                go_big_quiet_step (rfl)
                go_big_quiet_step (rfl)
                go_big_quiet_step (rfl)
                go_big_quiet_step (rfl)
                go_big_quiet_step (rfl)
                go_big_quiet_step (rfl)
                go_big_quiet_step (rfl)
                go_big_quiet_step (rfl)
                go_big_quiet_step (rfl)
                go_big_quiet_step (rfl)
                go_big_quiet_step (rfl)
                go_big_quiet_step (rfl)
                refine wpQuiet_nil ?_
                rintro w' ⟨v, rfl⟩
                go_wp2_with fail
                go_ret
                rw [HR.out]
                refine ⟨?_, BW4.out.trans (v.below.mono BW4.out.size)⟩
                rw [q4f]
                simp
            · have q3f : decide (x.dlow ≤ F3) = false := decide_eq_false q3
              go_wp2_with fail
              refine wp_region_later (by kernel_rfl) (by kernel_rfl) ?_
              go_big_quiet_step (rfl)
              go_big_quiet_step (rfl)
              go_big_quiet_step (rfl)
              go_big_quiet_step (rfl)
              go_big_quiet_step (rfl)
              go_big_quiet_step (rfl)
              go_big_quiet_step (rfl)
              go_big_quiet_step (rfl)
              go_big_quiet_step (rfl)
              go_big_quiet_step (rfl)
              go_big_quiet_step (rfl)
              go_big_quiet_step (rfl)
              go_big_quiet_step (rfl)
              go_big_quiet_step (rfl)
              go_big_quiet_step (rfl)
              go_big_quiet_step (rfl)
              go_big_quiet_step (rfl)
              go_big_quiet_step (rfl)
              go_big_quiet_step (rfl)
              go_big_quiet_step (rfl)
              go_big_quiet_step (rfl)
              go_big_quiet_step (rfl)
              go_big_quiet_step (rfl)
              go_big_quiet_step (rfl)
              go_big_quiet_step (rfl)
              go_big_quiet_step (rfl)
              go_big_quiet_step (rfl)
              go_big_quiet_step (rfl)
              go_big_quiet_step (rfl)
              go_big_quiet_step (rfl)
              go_big_quiet_step (rfl)
              go_big_quiet_step (rfl)
              go_big_quiet_step (rfl)
              go_big_quiet_step (rfl)
              go_big_quiet_step (rfl)
              refine wpQuiet_nil ?_
              rintro w' ⟨v, rfl⟩
              go_wp2_with fail
              go_ret
              rw [HR.out]
              refine ⟨?_, BW4.out.trans (v.below.mono BW4.out.size)⟩
              rw [q3f]
              simp
          · have q2f : decide (F2 ≤ x.shigh) = false := decide_eq_false q2
            go_wp2_with fail
            refine wp_region_later (by kernel_rfl) (by kernel_rfl) ?_
            go_big_quiet_step (rfl)
            go_big_quiet_step (rfl)
            go_big_quiet_step (rfl)
            go_big_quiet_step (rfl)
            go_big_quiet_step (rfl)
            go_big_quiet_step (rfl)
            go_big_quiet_step (rfl)
            go_big_quiet_step (rfl)
            go_big_quiet_step (rfl)
            go_big_quiet_step (rfl)
            go_big_quiet_step (rfl)
            go_big_quiet_step (rfl)
            go_big_quiet_step (rfl)
            go_big_quiet_step (rfl)
            go_big_quiet_step (rfl)
            go_big_quiet_step (rfl)
            go_big_quiet_step (rfl)
            go_big_quiet_step (rfl)
            go_big_quiet_step (rfl)
            go_big_quiet_step (rfl)
            go_big_quiet_step (rfl)
            go_big_quiet_step (rfl)
            go_big_quiet_step (rfl)
            go_big_quiet_step (rfl)
            go_big_quiet_step (rfl)
            go_big_quiet_step (rfl)
            go_big_quiet_step (rfl)
            go_big_quiet_step (rfl)
            go_big_quiet_step (rfl)
            go_big_quiet_step (rfl)
            go_big_quiet_step (rfl)
            go_big_quiet_step (rfl)
            go_big_quiet_step (rfl)
            go_big_quiet_step (rfl)
            go_big_quiet_step (rfl)
            refine wpQuiet_nil ?_
            rintro w' ⟨v, rfl⟩
            go_wp2_with fail
            go_ret
            rw [HR.out]
            refine ⟨?_, BW4.out.trans (v.below.mono BW4.out.size)⟩
            rw [q2f]
            simp
        · have q1f : decide (x.slow ≤ F2) = false := decide_eq_false q1
          go_wp2_with fail
          refine wp_region_later (by kernel_rfl) (by kernel_rfl) ?_
          go_big_quiet_step (rfl)
          go_big_quiet_step (rfl)
          go_big_quiet_step (rfl)
          go_big_quiet_step (rfl)
          go_big_quiet_step (rfl)
          go_big_quiet_step (rfl)
          go_big_quiet_step (rfl)
          go_big_quiet_step (rfl)
          go_big_quiet_step (rfl)
          go_big_quiet_step (rfl)
          go_big_quiet_step (rfl)
          go_big_quiet_step (rfl)
          go_big_quiet_step (rfl)
          go_big_quiet_step (rfl)
          go_big_quiet_step (rfl)
          go_big_quiet_step (rfl)
          go_big_quiet_step (rfl)
          go_big_quiet_step (rfl)
          go_big_quiet_step (rfl)
          go_big_quiet_step (rfl)
          go_big_quiet_step (rfl)
          go_big_quiet_step (rfl)
          go_big_quiet_step (rfl)
          go_big_quiet_step (rfl)
          go_big_quiet_step (rfl)
          go_big_quiet_step (rfl)
          go_big_quiet_step (rfl)
          go_big_quiet_step (rfl)
          go_big_quiet_step (rfl)
          go_big_quiet_step (rfl)
          go_big_quiet_step (rfl)
          go_big_quiet_step (rfl)
          go_big_quiet_step (rfl)
          go_big_quiet_step (rfl)
          go_big_quiet_step (rfl)
          refine wpQuiet_nil ?_
          rintro w' ⟨v, rfl⟩
          go_wp2_with fail
          go_ret
          rw [HR.out]
          refine ⟨?_, BW4.out.trans (v.below.mono BW4.out.size)⟩
          rw [q1f]
          simp

end Go.Proofs.YtnbklmmampdbfaaDoor
namespace Go.Proofs.YtnbklmmampdbfaaDoor
open Go Go.RowKit
set_option maxRecDepth 20000

theorem restK_stays {l : List Ent} {i : Nat} : ∀ {k : Nat}, restK l k = some i → ∀ m, k ≤ m → m ≤ l.length → restK l m = some i := by
  intro k h m
  induction m with
  | zero => intro h1 _; obtain rfl : k = 0 := by omega
            exact h
  | succ m ih =>
    intro h1 h2
    by_cases hk : k = m + 1
    · rw [← hk]; exact h
    · rw [restK_next (List.getElem?_eq_getElem (show m < l.length by omega)), ih (by omega) (by omega)]
      rfl
theorem slice_ents (o : Option Addr) (n cap k : Nat) (hk : k ≤ cap) (ho : o = none → cap = 0) (hs : ∀ a, o = some a → a.spot = none) (W : World) : (Instr.sliceAt 25 (.slice o n cap) none (some (.int .i64 (k : Int))) none).run Tryd.prog W = .ok (.slice o k cap) W := by
  cases o with
  | none =>
    have := ho rfl
    subst this
    obtain rfl : k = 0 := by omega
    simp [go_sem, Tryd.underlying25]
  | some a =>
    simp [go_sem, Tryd.underlying25]
    omega
theorem which_says (ap : Ent → Bool) (l : List Ent) : (saysT ap l).2 = decide (0 ≤ whichI ap l) := by
  unfold saysT whichI
  cases whichT ap l with
  | none => rfl
  | some i =>
    have : (0 : Int) ≤ atW (some i) := by show (0 : Int) ≤ (i : Int); omega
    rw [decide_eq_true this]

set_option maxHeartbeats 16000000 in
set_option maxRecDepth 100000 in
theorem rwhich_any (l : List Ent) (vl : Value) (w : World) (hl : EntsAt w vl l) (h32 : ∀ x ∈ l, ent32 x) (L : List Int) (hL : Byt L) :
    Calls Tryd.prog 21 #[vl, .agg (hv L)] w fun e w' => e = .returned (.int .i64 (whichI (applyT L) l)) ∧ Below w.heap.size w w' := by
  have hLl := hL.1
  have RA : Hid (∀ (x : Ent) W, ent32 x → Calls Tryd.prog 35 #[.agg (entV x), .agg (hv L)] W fun e w' => e = .returned (.bool (applyT L x)) ∧ Below W.heap.size W w') := fun x W h1 => rapplies_any x h1 L hL W
  obtain ⟨o, cap, rfl, hc1, hc2⟩ := GSl.slice hl
  obtain ⟨n, hn⟩ : ∃ n, n = l.length := ⟨_, rfl⟩
  have HN : Hid (n = l.length) := hn
  rw [← hn] at hl hc1 ⊢
  have HL : Hid (EntsAt w (.slice o n cap) l) := hl
  have H32 : Hid (∀ x ∈ l, ent32 x) := h32
  unfold maxLen at hc2
  have HW : Hid (whichI (applyT L) l = if bestI (bestK (applyT L) l n) < 0 then atW (restK l n) else bestI (bestK (applyT L) l n)) := by rw [HN.out]; exact whichI_eq _ _
  obtain ⟨ap, hap⟩ : ∃ ap, ap = applyT L := ⟨_, rfl⟩
  rw [← hap] at HW RA ⊢
  have KN : Hid ((w.alloc (.cells (hv L) 23)).heap[w.heap.size]? = some (.cells (hv L) 23 (0, 0)) ∧ Below w.heap.size w (w.alloc (.cells (hv L) 23))) := ⟨heap_new _ _ _ rfl, (Below.refl _ _).alloc (Nat.le_refl _) _⟩
  clear hl hn h32 hap
  go_enter Tryd.func21, Tryd.ntmps21
  go_wp2_with fail
  go_loopw [5, 6] (fun ru i wr => ∃ k : Nat, k ≤ n ∧ i = .int .i64 (k : Int) ∧ ru = .int .i64 (bestI (bestK ap l k)) ∧ wr.heap[w.heap.size]? = some (.cells (hv L) 23 (0, 0)) ∧ Below w.heap.size w wr) (fun _ i _ => n - (intOf i).toNat)
  case atStart => exact ⟨0, Nat.zero_le _, rfl, rfl, KN.out.1, KN.out.2⟩
  case round =>
    clear KN
    obtain ⟨k, hk, rfl, rfl, R1, hb⟩ := hrel
    have HR1 : Hid (wr.heap[w.heap.size]? = some (.cells (hv L) 23 (0, 0))) := R1
    have HB : Hid (Below w.heap.size w wr) := hb
    clear hb
    by_cases hlt : k < n
    · have hlt' : (k : Int) < (n : Int) := by omega
      obtain ⟨g, off, cur, ty, fr, x, rfl, K1, hc, hxk⟩ := (GSl.below HL.out HB.out).at k hlt
      have H1 : Hid (∀ j, j < 12 → cur[off + k * 12 + j]? = (entV x)[j]?) := hc
      have HX : Hid (ent32 x) := H32.out x (List.mem_of_getElem? hxk)
      have BX : Hid (bestK ap l (k + 1) = stepB ap (bestK ap l k) k x) := bestK_next ap hxk
      have l0 : ∀ u : Later wr, u.world.cell? ⟨g, off + k * 12, none⟩ = some (.bool x.dflt) := later_cell7 K1 (hc 0 (by decide))
      have l1 : ∀ u : Later wr, u.world.cell? ⟨g, off + k * 12 + 1, none⟩ = some (.int .i64 x.prio) := later_cell7 K1 (hc 1 (by decide))
      have HLK : Hid (∀ j p, bestK ap l k = some (j, p) → ∃ y, l[j]? = some y ∧ y.prio = p ∧ j < k) := fun j p h => by
        obtain ⟨y, h1, h2, _, _, h5⟩ := bestK_in ap h
        exact ⟨y, h1, h2, h5⟩
      have ne1 := Later.ne wr
      clear hc hxk
      cases hd : x.dflt with
      | true =>
        rw [hd] at l0
        have HST : Hid (bestK ap l (k + 1) = bestK ap l k) := by show _ = _; rw [BX.out, step_no (by rw [hd]; rfl)]
        obtain ⟨be, hbe⟩ : ∃ be, be = bestI (bestK ap l k) := ⟨_, rfl⟩
        have HBE : Hid (be = bestI (bestK ap l (k + 1))) := by rw [HST.out]; exact hbe
        rw [← hbe]
        clear hbe hd
        go_wp2_with fail
        refine wp_region_later (by kernel_rfl) (by kernel_rfl) ?_
        go_big_quiet_step (rfl)
        go_big_quiet_step (rfl)
        go_big_quiet_step (rfl)
        go_big_quiet_step (rfl)
        go_big_quiet_step (rfl)
        go_big_quiet_step (rfl)
        go_big_quiet_step (rfl)
        go_big_quiet_step (rfl)
        go_big_quiet_step (rfl)
        go_big_quiet_step (rfl)
        go_big_quiet_step (rfl)
        go_big_quiet_step (rfl)
        go_big_quiet_step (rfl)
        go_big_quiet_step (rfl)
        go_big_quiet_step (rfl)
        go_big_quiet_step (rfl)
        go_big_quiet_step (rfl)
        go_big_quiet_step (rfl)
        go_big_quiet_step (rfl)
        go_big_quiet_step (rfl)
        go_big_quiet_step (rfl)
        go_big_quiet_step (rfl)
        go_big_quiet_step (rfl)
        go_big_quiet_step (rfl)
        go_big_quiet_step (rfl)
        go_big_quiet_step (rfl)
        go_big_quiet_step (rfl)
        go_big_quiet_step (rfl)
        go_big_quiet_step (rfl)
        go_big_quiet_step (rfl)
        go_big_quiet_step (rfl)
        refine wpQuiet_nil ?_
        rintro w' ⟨v, rfl⟩
        have R3 : Hid (v.world.heap[w.heap.size]? = some (.cells (hv L) 23 (0, 0))) := later_block R1 _ ⟨v, rfl⟩
        have B3 : Hid (Below w.heap.size w v.world) := HB.out.trans (v.below.mono HB.out.size)
        obtain ⟨W3, hW3⟩ : ∃ W3, W3 = v.world := ⟨_, rfl⟩
        rw [← hW3] at R3 B3 ⊢
        clear hW3 ne1
        clear l0 l1
        go_wp2_with fail
        go_roundw
        case rel => exact ⟨k + 1, by omega, by go_num, by rw [HBE.out], R3.out, B3.out⟩
        case measure => simp [intOf]; omega
      | false =>
        rw [hd] at l0
        have HDF : Hid (x.dflt = false) := hd
        clear hd
        cases ha : ap x with
        | false =>
          have HST : Hid (bestK ap l (k + 1) = bestK ap l k) := by show _ = _; rw [BX.out, step_no (by rw [ha]; simp)]
          obtain ⟨be, hbe⟩ : ∃ be, be = bestI (bestK ap l k) := ⟨_, rfl⟩
          have HBE : Hid (be = bestI (bestK ap l (k + 1))) := by rw [HST.out]; exact hbe
          rw [← hbe]
          have RX : Hid (∀ W, Calls Tryd.prog 35 #[.agg (entV x), .agg (hv L)] W fun e w' => e = .returned (.bool false) ∧ Below W.heap.size W w') := fun W => by have := RA.out x W HX.out; rwa [ha] at this
          clear hbe ha
          go_wp2_with fail
          refine wp_region_later (by kernel_rfl) (by kernel_rfl) ?_
          go_big_quiet_step (rfl)
          go_big_quiet_step (rfl)
          go_big_quiet_step (rfl)
          go_big_quiet_step (rfl)
          go_big_quiet_step (rfl)
          go_big_quiet_step (rfl)
          go_big_quiet_step (rfl)
          go_big_quiet_step (rfl)
          go_big_quiet_step (rfl)
          go_big_quiet_step (rfl)
          refine qlE (E := EntE) EntOk rfl _ rfl g (off + k * 12) rfl cur ty fr (entV x) rfl (later_block K1) H1.out ?_
          simp only [Act.put, List.setIfInBounds_toArray, List.set_cons_succ, List.set_cons_zero]
          refine qlH rfl _ rfl w.heap.size rfl L R1 hLl ?_
          simp only [Act.put, List.setIfInBounds_toArray, List.set_cons_succ, List.set_cons_zero]
          go_big_quiet_want; go_big_quiet_op
          refine ⟨_, fun u => Calls.later_of (RX.out u.world), ?_⟩
          go_big_quiet_on
          go_big_quiet_step (rfl)
          go_big_quiet_step (rfl)
          go_big_quiet_step (rfl)
          go_big_quiet_step (rfl)
          go_big_quiet_step (rfl)
          go_big_quiet_step (rfl)
          go_big_quiet_step (rfl)
          go_big_quiet_step (rfl)
          go_big_quiet_step (rfl)
          go_big_quiet_step (rfl)
          go_big_quiet_step (rfl)
          go_big_quiet_step (rfl)
          go_big_quiet_step (rfl)
          go_big_quiet_step (rfl)
          go_big_quiet_step (rfl)
          go_big_quiet_step (rfl)
          go_big_quiet_step (rfl)
          go_big_quiet_step (rfl)
          refine wpQuiet_nil ?_
          rintro w' ⟨v, rfl⟩
          have R3 : Hid (v.world.heap[w.heap.size]? = some (.cells (hv L) 23 (0, 0))) := later_block R1 _ ⟨v, rfl⟩
          have B3 : Hid (Below w.heap.size w v.world) := HB.out.trans (v.below.mono HB.out.size)
          obtain ⟨W3, hW3⟩ : ∃ W3, W3 = v.world := ⟨_, rfl⟩
          rw [← hW3] at R3 B3 ⊢
          clear hW3 ne1
          clear l0 l1
          go_wp2_with fail
          go_roundw
          case rel => exact ⟨k + 1, by omega, by go_num, by rw [HBE.out], R3.out, B3.out⟩
          case measure => simp [intOf]; omega
        | true =>
          have RX : Hid (∀ W, Calls Tryd.prog 35 #[.agg (entV x), .agg (hv L)] W fun e w' => e = .returned (.bool true) ∧ Below W.heap.size W w') := fun W => by have := RA.out x W HX.out; rwa [ha] at this
          have HAP : Hid (ap x = true) := ha
          clear ha
          cases hbe : bestK ap l k with
          | none =>
            have HST : Hid (bestK ap l (k + 1) = some (k, x.prio)) := by
              show _ = _
              rw [BX.out, step_yes (by rw [HDF.out, HAP.out, hbe]; rfl)]
            clear hbe
            rw [show bestI none = -1 from rfl]
            go_wp2_with fail
            refine wp_region_later (by kernel_rfl) (by kernel_rfl) ?_
            go_big_quiet_step (rfl)
            go_big_quiet_step (rfl)
            go_big_quiet_step (rfl)
            go_big_quiet_step (rfl)
            go_big_quiet_step (rfl)
            go_big_quiet_step (rfl)
            go_big_quiet_step (rfl)
            go_big_quiet_step (rfl)
            go_big_quiet_step (rfl)
            go_big_quiet_step (rfl)
            refine qlE (E := EntE) EntOk rfl _ rfl g (off + k * 12) rfl cur ty fr (entV x) rfl (later_block K1) H1.out ?_
            simp only [Act.put, List.setIfInBounds_toArray, List.set_cons_succ, List.set_cons_zero]
            refine qlH rfl _ rfl w.heap.size rfl L R1 hLl ?_
            simp only [Act.put, List.setIfInBounds_toArray, List.set_cons_succ, List.set_cons_zero]
            go_big_quiet_want; go_big_quiet_op
            refine ⟨_, fun u => Calls.later_of (RX.out u.world), ?_⟩
            go_big_quiet_on
            go_big_quiet_step (rfl)
            go_big_quiet_step (rfl)
            go_big_quiet_step (rfl)
            go_big_quiet_step (rfl)
            go_big_quiet_step (rfl)
            go_big_quiet_step (rfl)
            go_big_quiet_step (rfl)
            go_big_quiet_step (rfl)
            go_big_quiet_step (rfl)
            go_big_quiet_step (rfl)
            go_big_quiet_step (rfl)
            go_big_quiet_step (rfl)
            go_big_quiet_step (rfl)
            go_big_quiet_step (rfl)
            go_big_quiet_step (rfl)
            go_big_quiet_step (rfl)
            go_big_quiet_step (rfl)
            go_big_quiet_step (rfl)
            refine wpQuiet_nil ?_
            rintro w' ⟨v, rfl⟩
            have R3 : Hid (v.world.heap[w.heap.size]? = some (.cells (hv L) 23 (0, 0))) := later_block R1 _ ⟨v, rfl⟩
            have B3 : Hid (Below w.heap.size w v.world) := HB.out.trans (v.below.mono HB.out.size)
            obtain ⟨W3, hW3⟩ : ∃ W3, W3 = v.world := ⟨_, rfl⟩
            rw [← hW3] at R3 B3 ⊢
            clear hW3 ne1
            clear l0 l1
            go_wp2_with fail
            go_roundw
            case rel => exact ⟨k + 1, by omega, by go_num, by rw [HST.out]; rfl, R3.out, B3.out⟩
            case measure => simp [intOf]; omega
          | some bb =>
            obtain ⟨j, p⟩ := bb
            obtain ⟨y, hy, rfl, hjk⟩ := HLK.out j p hbe
            obtain ⟨g', off', cur', ty', fr', y', e0, hg', hc', hyj⟩ := (GSl.below HL.out HB.out).at j (by omega)
            simp only [Option.some.injEq, Addr.mk.injEq, and_true] at e0
            obtain ⟨rfl, rfl⟩ := e0
            obtain rfl : y = y' := Option.some.inj (hy.symm.trans hyj)
            have lg : ∀ u : Later wr, u.world.cell? ⟨g, off + j * 12 + 1, none⟩ = some (.int .i64 y.prio) := later_cell7 hg' (ent_prio hc')
            rw [show bestI (some (j, y.prio)) = (j : Int) from rfl]
            have hj0 : decide ((j : Int) < 0) = false := by simp
            have hj1 : (j : Int) < (n : Int) := by omega
            have hjn : j < n := by omega
            by_cases hgt : y.prio < x.prio
            · have hgt' : decide (x.prio > y.prio) = true := by simp; omega
              have HST : Hid (bestK ap l (k + 1) = some (k, x.prio)) := by
                show _ = _
                rw [BX.out, step_yes (by rw [HDF.out, HAP.out, hbe]; simp [beats, hgt])]
              clear hbe hy hyj hg' hc' hgt
              go_wp2_with fail
              refine wp_region_later (by kernel_rfl) (by kernel_rfl) ?_
              go_big_quiet_step (rfl)
              go_big_quiet_step (rfl)
              go_big_quiet_step (rfl)
              go_big_quiet_step (rfl)
              go_big_quiet_step (rfl)
              go_big_quiet_step (rfl)
              go_big_quiet_step (rfl)
              go_big_quiet_step (rfl)
              go_big_quiet_step (rfl)
              go_big_quiet_step (rfl)
              refine qlE (E := EntE) EntOk rfl _ rfl g (off + k * 12) rfl cur ty fr (entV x) rfl (later_block K1) H1.out ?_
              simp only [Act.put, List.setIfInBounds_toArray, List.set_cons_succ, List.set_cons_zero]
              refine qlH rfl _ rfl w.heap.size rfl L R1 hLl ?_
              simp only [Act.put, List.setIfInBounds_toArray, List.set_cons_succ, List.set_cons_zero]
              go_big_quiet_want; go_big_quiet_op
              refine ⟨_, fun u => Calls.later_of (RX.out u.world), ?_⟩
              go_big_quiet_on
              go_big_quiet_step (rfl)
              go_big_quiet_step (rfl)
              go_big_quiet_step (rfl)
              go_big_quiet_step (rfl)
              go_big_quiet_step (rfl)
              go_big_quiet_step (rfl)
              go_big_quiet_step (rfl)
              go_big_quiet_step (rfl)
              go_big_quiet_step (rfl)
              go_big_quiet_step (rfl)
              go_big_quiet_step (rfl)
              go_big_quiet_step (rfl)
              go_big_quiet_step (rfl)
              go_big_quiet_step (rfl)
              go_big_quiet_step (rfl)
              go_big_quiet_step (rfl)
              go_big_quiet_step (rfl)
              go_big_quiet_step (rfl)
              refine wpQuiet_nil ?_
              rintro w' ⟨v, rfl⟩
              have R3 : Hid (v.world.heap[w.heap.size]? = some (.cells (hv L) 23 (0, 0))) := later_block R1 _ ⟨v, rfl⟩
              have B3 : Hid (Below w.heap.size w v.world) := HB.out.trans (v.below.mono HB.out.size)
              obtain ⟨W3, hW3⟩ : ∃ W3, W3 = v.world := ⟨_, rfl⟩
              rw [← hW3] at R3 B3 ⊢
              clear hW3 ne1
              clear l0 l1 lg
              go_wp2_with fail
              go_roundw
              case rel => exact ⟨k + 1, by omega, by go_num, by rw [HST.out]; rfl, R3.out, B3.out⟩
              case measure => simp [intOf]; omega
            · have hgt' : decide (x.prio > y.prio) = false := by simp; omega
              have HST : Hid (bestK ap l (k + 1) = some (j, y.prio)) := by
                show _ = _
                rw [BX.out, step_no (by rw [HDF.out, HAP.out, hbe]; simp [beats, hgt]), hbe]
              clear hbe hy hyj hg' hc' hgt
              go_wp2_with fail
              refine wp_region_later (by kernel_rfl) (by kernel_rfl) ?_
              go_big_quiet_step (rfl)
              go_big_quiet_step (rfl)
              go_big_quiet_step (rfl)
              go_big_quiet_step (rfl)
              go_big_quiet_step (rfl)
              go_big_quiet_step (rfl)
              go_big_quiet_step (rfl)
              go_big_quiet_step (rfl)
              go_big_quiet_step (rfl)
              go_big_quiet_step (rfl)
              refine qlE (E := EntE) EntOk rfl _ rfl g (off + k * 12) rfl cur ty fr (entV x) rfl (later_block K1) H1.out ?_
              simp only [Act.put, List.setIfInBounds_toArray, List.set_cons_succ, List.set_cons_zero]
              refine qlH rfl _ rfl w.heap.size rfl L R1 hLl ?_
              simp only [Act.put, List.setIfInBounds_toArray, List.set_cons_succ, List.set_cons_zero]
              go_big_quiet_want; go_big_quiet_op
              refine ⟨_, fun u => Calls.later_of (RX.out u.world), ?_⟩
              go_big_quiet_on
              go_big_quiet_step (rfl)
              go_big_quiet_step (rfl)
              go_big_quiet_step (rfl)
              go_big_quiet_step (rfl)
              go_big_quiet_step (rfl)
              go_big_quiet_step (rfl)
              go_big_quiet_step (rfl)
              go_big_quiet_step (rfl)
              go_big_quiet_step (rfl)
              go_big_quiet_step (rfl)
              go_big_quiet_step (rfl)
              go_big_quiet_step (rfl)
              go_big_quiet_step (rfl)
              go_big_quiet_step (rfl)
              go_big_quiet_step (rfl)
              go_big_quiet_step (rfl)
              go_big_quiet_step (rfl)
              go_big_quiet_step (rfl)
              refine wpQuiet_nil ?_
              rintro w' ⟨v, rfl⟩
              have R3 : Hid (v.world.heap[w.heap.size]? = some (.cells (hv L) 23 (0, 0))) := later_block R1 _ ⟨v, rfl⟩
              have B3 : Hid (Below w.heap.size w v.world) := HB.out.trans (v.below.mono HB.out.size)
              obtain ⟨W3, hW3⟩ : ∃ W3, W3 = v.world := ⟨_, rfl⟩
              rw [← hW3] at R3 B3 ⊢
              clear hW3 ne1
              clear l0 l1 lg
              go_wp2_with fail
              go_roundw
              case rel => exact ⟨k + 1, by omega, by go_num, by rw [HST.out]; rfl, R3.out, B3.out⟩
              case measure => simp [intOf]; omega
    · have hlt' : ¬ (k : Int) < (n : Int) := by omega
      obtain rfl : k = n := by omega
      clear hlt R1
      cases hbe : bestK ap l k with
      | some bb =>
        obtain ⟨j, p⟩ := bb
        have HW2 : Hid (whichI ap l = (j : Int)) := by
          show _ = _
          rw [HW.out, hbe, if_neg (by show ¬ ((j : Int) < 0); omega)]
          rfl
        rw [show bestI (some (j, p)) = (j : Int) from rfl]
        have hj0 : ¬ (j : Int) < 0 := by omega
        clear hbe
        go_wp2_with fail
        go_loopw [5, 7] (fun be i wq => ∃ m : Nat, be = .int .i64 (j : Int) ∧ i = .int .i64 (m : Int) ∧ m = 0 ∧ Below w.heap.size w wq) (fun _ _ _ => 0)
        case atStart => exact ⟨0, rfl, rfl, rfl, HB.out⟩
        case round =>
          obtain ⟨m, rfl, rfl, rfl, hbq⟩ := hrel
          have HBQ : Hid (Below w.heap.size w wr) := hbq
          clear hbq
          by_cases hk0 : (0 : Int) < (k : Int)
          · go_wp2_with fail
            go_ret
            exact ⟨by rw [HW2.out]; rfl, HBQ.out⟩
          · go_wp2_with fail
            go_ret
            exact ⟨by rw [HW2.out]; rfl, HBQ.out⟩
      | none =>
        have HW2 : Hid (whichI ap l = atW (restK l k)) := by
          show _ = _
          rw [HW.out, hbe, if_pos (by decide)]
        rw [show bestI none = -1 from rfl]
        clear hbe
        go_wp2_with fail
        go_loopw [5, 7] (fun be i wq => ∃ m : Nat, m ≤ k ∧ i = .int .i64 (m : Int) ∧ be = .int .i64 (atW (restK l m)) ∧ Below w.heap.size w wq) (fun _ i _ => k - (intOf i).toNat)
        case atStart => exact ⟨0, Nat.zero_le _, rfl, rfl, HB.out⟩
        case round =>
          obtain ⟨m, hm, rfl, rfl, hbq⟩ := hrel
          have HBQ : Hid (Below w.heap.size w wr) := hbq
          clear hbq
          cases hre : restK l m with
          | some j =>
            have HW3 : Hid (whichI ap l = (j : Int)) := by
              show _ = _
              rw [HW2.out, restK_stays hre k hm (by rw [← HN.out]; omega)]
              rfl
            rw [show atW (some j) = (j : Int) from rfl]
            have hj0 : ¬ (j : Int) < 0 := by omega
            clear hre
            by_cases hmk : (m : Int) < (k : Int)
            · go_wp2_with fail
              go_ret
              exact ⟨by rw [HW3.out]; rfl, HBQ.out⟩
            · go_wp2_with fail
              go_ret
              exact ⟨by rw [HW3.out]; rfl, HBQ.out⟩
          | none =>
            rw [show atW none = -1 from rfl]
            by_cases hmk : m < k
            · have hmk' : (m : Int) < (k : Int) := by omega
              obtain ⟨g, off, cur, ty, fr, x, rfl, hg, hc, hxk⟩ := (GSl.below HL.out HBQ.out).at m hmk
              have c0 : wr.cell? ⟨g, off + m * 12, none⟩ = some (.bool x.dflt) := by rw [cell_of_row _ _ _ _ _ _ hg]; exact hc 0 (by decide)
              have RX : Hid (restK l (m + 1) = if x.dflt then some m else none) := by
                show _ = _
                rw [restK_next hxk, hre]
                rfl
              clear hg hc hxk hre
              cases hd : x.dflt with
              | true =>
                rw [hd] at c0 RX
                go_wp2_with fail
                go_roundw
                case rel => exact ⟨m + 1, by omega, by go_num, by rw [RX.out]; rfl, HBQ.out⟩
                case measure => simp [intOf]; omega
              | false =>
                rw [hd] at c0 RX
                go_wp2_with fail
                go_roundw
                case rel => exact ⟨m + 1, by omega, by go_num, by rw [RX.out]; rfl, HBQ.out⟩
                case measure => simp [intOf]; omega
            · obtain rfl : m = k := by omega
              have hmk' : ¬ (m : Int) < (m : Int) := by omega
              have HW3 : Hid (whichI ap l = -1) := by show _ = _; rw [HW2.out, hre]; rfl
              clear hre hmk
              go_wp2_with fail
              go_ret
              exact ⟨by rw [HW3.out]; rfl, HBQ.out⟩

set_option maxHeartbeats 1000000 in
theorem rsays_any (l : List Ent) (vl : Value) (w : World) (hl : EntsAt w vl l) (h32 : ∀ x ∈ l, ent32 x) (L : List Int) (hL : Byt L) :
    Calls Tryd.prog 11 #[vl, .agg (hv L)] w fun e w' => e = .returned (.tuple #[.int .i64 (saysT (applyT L) l).1, .bool (saysT (applyT L) l).2]) ∧ Below w.heap.size w w' := by
  have hLl := hL.1
  have WC : Hid (∀ W, Below w.heap.size w W → Calls Tryd.prog 21 #[vl, .agg (hv L)] W fun e w' => e = .returned (.int .i64 (whichI (applyT L) l)) ∧ Below W.heap.size W w') := fun W hb => rwhich_any l vl W (GSl.below hl hb) h32 L hL
  obtain ⟨o, cap, rfl, hc1, hc2⟩ := GSl.slice hl
  obtain ⟨n, hn⟩ : ∃ n, n = l.length := ⟨_, rfl⟩
  rw [← hn] at hl hc1 WC ⊢
  have HL : Hid (EntsAt w (.slice o n cap) l) := hl
  unfold maxLen at hc2
  have KN : Hid ((w.alloc (.cells (hv L) 23)).heap[w.heap.size]? = some (.cells (hv L) 23 (0, 0)) ∧ Below w.heap.size w (w.alloc (.cells (hv L) 23))) := ⟨heap_new _ _ _ rfl, (Below.refl _ _).alloc (Nat.le_refl _) _⟩
  cases hw : whichT (applyT L) l with
  | none =>
    have e1 : whichI (applyT L) l = -1 := by unfold whichI; rw [hw]; rfl
    have e2 : saysT (applyT L) l = (0, false) := by unfold saysT; rw [hw]
    rw [e2]
    rw [e1] at WC
    clear hl h32 hw e1 e2 hn
    go_enter Tryd.func11, Tryd.ntmps11
    go_wp2_with (refine wl_load26 rfl _ rfl w.heap.size rfl L KN.out.1 hLl ?_)
    refine (WC.out _ KN.out.2).mono ?_
    rintro e w1 ⟨rfl, hb1⟩
    have B1 : Hid (Below w.heap.size w w1) := KN.out.2.trans (hb1.mono KN.out.2.size)
    clear hb1
    go_wp2_with fail
    go_ret2
    exact ⟨rfl, B1.out⟩
  | some i =>
    obtain ⟨x, hx⟩ := whichT_in hw
    have hi : i < n := by rw [hn]; exact (List.getElem?_eq_some_iff.1 hx).1
    have e1 : whichI (applyT L) l = (i : Int) := by unfold whichI; rw [hw]; rfl
    have e2 : saysT (applyT L) l = (x.action, true) := by unfold saysT; rw [hw]; simp only [List.getD_eq_getElem?_getD, hx]; rfl
    rw [e2]
    rw [e1] at WC
    obtain ⟨g, off, cur, ty, fr, x', rfl, hg, hc, hxi⟩ := hl.at i hi
    obtain rfl : x = x' := Option.some.inj (hx.symm.trans hxi)
    have HG : Hid (w.heap[g]? = some (.cells cur ty fr)) := hg
    have HC : Hid (cur[off + i * 12 + 11]? = some (.int .i64 x.action)) := ent_act hc
    have hi0 : ¬ (i : Int) < 0 := by omega
    have hi1 : (i : Int) < (n : Int) := by omega
    clear hl h32 hw e1 e2 hx hxi hg hc hn
    go_enter Tryd.func11, Tryd.ntmps11
    go_wp2_with (refine wl_load26 rfl _ rfl w.heap.size rfl L KN.out.1 hLl ?_)
    refine (WC.out _ KN.out.2).mono ?_
    rintro e w1 ⟨rfl, hb1⟩
    have B1 : Hid (Below w.heap.size w w1) := KN.out.2.trans (hb1.mono KN.out.2.size)
    have q : w1.cell? ⟨g, off + i * 12 + 11, none⟩ = some (.int .i64 x.action) := by rw [cell_of_row _ _ _ _ _ _ ((B1.out.block g (Array.getElem?_eq_some_iff.1 HG.out).1).trans HG.out)]; exact HC.out
    clear hb1
    go_wp2_with fail
    go_ret2
    exact ⟨rfl, B1.out⟩


end Go.Proofs.YtnbklmmampdbfaaDoor
namespace Go.Proofs.YtnbklmmampdbfaaDoor
open Go Go.RowKit
set_option maxRecDepth 20000

theorem check_code (size : Int) : ∀ (l : List Raw) (i : Nat) (had : Bool) (e : Nat) (p : Int), checkGo size i had l = .error (e, p) → e ≠ 0
  | [], i, had, e, p, h => by
    rw [check_nil] at h
    split at h
    · cases h
    · simp only [Except.error.injEq, Prod.mk.injEq] at h; omega
  | r :: l, i, had, e, p, h => by
    by_cases hz : (rowF i had r).1 = 0
    · rw [(check_good size i had r l hz).1] at h
      cases hx : checkGo size (i + 1) (had || r.dflt) l with
      | ok m => rw [hx] at h; cases h
      | error y =>
        obtain ⟨e', p'⟩ := y
        rw [hx] at h
        simp only [Except.map, Except.error.injEq, Prod.mk.injEq] at h
        have := check_code size l _ _ e' p' hx
        omega
    · obtain ⟨e', h1, h2⟩ := check_bad size i had r l hz
      rw [h1] at h
      simp only [Except.error.injEq, Prod.mk.injEq] at h
      omega
theorem outC_cases (x : ResI (List Ent)) (hc : ∀ e p, x = .error (e, p) → e ≠ 0) : ((outC x).2.1 = 0 ∧ x = .ok (outC x).1 ∧ (outC x).2.2 = 0) ∨ ((outC x).2.1 ≠ 0 ∧ (outC x).1 = []) := by
  cases x with
  | ok m => exact .inl ⟨rfl, rfl, rfl⟩
  | error y =>
    obtain ⟨e, p⟩ := y
    refine .inr ⟨?_, rfl⟩
    have := hc e p rfl
    show (e : Int) ≠ 0
    omega
theorem readP_cases (S : List UInt8) : ((readP S).2.1 = 0 ∧ readT S = .ok (readP S).1 ∧ (readP S).2.2 = 0) ∨ ((readP S).2.1 ≠ 0 ∧ (readP S).1 = []) := by
  refine outC_cases (readT S) fun e p h => ?_
  by_cases hE : (parseP S).2.1 = 0
  · have := parseP_zero7 hE
    unfold readT at h
    rw [this] at h
    exact check_code _ _ _ _ _ _ h
  · have h1 := readP_bad hE
    unfold readP at h1
    rw [h] at h1
    have h2 : (e : Int) = ((parseP S).2.1 : Int) := congrArg (fun x => x.2.1) h1
    omega
theorem okE_32 {x : Ent} (h : okE x) : ent32 x := ⟨⟨h.src.1, h.src.2.1⟩, ⟨h.dst.1, h.dst.2.1⟩⟩
theorem ents32_of (S : List UInt8) : ∀ x ∈ (readP S).1, ent32 x := fun x hx => by
  rcases readP_cases S with ⟨_, h, _⟩ | ⟨_, h⟩
  · exact okE_32 ((read_in h).1 x hx)
  · rw [h] at hx; simp at hx
/-- What is said of a header. -/
theorem says_whole (S : List UInt8) (ap : Ent → Bool) : (saysT ap (readP S).1).2 = ((readP S).2.1 == 0) ∧ 0 ≤ (saysT ap (readP S).1).1 ∧ (saysT ap (readP S).1).1 ≤ 99 := by
  rcases readP_cases S with ⟨h0, h, _⟩ | ⟨h0, h⟩
  · obtain ⟨h1, h2, _⟩ := read_in h
    have hex : ∃ x ∈ (readP S).1, x.dflt = true := by
      have : 0 < ((readP S).1.filter fun x => x.dflt).length := by omega
      obtain ⟨x, hx⟩ := List.exists_mem_of_length_pos this
      rw [List.mem_filter] at hx
      exact ⟨x, hx.1, hx.2⟩
    obtain ⟨i, x, hw, hx⟩ := which_some ap (readP S).1 hex
    have e2 : saysT ap (readP S).1 = (x.action, true) := by unfold saysT; rw [hw]; simp only [List.getD_eq_getElem?_getD, hx]; rfl
    have ha := (h1 x (List.mem_of_getElem? hx)).act
    rw [e2, h0]
    exact ⟨rfl, ha.1, ha.2⟩
  · rw [h]
    have : saysT ap [] = (0, false) := rfl
    rw [this]
    refine ⟨?_, by decide, by decide⟩
    have : ((readP S).2.1 == 0) = false := by simpa using h0
    rw [this]

end Go.Proofs.YtnbklmmampdbfaaDoor
namespace Go.Proofs.YtnbklmmampdbfaaDoor
open Go Go.RowKit
set_option maxRecDepth 20000

theorem read_few8 {S : List UInt8} {l : List Ent} (h : readT S = .ok l) : l.length ≤ 64 := by
  unfold readT at h
  cases hp : parseT S with
  | error x => rw [hp] at h; cases h
  | ok R =>
    rw [hp] at h
    rcases check_lines _ 0 R 0 false l h with ⟨_, _, h3, h4⟩ | ⟨_, h5, _⟩
    · omega
    · cases h5
theorem comp_cases (R : List Ent) : compT R = ([], 16) ∨ (compT R).2 = 0 := by
  unfold compT
  split
  · exact .inl rfl
  · split
    · exact .inl rfl
    · exact .inr rfl
theorem okE_pt {x : Ent} (h : okE x) : okPt x := fun _ => ⟨h.sp.1, h.sp.2.2, h.dp.1, h.dp.2.2⟩

set_option maxHeartbeats 8000000 in
set_option maxRecDepth 100000 in
theorem lawFMeans_any (s : ByteArray) (hs : s.size ≤ maxLen) (H : List Int) (hH : Byt H) (w : World) (hP : Places w) :
    Calls Tryd.prog 3 #[.string s, .agg (hv H)] w fun e w' => e = .returned (.bool true) ∧ Below w.heap.size w w' := by
  have hHl := hH.1
  have AW : Hid (∀ W, Below w.heap.size w W → Calls Tryd.prog 7 #[] W fun e w' => e = .returned (.bool true) ∧ Below W.heap.size W w') := fun W hb => awake8_any W (hP.later hP.pos hb)
  have RD : Hid (∀ W, Calls Tryd.prog 8 #[.string s] W fun e w' => ∃ v, e = .returned (.tuple #[v, .int .i64 (readP s.data.toList).2.1, .int .i64 (readP s.data.toList).2.2]) ∧ EntsOwn W.heap.size w' (readP s.data.toList).1 v ∧ Below W.heap.size W w') := fun W => read_any s hs W
  have hcase := readP_cases s.data.toList
  have hsay := (says_whole s.data.toList (applyT H)).1
  obtain ⟨⟨l, e0, a0⟩, hX⟩ : ∃ X, X = readP s.data.toList := ⟨_, rfl⟩
  rw [← hX] at RD hcase hsay
  simp only at RD hcase hsay
  have K0 : Hid ((w.alloc (.cells (hv H) 23)).heap[w.heap.size]? = some (.cells (hv H) 23 (0, 0))) := heap_new _ _ _ rfl
  have B0 : Hid (Below w.heap.size w (w.alloc (.cells (hv H) 23))) := (Below.refl _ _).alloc (Nat.le_refl _) _
  unfold maxLen at hs
  rcases hcase with ⟨he, hok, ha⟩ | ⟨he, hnil⟩
  · subst he
    subst ha
    have hE := (read_in hok).1
    have h64 := read_few8 hok
    have h32 : ∀ x ∈ l, ent32 x := fun x hx => okE_32 (hE x hx)
    have CO : Hid (∀ v W, EntsAt W v l → Below w.heap.size w W → Calls Tryd.prog 9 #[v] W fun e w' => (∃ R, RowsOf l R ∧ CompR W.heap.size w' R e) ∧ Below W.heap.size W w') := fun v W h1 h2 => compile_any l h32 (by omega) v W h1 (hP.later hP.pos h2)
    have LK : Hid (∀ (T : List RuleM) v W, (∀ r ∈ T, okR8 r) → RulesAt W v T → Calls Tryd.prog 10 #[v, .agg (hv H)] W fun e w' => e = .returned (.tuple #[.agg (ruleV (lookT T H).1), .bool (lookT T H).2]) ∧ Below W.heap.size W w') := fun T v W h1 h2 => look_any T h1 v H hH W h2
    have SY : Hid (∀ v W, EntsAt W v l → Calls Tryd.prog 11 #[v, .agg (hv H)] W fun e w' => e = .returned (.tuple #[.int .i64 (saysT (applyT H) l).1, .bool (saysT (applyT H) l).2]) ∧ Below W.heap.size W w') := fun v W h => rsays_any l v W h h32 H hH
    have FM : Hid (∀ R, RowsOf l R → (compT R).2 = 0 → (lookT (compT R).1 H).1.action = (saysT (applyT H) l).1 ∧ (lookT (compT R).1 H).2 = true) := fun R h1 h2 => by
      have := flat_means h1 H hH h32 (fun x hx => okE_pt (hE x hx)) h2
      rw [hsay] at this
      exact this
    rw [show (0 == (0 : Int)) = true from rfl] at hsay
    rw [hsay] at SY
    obtain ⟨a, haa⟩ : ∃ a, a = (saysT (applyT H) l).1 := ⟨_, rfl⟩
    rw [← haa] at SY FM
    clear hsay hE h64 h32 hok hP hX haa
    go_enter Tryd.func3, Tryd.ntmps3
    go_wp2_with fail
    refine (AW.out _ B0.out).mono ?_
    rintro e w1 ⟨rfl, hb1⟩
    have R1 : Hid (w1.heap[w.heap.size]? = some (.cells (hv H) 23 (0, 0))) := (hb1.block _ (by simp)).trans K0.out
    have B1 : Hid (Below w.heap.size w w1) := B0.out.trans (hb1.mono B0.out.size)
    clear hb1 K0 B0
    go_wp2_with fail
    refine (RD.out _).mono ?_
    rintro e w2 ⟨v, rfl, ho2, hb2⟩
    have R2 : Hid (w2.heap[w.heap.size]? = some (.cells (hv H) 23 (0, 0))) := (hb2.block _ (Array.getElem?_eq_some_iff.1 R1.out).1).trans R1.out
    have B2 : Hid (Below w.heap.size w w2) := B1.out.trans (hb2.mono B1.out.size)
    have E2 : Hid (EntsAt w2 v l) := ents_sl ho2
    clear hb2 ho2 R1 B1
    go_wp2_with fail
    refine (CO.out _ _ E2.out B2.out).mono ?_
    rintro e w3 ⟨⟨R, hR, u, rfl, ho3⟩, hb3⟩
    have R3 : Hid (w3.heap[w.heap.size]? = some (.cells (hv H) 23 (0, 0))) := (hb3.block _ (Array.getElem?_eq_some_iff.1 R2.out).1).trans R2.out
    have B3 : Hid (Below w.heap.size w w3) := B2.out.trans (hb3.mono B2.out.size)
    have E3 : Hid (EntsAt w3 v l) := GSl.below E2.out hb3
    have hTk := comp_ok R
    have A3 : Hid (RulesAt w3 u (compT R).1) := gsl_of (E := RuleE) ho3 fun c hc => ruleV_size (hTk c hc)
    obtain ⟨ot, ct, rfl⟩ := gown_slice ho3
    clear hb3 ho3 R2 B2 E2
    rcases comp_cases R with hc | hc
    · rw [hc]
      rw [show (([], 16) : List RuleM × Int).1.length = 0 from rfl]
      clear hc hTk A3 hR
      go_wp2_with fail
      go_ret
      exact ⟨rfl, B3.out⟩
    · obtain ⟨f1, f2⟩ := FM.out R hR hc
      have L1 : Hid (∀ W, Below w3.heap.size w3 W → Calls Tryd.prog 10 #[.slice ot (compT R).1.length ct, .agg (hv H)] W fun e w' => e = .returned (.tuple #[.agg (ruleV (lookT (compT R).1 H).1), .bool (lookT (compT R).1 H).2]) ∧ Below W.heap.size W w') := fun W hb => LK.out _ _ W hTk (GSl.below A3.out hb)
      have hr := look_ok hTk H
      rw [f2] at L1
      obtain ⟨r, hre⟩ : ∃ r, r = (lookT (compT R).1 H).1 := ⟨_, rfl⟩
      rw [← hre] at L1 hr f1
      obtain ⟨nT, hnT⟩ : ∃ n, n = (compT R).1.length := ⟨_, rfl⟩
      rw [hc]
      rw [← hnT] at L1 ⊢
      have HR : Hid (okR8 r) := hr
      have HA : Hid (r.action = a) := f1
      clear hc hTk A3 hR hr f1 f2 hre hnT LK FM CO
      go_wp2_with (refine wl_load26 rfl _ rfl w.heap.size rfl H R3.out hHl ?_)
      refine (L1.out _ (Below.refl _ _)).mono ?_
      rintro e w4 ⟨rfl, hb4⟩
      have B4 : Hid (Below w.heap.size w (w4.alloc (.cells (ruleV r) 35))) := (B3.out.trans (hb4.mono B3.out.size)).alloc (B3.out.trans (hb4.mono B3.out.size)).size _
      have R4 : Hid ((w4.alloc (.cells (ruleV r) 35)).heap[w.heap.size]? = some (.cells (hv H) 23 (0, 0))) := heap_past _ _ _ _ ((hb4.block _ (Array.getElem?_eq_some_iff.1 R3.out).1).trans R3.out)
      have X4 : Hid ((w4.alloc (.cells (ruleV r) 35)).heap[w4.heap.size]? = some (.cells (ruleV r) 35 (0, 0))) := heap_new _ _ _ rfl
      have E4 : Hid (EntsAt (w4.alloc (.cells (ruleV r) 35)) v l) := GSl.below (GSl.below E3.out hb4) ((Below.refl _ _).alloc (Nat.le_refl _) _)
      clear hb4 E3 R3 B3 L1
      go_wp2_with (first
        | (refine wl_storeE (E := RuleE) RuleOk rfl _ _ rfl w4.heap.size (ruleV r) (rule_fits HR.out) rfl rfl _ (heap_new _ _ _ rfl) rfl _ (setRow_new _ _ _ _ _ rfl) ?_)
        | (refine wl_load26 rfl _ rfl w.heap.size rfl H R4.out hHl ?_))
      refine (SY.out _ _ E4.out).mono ?_
      rintro e w5 ⟨rfl, hb5⟩
      have B5 : Hid (Below w.heap.size w w5) := B4.out.trans (hb5.mono B4.out.size)
      have q : w5.cell? ⟨w4.heap.size, 27, none⟩ = some (.int .i64 a) := by rw [cell_of_row _ _ _ _ _ _ ((hb5.block _ (by simp)).trans X4.out), (rule_at HR.out).2.2, HA.out]
      have haa : (a == a) = true := by simp
      clear hb5 E4 R4 B4 X4
      go_wp2_with fail
      go_ret
      exact ⟨rfl, B5.out⟩
  · have hne : (e0 != 0) = true := by simp; exact he
    clear hsay hP hX he hnil
    go_enter Tryd.func3, Tryd.ntmps3
    go_wp2_with fail
    refine (AW.out _ B0.out).mono ?_
    rintro e w1 ⟨rfl, hb1⟩
    have B1 : Hid (Below w.heap.size w w1) := B0.out.trans (hb1.mono B0.out.size)
    clear hb1 K0 B0
    go_wp2_with fail
    refine (RD.out _).mono ?_
    rintro e w2 ⟨v, rfl, ho2, hb2⟩
    have B2 : Hid (Below w.heap.size w w2) := B1.out.trans (hb2.mono B1.out.size)
    clear hb2 ho2 B1
    go_wp2_with fail
    go_ret
    exact ⟨rfl, B2.out⟩
end Go.Proofs.YtnbklmmampdbfaaDoor
namespace Go.Proofs.YtnbklmmampdbfaaDoor
open Go Go.RowKit
set_option maxRecDepth 20000

/-! How many cubes an entry has, and that they lie apart. -/
/-- The letters that aren't free lie in some places. -/
def supB (F : Nat → Bool) (c : CubeT) : Prop := ∀ i, i < 104 → bt c.2 i = true → F i = true
theorem sup_meets {F G : Nat → Bool} (hd : ∀ i, F i = true → G i = true → False) {c d : CubeT} (hc : supB F c) (hg : supB G d) : meets c.1 c.2 d.1 d.2 = true :=
  (meets_iff _ _ _ _).2 fun i hi h1 h2 => (hd i (hc i hi h1) (hg i hi h2)).elim
theorem crossR_all {F G : Nat → Bool} (hd : ∀ i, F i = true → G i = true → False) {c : CubeT} {B : List CubeT} (hc : supB F c) (hB : ∀ d ∈ B, supB G d) : crossR c B = B.map fun d => (meetV c.1 c.2 d.1 d.2, meetM c.2 d.2) := by
  unfold crossR
  rw [List.filter_eq_self.2 fun d hdB => sup_meets hd hc (hB d hdB)]
theorem crossL_many {F G : Nat → Bool} (hd : ∀ i, F i = true → G i = true → False) {B : List CubeT} (hB : ∀ d ∈ B, supB G d) : ∀ {A : List CubeT}, (∀ c ∈ A, supB F c) → (crossL A B).length = A.length * B.length
  | [], _ => by simp [crossL]
  | c :: A, hA => by
    have ih := crossL_many hd hB (A := A) fun x hx => hA x (List.mem_cons_of_mem _ hx)
    unfold crossL at ih ⊢
    rw [List.flatMap_cons, List.length_append, ih, crossR_all hd (hA c (by simp)) hB, List.length_map, List.length_cons, Nat.add_mul]
    omega
theorem crossL_sup {F G : Nat → Bool} {A B : List CubeT} (hA : ∀ c ∈ A, supB F c) (hB : ∀ d ∈ B, supB G d) : ∀ c ∈ crossL A B, supB (fun i => F i || G i) c := fun c hc => by
  unfold crossL at hc
  rw [List.mem_flatMap] at hc
  obtain ⟨a, ha, hd⟩ := hc
  unfold crossR at hd
  rw [List.mem_map] at hd
  obtain ⟨b, hb, rfl⟩ := hd
  rw [List.mem_filter] at hb
  intro i hi h
  rw [show bt (meetM a.2 b.2) i = (bt a.2 i || bt b.2 i) from mk_bt _ i hi, Bool.or_eq_true] at h
  show (F i || G i) = true
  rw [Bool.or_eq_true]
  rcases h with h | h
  · exact .inl (hA a ha i hi h)
  · exact .inr (hB b hb.1 i hi h)
theorem sup_px {F : Nat → Bool} (f : Int) (v k : Nat) (hF : ∀ i, 8 * atOf f ≤ i → i < 8 * atOf f + k → F i = true) : supB F (pxV f v k, pxM f k) := fun i hi h => by
  rw [show bt (pxM f k) i = _ from frM_bt _ _ i hi, decide_eq_true_eq] at h
  exact hF i h.1 h.2
theorem sup_all (F : Nat → Bool) : supB F allC := fun i hi h => by
  have h2 : bt Z i = false := mk_bt (fun _ => false) i hi
  rw [show allC.2 = Z from rfl, h2] at h
  cases h
/-- An entry whose numbers can be. -/
def canB (x : Ent) : Bool := isR x.slow x.shigh && isR x.dlow x.dhigh && (decide (-1 ≤ x.proto) && decide (x.proto ≤ 255))
theorem sup_pref {F : Nat → Bool} (f v n : Int) (hF : ∀ i, 8 * atOf f ≤ i → i < 8 * atOf f + 32 → F i = true) : ∀ c ∈ prefL f v n, supB F c := fun c hc => by
  have hk : clip8 n ≤ 32 := by unfold clip8; omega
  unfold prefL at hc
  rw [List.mem_singleton] at hc
  subst hc
  exact sup_px f _ _ fun i h1 h2 => hF i h1 (by omega)
theorem sup_prot {F : Nat → Bool} (n : Int) (hF : ∀ i, 96 ≤ i → i < 104 → F i = true) : ∀ c ∈ protL n, supB F c := fun c hc => by
  unfold protL at hc
  split at hc
  · rw [List.mem_singleton] at hc; subst hc; exact sup_all F
  · split at hc
    · rw [List.mem_singleton] at hc; subst hc; exact sup_px 4 _ _ fun i h1 h2 => hF i h1 h2
    · simp at hc
theorem sup_port {F : Nat → Bool} (f l h : Int) (hF : ∀ i, 8 * atOf f ≤ i → i < 8 * atOf f + 16 → F i = true) : ∀ c ∈ portP f l h, supB F c := fun c hc => by
  unfold portP at hc
  split at hc
  · unfold portC at hc
    rw [List.mem_map] at hc
    obtain ⟨p, hp, rfl⟩ := hc
    obtain ⟨k, hk⟩ := List.mem_iff_getElem?.1 hp
    have := ran_mem hk
    exact sup_px f _ _ fun i h1 h2 => hF i h1 (by omega)
  · simp at hc
theorem portP_len (f l h : Int) (hf : f = 2 ∨ f = 3) : (portP f l h).length = (ran l h).length := by
  unfold portP
  rw [show decide (f = 2 ∨ f = 3) = true from decide_eq_true hf, Bool.true_and]
  split
  · exact portC_len _ _
  · next c => rw [ran, if_neg c]; rfl
theorem ran_none {l h : Int} (c : isR l h = false) : ran l h = [] := by rw [ran, if_neg (by rw [c]; decide)]
/-- The cubes of an entry's first three clauses: at most one. -/
def baseL (x : Ent) : List CubeT := crossL (crossL (crossL [allC] (prefL 0 x.src x.srcBits)) (prefL 1 x.dst x.dstBits)) (protL x.proto)
theorem five_base (x : Ent) : meetsL (five8 x) = crossL (crossL (baseL x) (portP 2 x.slow x.shigh)) (portP 3 x.dlow x.dhigh) := by
  unfold meetsL five8 baseL
  rw [List.foldl_cons, List.foldl_cons, List.foldl_cons, List.foldl_cons, List.foldl_cons, List.foldl_nil]
def f014 (i : Nat) : Bool := decide (i < 64) || decide (96 ≤ i)
theorem base_sup (x : Ent) : ∀ c ∈ baseL x, supB f014 c := fun c hc => by
  have h1 := crossL_sup (F := fun _ => false) (G := fun i => decide (i < 32)) (A := [allC]) (B := prefL 0 x.src x.srcBits) (fun c hc => by rw [List.mem_singleton.1 hc]; exact sup_all _) (sup_pref 0 _ _ fun i h1 h2 => decide_eq_true (by rw [show 8 * atOf 0 = 0 from rfl] at h2; omega))
  have h2 := crossL_sup h1 (sup_pref (F := fun i => decide (32 ≤ i ∧ i < 64)) 1 x.dst x.dstBits fun i h1 h2 => decide_eq_true (by rw [show 8 * atOf 1 = 32 from rfl] at h1 h2; omega))
  have h3 := crossL_sup h2 (sup_prot (F := fun i => decide (96 ≤ i)) x.proto fun i h1 h2 => decide_eq_true (by omega)) c hc
  intro i hi h
  have := h3 i hi h
  unfold f014
  simp only [Bool.or_eq_true, decide_eq_true_eq, Bool.false_eq_true, false_or] at this ⊢
  omega
theorem base_len (x : Ent) : (baseL x).length = (protL x.proto).length := by
  have s0 : ∀ c ∈ [allC], supB (fun _ => false) c := fun c hc => by rw [List.mem_singleton.1 hc]; exact sup_all _
  have s1 := sup_pref (F := fun i => decide (i < 32)) 0 x.src x.srcBits fun i h1 h2 => decide_eq_true (by rw [show 8 * atOf 0 = 0 from rfl] at h2; omega)
  have s2 := sup_pref (F := fun i => decide (32 ≤ i ∧ i < 64)) 1 x.dst x.dstBits fun i h1 h2 => decide_eq_true (by rw [show 8 * atOf 1 = 32 from rfl] at h1 h2; omega)
  have s3 := sup_prot (F := fun i => decide (96 ≤ i)) x.proto fun i h1 h2 => decide_eq_true (by omega)
  have h1 := crossL_sup s0 s1
  have h2 := crossL_sup h1 s2
  unfold baseL
  rw [crossL_many (fun i a b => by simp only [Bool.or_eq_true, decide_eq_true_eq, Bool.false_eq_true, false_or] at a b; omega) s3 h2, crossL_many (fun i a b => by simp only [Bool.or_eq_true, decide_eq_true_eq, Bool.false_eq_true, false_or] at a b; omega) s2 h1, crossL_many (fun i a b => by cases a) s1 s0]
  simp [prefL]
theorem prot_len (n : Int) : (protL n).length = if -1 ≤ n ∧ n ≤ 255 then 1 else 0 := by
  unfold protL
  by_cases h : n = -1
  · rw [if_pos h, if_pos (by omega)]; rfl
  · rw [if_neg h]
    by_cases h2 : 0 ≤ n ∧ n ≤ 255
    · rw [if_pos h2, if_pos (by omega)]; rfl
    · rw [if_neg h2, if_neg (by omega)]; rfl
theorem sup_p2 (x : Ent) : ∀ c ∈ portP 2 x.slow x.shigh, supB (fun i => decide (64 ≤ i ∧ i < 80)) c := sup_port 2 _ _ fun i h1 h2 => decide_eq_true (by rw [show 8 * atOf 2 = 64 from rfl] at h1 h2; omega)
theorem sup_p3 (x : Ent) : ∀ c ∈ portP 3 x.dlow x.dhigh, supB (fun i => decide (80 ≤ i ∧ i < 96)) c := sup_port 3 _ _ fun i h1 h2 => decide_eq_true (by rw [show 8 * atOf 3 = 80 from rfl] at h1 h2; omega)
theorem base_two : ∀ i, f014 i = true → decide (64 ≤ i ∧ i < 80) = true → False := fun i a b => by unfold f014 at a; simp only [Bool.or_eq_true, decide_eq_true_eq] at a b; omega
theorem base_three : ∀ i, (f014 i || decide (64 ≤ i ∧ i < 80)) = true → decide (80 ≤ i ∧ i < 96) = true → False := fun i a b => by unfold f014 at a; simp only [Bool.or_eq_true, decide_eq_true_eq] at a b; omega
/-- How many cubes an entry has. -/
theorem cubes_len (x : Ent) : (cubesT x).length = if x.dflt then 1 else if canB x then (ran x.slow x.shigh).length * (ran x.dlow x.dhigh).length else 0 := by
  unfold cubesT
  cases hd : x.dflt with
  | true => rfl
  | false =>
    rw [if_neg (by decide), if_neg (by decide), five_base, crossL_many base_three (sup_p3 x) (crossL_sup (base_sup x) (sup_p2 x)), crossL_many base_two (sup_p2 x) (base_sup x), base_len, prot_len, portP_len 2 _ _ (.inl rfl), portP_len 3 _ _ (.inr rfl)]
    unfold canB
    by_cases h1 : isR x.slow x.shigh = true
    · by_cases h2 : isR x.dlow x.dhigh = true
      · by_cases h3 : -1 ≤ x.proto ∧ x.proto ≤ 255
        · rw [h1, h2, if_pos h3, if_pos (by simp [h3]), Nat.one_mul]
        · rw [if_neg h3, if_neg (by simp only [Bool.and_eq_true, decide_eq_true_eq]; omega), Nat.zero_mul, Nat.zero_mul]
      · have h2' : isR x.dlow x.dhigh = false := by simpa using h2
        rw [ran_none h2', h2']
        simp
    · have h1' : isR x.slow x.shigh = false := by simpa using h1
      rw [ran_none h1', h1']
      simp

/-- Cubes that have no header in common. -/
def noBoth (c d : CubeT) : Prop := ∀ H, has c.1 c.2 H = true → has d.1 d.2 H = true → False
theorem noBoth_of {c d : CubeT} (h : meets c.1 c.2 d.1 d.2 = false) : noBoth c d := fun H h1 h2 => by
  rw [has_meets h1 h2] at h; cases h
theorem mem_crossR {a b : CubeT} {B : List CubeT} (h : b ∈ crossR a B) : ∃ d ∈ B, ∀ H, has b.1 b.2 H = true → has a.1 a.2 H = true ∧ has d.1 d.2 H = true := by
  unfold crossR at h
  rw [List.mem_map] at h
  obtain ⟨d, hd, rfl⟩ := h
  rw [List.mem_filter] at hd
  refine ⟨d, hd.1, fun H h => ?_⟩
  rw [has_meet _ _ _ _ _ hd.2, Bool.and_eq_true] at h
  exact h
theorem crossR_apart {c : CubeT} {B : List CubeT} (hB : B.Pairwise noBoth) : (crossR c B).Pairwise noBoth := by
  unfold crossR
  rw [List.pairwise_map]
  refine List.Pairwise.imp_of_mem ?_ (hB.filter _)
  intro a b ha hb hab H h1 h2
  rw [has_meet _ _ _ _ _ (List.mem_filter.1 ha).2, Bool.and_eq_true] at h1
  rw [has_meet _ _ _ _ _ (List.mem_filter.1 hb).2, Bool.and_eq_true] at h2
  exact hab H h1.2 h2.2
theorem crossL_apart {A B : List CubeT} (hA : A.Pairwise noBoth) (hB : B.Pairwise noBoth) : (crossL A B).Pairwise noBoth := by
  unfold crossL
  rw [List.pairwise_flatMap]
  refine ⟨fun c _ => crossR_apart hB, hA.imp fun hab x hx y hy H h1 h2 => ?_⟩
  obtain ⟨_, _, p⟩ := mem_crossR hx
  obtain ⟨_, _, q⟩ := mem_crossR hy
  exact hab H (p H h1).1 (q H h2).1
theorem apart_pw {C : List CubeT} (h : Apart C) : C.Pairwise noBoth := by
  rw [List.pairwise_iff_getElem]
  intro i j hi hj hij
  exact noBoth_of (h i j C[i].1 C[i].2 C[j].1 C[j].2 hij (List.getElem?_eq_getElem hi) (List.getElem?_eq_getElem hj))
theorem portP_apart (f l h : Int) (hf : f = 2 ∨ f = 3) : (portP f l h).Pairwise noBoth := by
  unfold portP
  split
  · next c => exact apart_pw (apart_ports f l h hf (by rw [Bool.and_eq_true] at c; exact c.2))
  · exact List.Pairwise.nil
theorem few_apart {C : List CubeT} (h : C.length ≤ 1) : C.Pairwise noBoth := by
  match C, h with
  | [], _ => exact List.Pairwise.nil
  | [c], _ => exact List.pairwise_singleton _ _
theorem cubes_apart (x : Ent) : (cubesT x).Pairwise noBoth := by
  unfold cubesT
  split
  · exact List.pairwise_singleton _ _
  · rw [five_base]
    refine crossL_apart (crossL_apart (few_apart ?_) (portP_apart 2 _ _ (.inl rfl))) (portP_apart 3 _ _ (.inr rfl))
    rw [base_len, prot_len]
    split <;> omega
end Go.Proofs.YtnbklmmampdbfaaDoor
namespace Go.Proofs.YtnbklmmampdbfaaDoor
open Go Go.RowKit
set_option maxRecDepth 20000

/-! The lists of FlatMany: mathematics alone. -/
theorem trimGo_keep {α : Type} (w : α → α → Bool) : ∀ (l A : List α), (∀ r ∈ l, ∀ a ∈ A, w r a = false) → l.Pairwise (fun a r => w r a = false) → trimGo w A l = l
  | [], _, _, _ => rfl
  | r :: l, A, hA, hp => by
    obtain ⟨h1, h2⟩ := List.pairwise_cons.1 hp
    have hn : A.any (w r) = false := by
      rw [Bool.eq_false_iff]
      intro h
      obtain ⟨a, ha, h3⟩ := List.any_eq_true.1 h
      rw [hA r (by simp) a ha] at h3; cases h3
    rw [trimGo, if_neg (by rw [hn]; decide), trimGo_keep w l (A ++ [r]) (fun x hx a ha => ?_) h2]
    rcases List.mem_append.1 ha with h | h
    · exact hA x (List.mem_cons_of_mem _ hx) a h
    · rw [List.mem_singleton.1 h]; exact h1 x hx
theorem trimGo_drop {α : Type} (w : α → α → Bool) : ∀ (l A : List α), (∀ r ∈ l, ∃ a ∈ A, w r a = true) → trimGo w A l = []
  | [], _, _ => rfl
  | r :: l, A, hA => by
    obtain ⟨a, ha, h⟩ := hA r (by simp)
    rw [trimGo, if_pos (List.any_eq_true.2 ⟨a, ha, h⟩)]
    exact trimGo_drop w l (A ++ [r]) fun x hx => by
      obtain ⟨b, hb, h2⟩ := hA x (List.mem_cons_of_mem _ hx)
      exact ⟨b, List.mem_append_left _ hb, h2⟩
theorem trimGo_app {α : Type} (w : α → α → Bool) : ∀ (l l2 A : List α), trimGo w A (l ++ l2) = trimGo w A l ++ trimGo w (A ++ l) l2
  | [], l2, A => by rw [List.nil_append, List.append_nil]; rfl
  | r :: l, l2, A => by
    have ih := trimGo_app w l l2 (A ++ [r])
    rw [List.append_assoc, List.singleton_append] at ih
    rw [List.cons_append, trimGo, trimGo, ih]
    split <;> rfl
theorem trimGo_map {α β : Type} (g : α → β) (w : α → α → Bool) (w' : β → β → Bool) (h : ∀ a b, w a b = w' (g a) (g b)) : ∀ (l A : List α), (trimGo w A l).map g = trimGo w' (A.map g) (l.map g)
  | [], _ => rfl
  | r :: l, A => by
    have ih := trimGo_map g w w' h l (A ++ [r])
    rw [List.map_append] at ih
    have e : A.any (w r) = (A.map g).any (w' (g r)) := by
      rw [List.any_map]
      congr 1
      funext a
      exact h r a
    rw [List.map_cons, trimGo, trimGo, ← e]
    cases A.any (w r) with
    | true => rw [if_pos rfl, if_pos rfl]; exact ih
    | false => rw [if_neg (by decide), if_neg (by decide), List.map_cons, ih]; rfl
def withP (q a : CubeT × Int) : Bool := within q.1.1 q.1.2 a.1.1 a.1.2
theorem trim_len (P : List (CubeT × Int)) : (trimT (rulesOf P)).length = (trimGo withP [] P).length := by
  have := congrArg List.length (trimGo_map coreR withinR withP (fun _ _ => rfl) (rulesOf P) [])
  rw [List.length_map, List.map_nil, core_rules] at this
  rw [trimT_go, this]
theorem withP_refl (q : CubeT × Int) : withP q q = true := withinR_refl ⟨0, q.1, 0⟩
/-- What has a header that another one hasn't does not lie within it. -/
theorem not_within {q a : CubeT × Int} {H : List Int} (h1 : has q.1.1 q.1.2 H = true) (h2 : has a.1.1 a.1.2 H = false) : withP q a = false := by
  cases h : withP q a with
  | false => rfl
  | true => rw [has_within9 _ _ _ _ _ h h1] at h2; cases h2
theorem apart_within {q a : CubeT × Int} (h : noBoth a.1 q.1) : withP q a = false := by
  refine not_within (H := q.1.1) (has_self _ _) ?_
  cases hh : has a.1.1 a.1.2 q.1.1 with
  | false => rfl
  | true => exact (h _ hh (has_self _ _)).elim

def manyE (wide : Bool) (i : Nat) : Ent := ⟨false, (i : Int), 1, 0, 0, 0, 0, 1, 6, 1, 6, if wide then (i : Int) else -1⟩
def dflt0 : Ent := ⟨true, 0, 0, 0, 0, 0, 0, 0, 0, 0, 0, 0⟩
def manyL (wide : Bool) (n : Nat) : List Ent := dflt0 :: (List.range n).map (manyE wide)
def manyS (wide : Bool) (n : Nat) : List Ent := ((List.range n).map (manyE wide)).reverse
theorem manyS_succ (wide : Bool) (n : Nat) : manyS wide (n + 1) = manyE wide n :: manyS wide n := by
  unfold manyS
  rw [List.range_succ, List.map_append, List.reverse_append]
  rfl
theorem manyS_len (wide : Bool) (n : Nat) : (manyS wide n).length = n := by unfold manyS; simp
theorem manyS_mem {wide : Bool} {n : Nat} {x : Ent} : x ∈ manyS wide n ↔ ∃ i, i < n ∧ manyE wide i = x := by
  unfold manyS
  rw [List.mem_reverse, List.mem_map]
  simp only [List.mem_range]
theorem rev_one {α : Type} (p : α → Int) (k : Int) {m : List α} (h : m.Pairwise fun x y => p x ≠ p y) : (m.filter fun x => p x == k).reverse = m.filter fun x => p x == k := by
  have h2 := h.filter fun x => p x == k
  have h3 : ∀ x ∈ m.filter (fun x => p x == k), p x = k := fun x hx => by simpa using (List.mem_filter.1 hx).2
  generalize m.filter (fun x => p x == k) = M at h2 h3
  match M, h2, h3 with
  | [], _, _ => rfl
  | [a], _, _ => rfl
  | a :: b :: M, h2, h3 => exact absurd ((h3 a (by simp)).trans (h3 b (by simp)).symm) ((List.pairwise_cons.1 h2).1 b (by simp))
theorem many_rows (wide : Bool) (n : Nat) : RowsOf (manyL wide n) (manyS wide n ++ [dflt0]) := by
  have e1 : (manyL wide n).filter (fun x => !x.dflt) = (List.range n).map (manyE wide) := by
    unfold manyL
    rw [List.filter_cons, if_neg (by decide), List.filter_eq_self.2 fun x hx => by
      obtain ⟨i, _, rfl⟩ := List.mem_map.1 hx
      rfl]
  have e2 : (manyL wide n).filter (fun x => x.dflt) = [dflt0] := by
    unfold manyL
    rw [List.filter_cons, if_pos (by decide), List.filter_eq_nil_iff.2 fun x hx => by
      obtain ⟨i, _, rfl⟩ := List.mem_map.1 hx
      simp [manyE]]
  have hp : ((List.range n).map (manyE wide)).Pairwise fun x y => x.prio < y.prio := by
    rw [List.pairwise_map]
    exact List.pairwise_lt_range.imp fun {a b} h => by
      show (a : Int) < (b : Int)
      omega
  refine ⟨manyS wide n, ⟨?_, ?_, fun k => ?_⟩, by rw [e2]⟩
  · rw [e1, manyS_len]; simp
  · show (manyS wide n).Pairwise _
    unfold manyS
    rw [List.pairwise_reverse]
    exact hp.imp fun {a b} h => by show a.prio ≤ b.prio; omega
  · rw [e1]
    unfold manyS
    rw [List.filter_reverse]
    exact rev_one (·.prio) k (hp.imp fun {a b} h => by show a.prio ≠ b.prio; omega)
theorem many_can (wide : Bool) (i : Nat) (hi : i < 64) : canB (manyE wide i) = true := by
  unfold canB manyE
  have h1 : isR 1 6 = true := by decide
  rw [show isR 1 6 = true from h1]
  cases wide <;> simp <;> omega
theorem many_cubes (wide : Bool) (i : Nat) (hi : i < 64) : (cubesT (manyE wide i)).length = 16 := by
  have h : (ran 1 6).length = 4 := by
    rw [ran, if_pos (by decide)]
    show (rng 6 1).length = 4
    rw [rng_16]; rfl
  rw [cubes_len, if_neg (by simp [manyE]), many_can wide i hi, if_pos rfl]
  show (ran 1 6).length * (ran 1 6).length = 16
  rw [h]
theorem many_32 (wide : Bool) (i : Nat) : ent32 (manyE wide i) := by unfold ent32 manyE; simp
theorem many_pt (wide : Bool) (i : Nat) : okPt (manyE wide i) := fun _ => by unfold manyE; simp
/-- The header of zeros is none of theirs. -/
theorem many_not (wide : Bool) (i : Nat) : ∀ q ∈ pq8 (manyE wide i), withP (allC, 0) q = false := fun q hq => by
  unfold pq8 at hq
  obtain ⟨c, hc, rfl⟩ := List.mem_map.1 hq
  refine not_within (H := Z) (has_self _ _) ?_
  cases hh : has c.1 c.2 Z with
  | false => rfl
  | true =>
    have h := cubes_has Z Z_byt (manyE wide i) (many_32 wide i) (many_pt wide i)
    rw [show hasL (cubesT (manyE wide i)) Z = true from List.any_eq_true.2 ⟨c, hc, hh⟩] at h
    unfold applyT applyR at h
    have hz : fldN Z 2 = 0 := by rw [Z_eq]; rfl
    rw [hz] at h
    simp [manyE] at h
theorem many_two (i j : Nat) (hij : i ≠ j) : ∀ q ∈ pq8 (manyE true i), ∀ q' ∈ pq8 (manyE true j), withP q' q = false := fun q hq q' hq' => by
  unfold pq8 at hq hq'
  obtain ⟨c, hc, rfl⟩ := List.mem_map.1 hq
  obtain ⟨c', hc', rfl⟩ := List.mem_map.1 hq'
  refine not_within (H := c'.1) (has_self _ _) ?_
  cases hh : has c.1 c.2 c'.1 with
  | false => rfl
  | true =>
    exfalso
    have hB : Byt c'.1 := (cubes_byts (manyE true j) c' hc').1
    have h1 := cubes_has c'.1 hB (manyE true i) (many_32 true i) (many_pt true i)
    have h2 := cubes_has c'.1 hB (manyE true j) (many_32 true j) (many_pt true j)
    rw [show hasL (cubesT (manyE true i)) c'.1 = true from List.any_eq_true.2 ⟨c, hc, hh⟩] at h1
    rw [show hasL (cubesT (manyE true j)) c'.1 = true from List.any_eq_true.2 ⟨c', hc', has_self _ _⟩] at h2
    have p1 : ∀ k, true = applyT c'.1 (manyE true k) → (k : Int) = fldN c'.1 4 := fun k h => by
      unfold applyT applyR at h
      have h := h.symm
      rw [show (manyE true k).dflt = false from rfl, Bool.false_or, Bool.and_eq_true] at h
      have h := h.2
      rw [show (manyE true k).proto = (k : Int) from rfl, Bool.or_eq_true, beq_iff_eq, beq_iff_eq] at h
      omega
    have := p1 i h1
    have := p1 j h2
    omega
theorem pairs_16 : ∀ {L : List Ent}, (∀ x ∈ L, (cubesT x).length = 16) → (pairsT L).length = 16 * L.length
  | [], _ => rfl
  | x :: L, h => by
    have ih := pairs_16 (L := L) fun y hy => h y (List.mem_cons_of_mem _ hy)
    unfold pairsT at ih ⊢
    rw [List.flatMap_cons, List.length_append, ih, List.length_cons]
    unfold pq8
    rw [List.length_map, h x (by simp)]
    omega
theorem pq_apart (x : Ent) : (pq8 x).Pairwise fun a r => withP r a = false := by
  unfold pq8
  rw [List.pairwise_map]
  exact (cubes_apart x).imp fun h => apart_within h
theorem pairs_app (A B : List Ent) : pairsT (A ++ B) = pairsT A ++ pairsT B := by unfold pairsT; rw [List.flatMap_append]
theorem pairs_dflt : pairsT [dflt0] = [(allC, 0)] := rfl
theorem mem_pairs {L : List Ent} {q : CubeT × Int} (h : q ∈ pairsT L) : ∃ x ∈ L, q ∈ pq8 x := by
  unfold pairsT at h
  exact List.mem_flatMap.1 h
theorem many_no (wide : Bool) (n : Nat) : ∀ q ∈ pairsT (manyS wide n), withP (allC, 0) q = false := fun q hq => by
  obtain ⟨x, hx, hq⟩ := mem_pairs hq
  obtain ⟨i, _, rfl⟩ := manyS_mem.1 hx
  exact many_not wide i q hq
theorem trim_last {P : List (CubeT × Int)} {q : CubeT × Int} (h : ∀ a ∈ P, withP q a = false) : trimGo withP [] (P ++ [q]) = trimGo withP [] P ++ [q] := by
  rw [trimGo_app, List.nil_append, trimGo_keep withP [q] P (fun r hr a ha => by rw [List.mem_singleton.1 hr]; exact h a ha) (List.pairwise_singleton _ _)]
/-- How many rules there are. -/
def wantN (wide : Bool) (n : Nat) : Nat := if wide then 16 * n + 1 else min n 1 * 16 + 1
theorem many_pairs (wide : Bool) (n : Nat) (hn : n ≤ 64) : (pairsT (manyS wide n ++ [dflt0])).length = 16 * n + 1 := by
  rw [pairs_app, List.length_append, pairs_dflt, pairs_16 (fun x hx => by
    obtain ⟨i, hi, rfl⟩ := manyS_mem.1 hx
    exact many_cubes wide i (by omega)), manyS_len]
  rfl
theorem many_trim (wide : Bool) (n : Nat) (hn : n ≤ 64) : (trimT (rulesOf (pairsT (manyS wide n ++ [dflt0])))).length = wantN wide n := by
  rw [trim_len, pairs_app, pairs_dflt, trim_last (many_no wide n), List.length_append]
  cases wide with
  | true =>
    have hp : (pairsT (manyS true n)).Pairwise fun a r => withP r a = false := by
      unfold pairsT
      rw [List.pairwise_flatMap]
      refine ⟨fun x _ => pq_apart x, ?_⟩
      unfold manyS
      rw [List.pairwise_reverse, List.pairwise_map]
      exact List.pairwise_lt_range.imp fun {a b} h => many_two b a (by omega)
    rw [trimGo_keep withP _ [] (fun _ _ a ha => by simp at ha) hp, pairs_16 (fun x hx => by
      obtain ⟨i, hi, rfl⟩ := manyS_mem.1 hx
      exact many_cubes true i (by omega)), manyS_len]
    rfl
  | false =>
    cases n with
    | zero => rfl
    | succ n =>
      rw [manyS_succ, show manyE false n :: manyS false n = [manyE false n] ++ manyS false n from rfl, pairs_app, trimGo_app, trimGo_keep withP (pairsT [manyE false n]) [] (fun _ _ a ha => by simp at ha) (by unfold pairsT; rw [List.flatMap_cons, List.flatMap_nil, List.append_nil]; exact pq_apart _), trimGo_drop withP (pairsT (manyS false n)), List.append_nil, pairs_16 (fun x hx => by
        rw [List.mem_singleton.1 hx]
        exact many_cubes false n (by omega))]
      · unfold wantN
        simp
      · intro q hq
        obtain ⟨x, hx, hq⟩ := mem_pairs hq
        obtain ⟨i, _, rfl⟩ := manyS_mem.1 hx
        refine ⟨q, ?_, withP_refl q⟩
        rw [List.nil_append]
        unfold pairsT
        rw [List.flatMap_cons, List.flatMap_nil, List.append_nil]
        exact hq
theorem renum_order {T : List RuleM} {k : Nat} {r : RuleM} (h : (renum T)[k]? = some r) : r.order = (k : Int) := by
  unfold renum at h
  rw [List.getElem?_map, Option.map_eq_some_iff] at h
  obtain ⟨q, hq, rfl⟩ := h
  rw [List.getElem?_zipIdx, Option.map_eq_some_iff] at hq
  obtain ⟨a, _, rfl⟩ := hq
  simp
/-- What comes of it. -/
theorem many_comp (wide : Bool) (n : Nat) (hn : n ≤ 64) : if 512 < wantN wide n then compT (manyS wide n ++ [dflt0]) = ([], 16) else (compT (manyS wide n ++ [dflt0])).2 = 0 ∧ (compT (manyS wide n ++ [dflt0])).1.length = wantN wide n ∧ ∀ (k : Nat) (r : RuleM), (compT (manyS wide n ++ [dflt0])).1[k]? = some r → r.order = (k : Int) := by
  have e : compT (manyS wide n ++ [dflt0]) = if 512 < wantN wide n then ([], 16) else (renum (trimT (rulesOf (pairsT (manyS wide n ++ [dflt0])))), 0) := by
    unfold compT
    rw [many_pairs wide n hn, many_trim wide n hn, if_neg (show ¬ 2048 < 16 * n + 1 by omega)]
  rw [e]
  by_cases h : 512 < wantN wide n
  · rw [if_pos h, if_pos h]
  · rw [if_neg h, if_neg h]
    exact ⟨rfl, (renum_len _).trans (many_trim wide n hn), fun k r h => renum_order h⟩
theorem many_rows_one {wide : Bool} {n : Nat} {R : List Ent} (h : RowsOf (manyL wide n) R) : R = manyS wide n ++ [dflt0] := rowsOf_one h (many_rows wide n)
end Go.Proofs.YtnbklmmampdbfaaDoor
namespace Go.Proofs.YtnbklmmampdbfaaDoor
open Go Go.RowKit
set_option maxRecDepth 20000

theorem and63 (n : Int) : ∃ m : Nat, m ≤ 63 ∧ bits .and .i64 n 63 = (m : Int) := by
  refine ⟨(BitVec.ofInt 64 n).toNat &&& 63, Nat.and_le_right, ?_⟩
  have h2 : (BitVec.ofInt 64 (63 : Int)).toNat = 63 := by decide
  have h3 : (BitVec.ofInt 64 n).toNat &&& 63 ≤ 63 := Nat.and_le_right
  show IntKind.i64.wrap ((BitVec.ofInt 64 n &&& BitVec.ofInt 64 (63 : Int)).toNat : Int) = _
  rw [BitVec.toNat_and, h2, IntKind.wrap_i64]
  omega
theorem wl_buildEnt {ops : Array Oper} {rest : List Oper} {o : Oper} {a : Act} {w : World} {Q : Exit → Act → World → Prop} (hgd : o.guard = none) (ps : Array (Nat × Operand)) (ho : o.op = .build 47 ps) (qs : Array (Nat × Value)) (hq : (ps.map fun (i, x) => (i, a.eval x)) = qs) (v : Value)
    (hr : ∀ W, (Instr.build 47 qs).run Tryd.prog W = .ok v W) (h : wpList Tryd.prog ops Q rest (a.put o.dst v) w) : wpList Tryd.prog ops Q (o :: rest) a w := by
  refine wpList_plain hgd fun _ hK => ?_
  unfold Oper.wp execOp
  simp only [ho, Sem.run_bind, hq, hr, Result.andThen_ok, Sem.run_pure]
  exact hK _ _ h
theorem build_dflt (W : World) : (Instr.build 47 #[(0, .bool true)]).run Tryd.prog W = .ok (.agg (entV dflt0)) W := by kernel_rfl
theorem build_many (k : Nat) (W : World) : (Instr.build 47 #[(1, .int .i64 (k : Int)), (6, .int .i64 1), (7, .int .i64 6), (8, .int .i64 1), (9, .int .i64 6), (10, .int .i64 (k : Int)), (11, .int .i64 1)]).run Tryd.prog W = .ok (.agg (entV (manyE true k))) W := by kernel_rfl
theorem manyL_next (wide : Bool) (k : Nat) : manyL wide (k + 1) = manyL wide k ++ [manyE wide k] := by
  unfold manyL
  rw [List.range_succ, List.map_append]; rfl
theorem manyL_len (wide : Bool) (k : Nat) : (manyL wide k).length = k + 1 := by unfold manyL; simp
theorem manyL_32 (wide : Bool) (k : Nat) : ∀ x ∈ manyL wide k, ent32 x := fun x hx => by
  unfold manyL at hx
  rcases List.mem_cons.1 hx with rfl | hx
  · unfold ent32 dflt0; simp
  · obtain ⟨i, _, rfl⟩ := List.mem_map.1 hx
    exact many_32 wide i
theorem own_dflt (w : World) : (w.alloc (.cells (entV dflt0) 47)).ownsRow w.heap.size 47 12 (.slice (some ⟨w.heap.size, 0, none⟩) 1 1) 1 (gcells entV [dflt0]) := by
  have := World.ownsRow_lit (base := w.heap.size) (e := 47) (size := 12) w (entV dflt0) 1 (Nat.le_refl _) (by unfold maxLen; omega) rfl
  exact this

set_option maxHeartbeats 8000000 in
set_option maxRecDepth 100000 in
theorem lawFMany_any (n0 : Int) (wide : Bool) (w : World) (hP : Places w) :
    Calls Tryd.prog 6 #[.int .i64 n0, .bool wide] w fun e w' => e = .returned (.bool true) ∧ Below w.heap.size w w' := by
  have AW : Hid (∀ W, Below w.heap.size w W → Calls Tryd.prog 7 #[] W fun e w' => e = .returned (.bool true) ∧ Below W.heap.size W w') := fun W hb => awake8_any W (hP.later hP.pos hb)
  obtain ⟨n, hn, hbits⟩ := and63 n0
  have CO : Hid (∀ v W, EntsAt W v (manyL wide n) → Below w.heap.size w W → Calls Tryd.prog 9 #[v] W fun e w' => (∃ u, e = .returned (.tuple #[u, .int .i64 (compT (manyS wide n ++ [dflt0])).2]) ∧ w'.ownsRow W.heap.size 35 28 u (compT (manyS wide n ++ [dflt0])).1.length (gcells ruleV (compT (manyS wide n ++ [dflt0])).1)) ∧ Below W.heap.size W w') := fun v W h1 h2 => by
    refine (compile_any (manyL wide n) (manyL_32 wide n) (by rw [manyL_len]; omega) v W h1 (hP.later hP.pos h2)).mono ?_
    rintro e w' ⟨⟨R, hR, h3⟩, h4⟩
    rw [many_rows_one hR] at h3
    exact ⟨h3, h4⟩
  have CC := many_comp wide n (by omega)
  obtain ⟨CT, hCT⟩ : ∃ C, C = compT (manyS wide n ++ [dflt0]) := ⟨_, rfl⟩
  have HCK : Hid (∀ r ∈ CT.1, okR8 r) := by rw [hCT]; exact comp_ok _
  rw [← hCT] at CO CC
  have HCC : Hid (if 512 < wantN wide n then CT = ([], 16) else CT.2 = 0 ∧ CT.1.length = wantN wide n ∧ ∀ (k : Nat) (r : RuleM), CT.1[k]? = some r → r.order = (k : Int)) := CC
  have HBD : ∀ W, (Instr.build 47 #[(0, .bool true)]).run Tryd.prog W = .ok (.agg (entV dflt0)) W := build_dflt
  clear hP CC hCT
  go_enter Tryd.func6, Tryd.ntmps6
  go_wp2_with fail
  refine (AW.out _ (Below.refl _ _)).mono ?_
  rintro e w1 ⟨rfl, hb1⟩
  have B1 : Hid (Below w.heap.size w w1) := hb1
  clear hb1 AW
  go_wp2_with (first
    | (refine wl_buildEnt rfl _ rfl #[(0, .bool true)] rfl _ build_dflt ?_)
    | (refine wl_buildE (E := EntE) EntOk rfl _ rfl (entV dflt0) rfl rfl ?_))
  go_loopw [5, 6] (fun v i wr => ∃ k : Nat, k ≤ n ∧ i = .int .i64 (k : Int) ∧ wr.ownsRow w.heap.size 47 12 v (manyL wide k).length (gcells entV (manyL wide k)) ∧ Below w.heap.size w wr) (fun _ i _ => n - (intOf i).toNat)
  case atStart => exact ⟨0, Nat.zero_le _, rfl, own_base (own_dflt w1) B1.out.size, B1.out.alloc B1.out.size _⟩
  case round =>
    obtain ⟨k, hk, rfl, ho, hb⟩ := hrel
    have HO : Hid (wr.ownsRow w.heap.size 47 12 u5 (manyL wide k).length (gcells entV (manyL wide k))) := ho
    have HB : Hid (Below w.heap.size w wr) := hb
    have HLN : Hid ((manyL wide k).length ≤ 100000) := by rw [manyL_len]; exact (by omega : k + 1 ≤ 100000)
    clear ho hb
    by_cases hlt : k < n
    · have hlt' : (k : Int) < (n : Int) := by omega
      cases wide with
      | true =>
        have KN : Hid ((wr.alloc (.cells (entV (manyE true k)) 47)).heap[wr.heap.size]? = some (.cells (entV (manyE true k)) 47 (0, 0))) := heap_new _ _ _ rfl
        have BA : Hid (Below wr.heap.size wr (wr.alloc (.cells (entV (manyE true k)) 47))) := (Below.refl _ _).alloc (Nat.le_refl _) _
        have BB : Hid (Below w.heap.size w ((wr.alloc (.cells (entV (manyE true k)) 47)).alloc (.cells (entV (manyE true k)) 47))) := (HB.out.trans (BA.out.mono HB.out.size)).alloc (HB.out.trans (BA.out.mono HB.out.size)).size _
        have P1 : Hid (((wr.alloc (.cells (entV (manyE true k)) 47)).alloc (.cells (entV (manyE true k)) 47)).ownsRow w.heap.size 47 12 u5 (manyL true k).length (gcells entV (manyL true k))) := (gown_below HO.out BA.out).alloc _
        go_wp2_with (first
          | (refine wl_buildEnt rfl _ rfl #[(1, .int .i64 (k : Int)), (6, .int .i64 1), (7, .int .i64 6), (8, .int .i64 1), (9, .int .i64 6), (10, .int .i64 (k : Int)), (11, .int .i64 1)] rfl _ (build_many k) ?_)
          | (refine wl_storeE (E := EntE) EntOk rfl _ _ rfl wr.heap.size (entV (manyE true k)) (ent_fits _) rfl rfl _ (heap_new _ _ _ rfl) rfl _ (setRow_new _ _ _ _ _ rfl) ?_)
          | (refine wl_loadE (E := EntE) EntOk rfl _ rfl wr.heap.size 0 rfl _ _ _ (entV (manyE true k)) rfl KN.out (own_cells _ _) ?_)
          | (refine wl_buildE (E := EntE) EntOk rfl _ rfl (entV (manyE true k)) rfl rfl ?_)
          | (at_builtin; refine of_stopT ?_))
        unfold StopT
        refine wl_appendE (E := EntE) EntOk entV rfl _ _ rfl w.heap.size u5 (manyL true k) (manyE true k) (ent_fits _) rfl P1.out (wr.heap.size + 1) 1 rfl (heap_new _ _ _ (by simp)) (by have := HLN.out; omega) (by have := HB.out.size; simp; omega) ?_
        intro v' w3 hown3 hgr3 hv'
        have B3 : Hid (Below w.heap.size w w3) := BB.out.trans ((Below.refl _ _).grown hgr3 BB.out.size fun k hk => (P1.out.lt k hk).1)
        have O3 : Hid (w3.ownsRow w.heap.size 47 12 v' (manyL true k ++ [manyE true k]).length (gcells entV (manyL true k ++ [manyE true k]))) := hown3
        clear hown3 hgr3 hv'
        simp only [Act.put, List.setIfInBounds_toArray, List.set_cons_succ, List.set_cons_zero]
        go_wp2_with fail
        go_roundw
        case rel => exact ⟨k + 1, by omega, by go_num, by rw [manyL_next]; exact O3.out, B3.out⟩
        case measure => simp [intOf]; omega
      | false =>
        have KN : Hid ((wr.alloc (.cells ((entV (manyE true k)).setIfInBounds 10 (.int .i64 (-1))) 47)).heap[wr.heap.size]? = some (.cells (entV (manyE false k)) 47 (0, 0))) := heap_new _ _ _ rfl
        have BA : Hid (Below wr.heap.size wr (wr.alloc (.cells ((entV (manyE true k)).setIfInBounds 10 (.int .i64 (-1))) 47))) := (Below.refl _ _).alloc (Nat.le_refl _) _
        have BB : Hid (Below w.heap.size w ((wr.alloc (.cells ((entV (manyE true k)).setIfInBounds 10 (.int .i64 (-1))) 47)).alloc (.cells (entV (manyE false k)) 47))) := (HB.out.trans (BA.out.mono HB.out.size)).alloc (HB.out.trans (BA.out.mono HB.out.size)).size _
        have P1 : Hid (((wr.alloc (.cells ((entV (manyE true k)).setIfInBounds 10 (.int .i64 (-1))) 47)).alloc (.cells (entV (manyE false k)) 47)).ownsRow w.heap.size 47 12 u5 (manyL false k).length (gcells entV (manyL false k))) := (gown_below HO.out BA.out).alloc _
        have hcell : (wr.alloc (.cells (entV (manyE true k)) 47)).cell? ⟨wr.heap.size, 10, none⟩ = some (.int .i64 (k : Int)) := by
          rw [cell_of_row _ _ _ _ _ _ (heap_new wr _ _ rfl)]; rfl
        have hfr : (wr.alloc (.cells (entV (manyE true k)) 47)).frozen? ⟨wr.heap.size, 10, none⟩ = false := by
          have h : (wr.alloc (.cells (entV (manyE true k)) 47)).heap[wr.heap.size]? = some (.cells (entV (manyE true k)) 47 (0, 0)) := heap_new _ _ _ rfl
          simp only [World.frozen?, h]; rfl
        go_wp2_with (first
          | (refine wl_buildEnt rfl _ rfl #[(1, .int .i64 (k : Int)), (6, .int .i64 1), (7, .int .i64 6), (8, .int .i64 1), (9, .int .i64 6), (10, .int .i64 (k : Int)), (11, .int .i64 1)] rfl _ (build_many k) ?_)
          | (refine wl_storeE (E := EntE) EntOk rfl _ _ rfl wr.heap.size (entV (manyE true k)) (ent_fits _) rfl rfl _ (heap_new _ _ _ rfl) rfl _ (setRow_new _ _ _ _ _ rfl) ?_)
          | (refine wl_loadE (E := EntE) EntOk rfl _ rfl wr.heap.size 0 rfl _ _ _ (entV (manyE false k)) rfl KN.out (own_cells _ _) ?_)
          | (refine wl_buildE (E := EntE) EntOk rfl _ rfl (entV (manyE false k)) rfl rfl ?_)
          | (at_builtin; refine of_stopT ?_))
        unfold StopT
        refine wl_appendE (E := EntE) EntOk entV rfl _ _ rfl w.heap.size u5 (manyL false k) (manyE false k) (ent_fits _) rfl P1.out (wr.heap.size + 1) 1 rfl (heap_new _ _ _ (by simp)) (by have := HLN.out; omega) (by have := HB.out.size; simp; omega) ?_
        intro v' w3 hown3 hgr3 hv'
        have B3 : Hid (Below w.heap.size w w3) := BB.out.trans ((Below.refl _ _).grown hgr3 BB.out.size fun k hk => (P1.out.lt k hk).1)
        have O3 : Hid (w3.ownsRow w.heap.size 47 12 v' (manyL false k ++ [manyE false k]).length (gcells entV (manyL false k ++ [manyE false k]))) := hown3
        clear hown3 hgr3 hv'
        simp only [Act.put, List.setIfInBounds_toArray, List.set_cons_succ, List.set_cons_zero]
        go_wp2_with fail
        go_roundw
        case rel => exact ⟨k + 1, by omega, by go_num, by rw [manyL_next]; exact O3.out, B3.out⟩
        case measure => simp [intOf]; omega
    · have hlt' : ¬ (k : Int) < (n : Int) := by omega
      have HKN : Hid (k = n) := by show k = n; omega
      go_wp2_with fail
      refine (CO.out _ _ (gsl_of (E := EntE) (by have := HO.out; rw [HKN.out] at this; exact this) fun c _ => rfl) HB.out).mono ?_
      rintro e w2 ⟨⟨u, rfl, ho2⟩, hb2⟩
      have B2 : Hid (Below w.heap.size w w2) := HB.out.trans (hb2.mono HB.out.size)
      have U2 : Hid (RulesAt w2 u CT.1) := gsl_of (E := RuleE) ho2 fun c hc => ruleV_size (HCK.out c hc)
      obtain ⟨ot, ct, rfl⟩ := gown_slice ho2
      clear ho2 hb2
      by_cases hbig : 512 < wantN wide n
      · have h1 := HCC.out
        rw [if_pos hbig] at h1
        subst h1
        clear HCC HCK U2 CO HO
        rw [show (([], 16) : List RuleM × Int).1.length = 0 from rfl]
        cases wide with
        | false => exact absurd hbig (by unfold wantN; simp; omega)
        | true =>
          have hb1 : (512 : Int) < 16 * (n : Int) + 1 := by unfold wantN at hbig; simp at hbig; omega
          clear hbig hlt hlt' HKN hk
          go_wp2_with fail
          go_ret
          exact ⟨rfl, B2.out⟩
      · have h1 := HCC.out
        rw [if_neg hbig] at h1
        obtain ⟨c1, c2, c3⟩ := h1
        obtain ⟨q, hq⟩ : ∃ q, q + 1 = wantN wide n := by
          cases wide
          · exact ⟨min n 1 * 16, rfl⟩
          · exact ⟨16 * n, rfl⟩
        have hq5 : q + 1 ≤ 512 := by omega
        obtain ⟨g, off, cur, ty, fr, r, rfl, hg, hc, hr⟩ := U2.out.at q (by omega)
        have hord := c3 q r hr
        have hrk := HCK.out r (List.mem_of_getElem? hr)
        have hcell : w2.cell? ⟨g, off + q * 28, none⟩ = some (.int .i64 (q : Int)) := by
          rw [cell_of_row _ _ _ _ _ _ hg]
          have h2 : cur[off + q * 28]? = (ruleV r)[0]? := hc 0 (by decide)
          rw [h2, (rule_at hrk).1, hord]
        rw [c2, ← hq, c1]
        have HC2 : Hid (w2.cell? ⟨g, off + q * 28, none⟩ = some (.int .i64 (q : Int))) := hcell
        have d1 : ((q + 1 : Nat) : Int) - 1 = (q : Int) := by omega
        have d2 : ¬ (512 : Int) < ((q + 1 : Nat) : Int) := by omega
        have d3 : (q : Int) < ((q + 1 : Nat) : Int) := by omega
        have d4 : (q : Int) + 1 = ((q + 1 : Nat) : Int) := by omega
        cases wide with
        | true =>
          have e1 : (16 : Int) * (n : Int) = (q : Int) := by have := hq; unfold wantN at this; simp at this; omega
          clear hbig hlt hlt' HKN hk c1 c2 c3 hq HCC HCK U2 CO HO hg hc hr hord hrk HC2
          generalize ((q + 1 : Nat)) = nT at *
          go_wp2_with fail
          go_ret
          exact ⟨rfl, B2.out⟩
        | false =>
          obtain ⟨m, hm⟩ : ∃ m, m = min n 1 := ⟨_, rfl⟩
          have HM : Hid ((m : Int) = min (n : Int) 1) := (by omega : (m : Int) = min (n : Int) 1)
          have hm1 : m ≤ 1 := by omega
          have e1 : (m : Int) * 16 = (q : Int) := by have := hq; unfold wantN at this; simp at this; omega
          clear hbig hlt hlt' HKN hk c1 c2 c3 hq HCC HCK U2 CO HO hg hc hr hord hrk HC2 hm
          generalize ((q + 1 : Nat)) = nT at *
          go_wp2_with (refine wl_min7 rfl _ _ rfl (n : Int) 1 (m : Int) rfl rfl HM.out ?_)
          go_ret
          exact ⟨rfl, B2.out⟩
end Go.Proofs.YtnbklmmampdbfaaDoor
