import Derived.Test.YthddlchkbnmcaaaGreatDoorJ45
import Derived.Test.YthddlchkbnmcaaaGreatDoorJ39
import Derived.Test.YthddlchkbnmcaaaGreatDoorJ30
import Derived.Test.YthddlchkbnmcaaaGreatDoorJ36
import Derived.Test.YthddlchkbnmcaaaGreatDoorJ23
import Derived.Test.YthddlchkbnmcaaaGreatDoorJ19
import Derived.Test.YthddlchkbnmcaaaGreatDoorJ44
import Derived.Test.YthddlchkbnmcaaaGreatDoorJ7
namespace Go.Proofs.YthddlchkbnmcaaaGreatDoor
open Go Go.RowKit
set_option maxRecDepth 20000

/-- Each rule with its place. -/
def renum (T : List RuleM) : List RuleM := T.zipIdx.map fun q => ⟨(q.2 : Int), q.1.cube, q.1.action⟩
def renumTo (T : List RuleM) (k : Nat) : List RuleM := renum (T.take k) ++ T.drop k
theorem renum_len (T : List RuleM) : (renum T).length = T.length := by simp [renum]
theorem renumTo_all (T : List RuleM) : renumTo T T.length = renum T := by simp [renumTo]
theorem renumTo_len (T : List RuleM) (k : Nat) : (renumTo T k).length = T.length := by
  unfold renumTo
  rw [List.length_append, renum_len, List.length_take, List.length_drop]
  omega
theorem renum_snoc (T : List RuleM) (r : RuleM) : renum (T ++ [r]) = renum T ++ [⟨(T.length : Int), r.cube, r.action⟩] := by
  unfold renum
  rw [List.zipIdx_append, List.map_append]
  simp
theorem renumTo_next {T : List RuleM} {k : Nat} {r : RuleM} (h : T[k]? = some r) : renumTo T (k + 1) = (renumTo T k).set k ⟨(k : Int), r.cube, r.action⟩ := by
  obtain ⟨hk, rfl⟩ := List.getElem?_eq_some_iff.1 h
  unfold renumTo
  rw [List.take_succ_eq_append_getElem hk, renum_snoc, List.length_take, show min k T.length = k by omega, List.set_append_right _ _ (by rw [renum_len, List.length_take]; omega), renum_len, List.length_take, show k - min k T.length = 0 by omega]
  rw [show T.drop k = T[k] :: T.drop (k + 1) from List.drop_eq_getElem_cons hk, List.set_cons_zero]
  simp
theorem renumTo_at {T : List RuleM} {k : Nat} {r : RuleM} (h : T[k]? = some r) : (renumTo T k)[k]? = some r := by
  obtain ⟨hk, rfl⟩ := List.getElem?_eq_some_iff.1 h
  unfold renumTo
  rw [List.getElem?_append_right (by rw [renum_len, List.length_take]; omega), renum_len, List.length_take, show k - min k T.length = 0 by omega, List.getElem?_drop]
  exact h
theorem ok_renum {T : List RuleM} (h : ∀ r ∈ T, okR8 r) : ∀ r ∈ renum T, okR8 r := fun r hr => by
  unfold renum at hr
  obtain ⟨q, hq, rfl⟩ := List.mem_map.1 hr
  have := List.mem_zipIdx hq
  exact h q.1 (by rw [this.2.2]; exact List.getElem_mem _)
theorem ok_renumTo {T : List RuleM} (h : ∀ r ∈ T, okR8 r) (k : Nat) : ∀ r ∈ renumTo T k, okR8 r := fun r hr => by
  unfold renumTo at hr
  rcases List.mem_append.1 hr with hr | hr
  · exact ok_renum (fun q hq => h q (List.mem_of_mem_take hq)) r hr
  · exact h r (List.mem_of_mem_drop hr)
theorem ok_trim {l : List RuleM} (h : ∀ r ∈ l, okR8 r) : ∀ r ∈ trimT l, okR8 r := fun r hr => by
  rcases trimO_sub withinR l [] r hr with h1 | h1
  · simp at h1
  · exact h r h1
/-- What a list's rows are compiled to, and the error. -/
def compT (R : List Ent) : List RuleM × Int := if 2048 < (pairsT R).length then ([], 16) else if 512 < (trimT (rulesOf (pairsT R))).length then ([], 16) else (renum (trimT (rulesOf (pairsT R))), 0)

theorem gcells_set {α : Type} {enc : α → Array Value} {s : Nat} {C : List α} (hC : ∀ c ∈ C, (enc c).size = s) {k : Nat} {c' : α} (hc' : (enc c').size = s) (t : Nat) (ht : t < C.length * s) :
    (gcells enc (C.set k c'))[t]? = if t / s = k then (enc c')[t % s]? else (gcells enc C)[t]? := by
  have s0 : 0 < s := by
    rcases Nat.eq_zero_or_pos s with h | h
    · subst h; simp at ht
    · exact h
  have hi : t / s < C.length := (Nat.div_lt_iff_lt_mul s0).2 ht
  have hj : t % s < s := Nat.mod_lt _ s0
  have h1 := gcells_at enc s (C.set k c') (fun c hc => by
    rcases List.mem_or_eq_of_mem_set hc with h | rfl
    · exact hC c h
    · exact hc') (t / s) (by rw [List.length_set]; exact hi) (t % s) hj
  rw [Nat.div_add_mod] at h1
  rw [h1, List.getElem_set]
  by_cases h : t / s = k
  · rw [if_pos h, if_pos h.symm]
  · rw [if_neg h, if_neg (fun e => h e.symm)]
    have h2 := gcells_at enc s C hC (t / s) hi (t % s) hj
    rw [Nat.div_add_mod] at h2
    exact h2.symm
/-- A field of an element of one's own row is set. -/
theorem own_setField {α : Type} {enc : α → Array Value} {w : World} {B : Nat} {e : TypeId} {s : Nat} {g n cap : Nat} {C : List α} (h : w.ownsRow B e s (.slice (some ⟨g, 0, none⟩) n cap) C.length (gcells enc C)) (hC : ∀ c ∈ C, (enc c).size = s) {k : Nat} {c' : α} (hk : k < C.length) (hc' : (enc c').size = s) (v : Value)
    (h0 : (enc c')[0]? = some v) (hq : ∀ q, 0 < q → q < s → (enc c')[q]? = (enc C[k])[q]?) : (w.setCell ⟨g, k * s, none⟩ v).ownsRow B e s (.slice (some ⟨g, 0, none⟩) n cap) (C.set k c').length (gcells enc (C.set k c')) := by
  obtain ⟨h1, ⟨h2, _⟩ | ⟨g', cap', cur, h2, hB, hcur, h5, h6, h7, h4⟩⟩ := h
  · cases h2
  · simp only [Value.slice.injEq, Option.some.injEq, Addr.mk.injEq] at h2
    obtain ⟨⟨rfl, _⟩, hnn, rfl⟩ := h2
    have s0 : 0 < s := by
      have := hC C[k] (List.getElem_mem _)
      rcases Nat.eq_zero_or_pos s with h | h
      · subst h
        have h8 := (Array.getElem?_eq_some_iff.1 h0).1
        omega
      · exact h
    have hks : k * s < C.length * s := Nat.mul_lt_mul_of_pos_right hk s0
    refine ⟨?_, .inr ⟨g, cap, cur.setIfInBounds (k * s) v, by rw [List.length_set, hnn], hB, ?_, by rw [List.length_set]; exact h5, h6, by rw [Array.size_setIfInBounds]; exact h7, ?_⟩⟩
    · have : ∀ D : List α, (∀ c ∈ D, (enc c).size = s) → (gcells enc D).length = D.length * s := by
        intro D
        induction D with
        | nil => intro _; simp [gcells]
        | cons c D ih => intro hD; rw [gcells_cons, List.length_append, ih (fun d hd => hD d (by simp [hd])), Array.length_toList, hD c (by simp), List.length_cons, Nat.add_mul, Nat.one_mul, Nat.add_comm]
      exact this _ fun c hc => by
        rcases List.mem_or_eq_of_mem_set hc with h | rfl
        · exact hC c h
        · exact hc'
    · simp [World.setCell, Array.getElem?_modify, hcur]
    · apply List.ext_getElem?
      intro t
      rw [List.length_set]
      by_cases ht : t < C.length * s
      · rw [List.getElem?_take_of_lt ht, gcells_set hC hc' t ht, ← h4, List.getElem?_take_of_lt ht, Array.getElem?_toList, Array.getElem?_toList, Array.getElem?_setIfInBounds]
        by_cases e : k * s = t
        · subst e
          rw [if_pos rfl, if_pos (Nat.mul_div_cancel k s0), Nat.mul_mod_left, h0, if_pos]
          have hcap : C.length * s ≤ cap * s := Nat.mul_le_mul_right s h5
          omega
        · rw [if_neg e]
          by_cases e2 : t / s = k
          · rw [if_pos e2]
            have hm := Nat.div_add_mod t s
            rw [e2] at hm
            have hj : t % s < s := Nat.mod_lt _ s0
            rw [hq (t % s) (by rw [Nat.mul_comm] at hm; omega) hj]
            have h8 := gcells_at enc s C hC k hk (t % s) hj
            rw [hm, ← h4, List.getElem?_take_of_lt ht, Array.getElem?_toList] at h8
            exact h8
          · rw [if_neg e2]
      · rw [List.getElem?_take_eq_none (by omega), List.getElem?_eq_none]
        have hl : (gcells enc (C.set k c')).length = C.length * s := by
          have : ∀ D : List α, (∀ c ∈ D, (enc c).size = s) → (gcells enc D).length = D.length * s := by
            intro D
            induction D with
            | nil => intro _; simp [gcells]
            | cons c D ih => intro hD; rw [gcells_cons, List.length_append, ih (fun d hd => hD d (by simp [hd])), Array.length_toList, hD c (by simp), List.length_cons, Nat.add_mul, Nat.one_mul, Nat.add_comm]
          rw [this _ fun c hc => by
            rcases List.mem_or_eq_of_mem_set hc with h | rfl
            · exact hC c h
            · exact hc', List.length_set]
        omega
theorem rule_set {r : RuleM} (h : okR8 r) (v : Int) : (ruleV ⟨v, r.cube, r.action⟩)[0]? = some (.int .i64 v) ∧ ∀ q, 0 < q → q < 28 → (ruleV ⟨v, r.cube, r.action⟩)[q]? = (ruleV r)[q]? := by
  have h' : okR8 ⟨v, r.cube, r.action⟩ := h
  refine ⟨(rule_at h').1, fun q h0 h1 => ?_⟩
  by_cases e : q = 27
  · subst e
    rw [(rule_at h').2.2, (rule_at h).2.2]
  · obtain ⟨j, rfl⟩ : ∃ j, q = 1 + j := ⟨q - 1, by omega⟩
    rw [(rule_at h').2.1 j (by omega), (rule_at h).2.1 j (by omega)]

/-- What Compile answers. -/
def CompR (B : Nat) (w : World) (R : List Ent) (e : Ending) : Prop :=
  ∃ u, e = .returned (.tuple #[u, .int .i64 (compT R).2]) ∧ w.ownsRow B 39 28 u (compT R).1.length (gcells ruleV (compT R).1)
theorem comp_ok (R : List Ent) : ∀ r ∈ (compT R).1, okR8 r := fun r hr => by
  unfold compT at hr
  split at hr
  · simp at hr
  · split at hr
    · simp at hr
    · exact ok_renum (ok_trim (okQ_rules (okQ_pairs R))) r hr

set_option maxHeartbeats 16000000 in
set_option maxRecDepth 100000 in
theorem compile_any (l : List Ent) (h32 : ∀ x ∈ l, ent32 x) (hn : l.length ≤ 100000) (vl : Value) (w : World) (hl : EntsAt w vl l) (hP : Places w) :
    Calls Tryz.prog 9 #[vl] w fun e w' => (∃ R, RowsOf l R ∧ CompR w.heap.size w' R e) ∧ Below w.heap.size w w' := by
  have EX : Hid (Calls Tryz.prog 6 #[vl, .int .i64 2048] w fun e w' => (∃ R, RowsOf l R ∧ ExpR w.heap.size w' R 2048 e) ∧ Below w.heap.size w w') := expand_any l h32 hn 2048 vl w hl hP
  have TR : Hid (∀ (L : List RuleM) v W, (∀ r ∈ L, okR8 r) → L.length ≤ 100000 → RulesAt W v L → Calls Tryz.prog 20 #[v] W fun e w' => (∃ v, e = .returned v ∧ w'.ownsRow W.heap.size 39 28 v (trimT L).length (gcells ruleV (trimT L))) ∧ Below W.heap.size W w') := fun L v W h1 h2 h3 => trim_any L h1 h2 v W h3
  clear h32 hl hP
  go_enter Tryz.func9, Tryz.ntmps9
  go_wp2_with fail
  refine EX.out.mono ?_
  rintro e w1 ⟨⟨R, hR, hE⟩, hb1⟩
  have HR : Hid (RowsOf l R) := hR
  have B1 : Hid (Below w.heap.size w w1) := hb1
  clear EX hR hb1
  rw [show ExpR w.heap.size w1 R 2048 e = ((∃ u, e = .returned (.tuple #[u, .int .i64 0]) ∧ (pairsT R).length ≤ 2048 ∧ w1.ownsRow w.heap.size 39 28 u (rulesOf (pairsT R)).length (gcells ruleV (rulesOf (pairsT R)))) ∨ (e = .returned (.tuple #[.slice none 0 0, .int .i64 4]) ∧ 2048 < (pairsT R).length)) from rfl] at hE
  rcases hE with ⟨u, rfl, hle, hown⟩ | ⟨rfl, hmany⟩
  · have HLE : Hid ((pairsT R).length ≤ 2048) := hle
    have HK : Hid (∀ r ∈ rulesOf (pairsT R), okR8 r) := okQ_rules (okQ_pairs R)
    have RA : Hid (RulesAt w1 u (rulesOf (pairsT R))) := gsl_of (E := RuleE) hown fun c hc => ruleV_size (HK.out c hc)
    have HL2 : Hid ((rulesOf (pairsT R)).length ≤ 100000) := by show _ ≤ _; rw [rulesOf_len]; omega
    obtain ⟨o1, c1, rfl⟩ := gown_slice hown
    clear hle hown
    go_wp2_with fail
    refine (TR.out _ _ _ HK.out HL2.out RA.out).mono ?_
    rintro e w2 ⟨⟨v, rfl, ho2⟩, hb2⟩
    have B2 : Hid (Below w.heap.size w w2) := B1.out.trans (hb2.mono B1.out.size)
    obtain ⟨T, hT⟩ : ∃ T, T = trimT (rulesOf (pairsT R)) := ⟨_, rfl⟩
    rw [← hT] at ho2
    have HT : Hid (T = trimT (rulesOf (pairsT R))) := hT
    have HTK : Hid (∀ r ∈ T, okR8 r) := by rw [hT]; exact ok_trim HK.out
    have O2 : Hid (w2.ownsRow w.heap.size 39 28 v T.length (gcells ruleV T)) := gown_base ho2 B1.out.size
    have HTL : Hid (T.length ≤ 2048) := by
      show _ ≤ _
      have h1 := trimO_len withinR (rulesOf (pairsT R)) []
      have h2 := HLE.out
      rw [rulesOf_len, List.length_nil] at h1
      rw [hT]
      unfold trimT
      omega
    obtain ⟨o2, c2, rfl⟩ := gown_slice ho2
    obtain ⟨nT, hnT⟩ : ∃ n, n = T.length := ⟨_, rfl⟩
    have HNT : Hid (nT = T.length) := hnT
    have hnT2 : nT ≤ 2048 := by rw [hnT]; exact HTL.out
    rw [← hnT] at O2 ⊢
    clear ho2 hb2 hT hnT
    by_cases hbig : 512 < nT
    · have hbig' : (512 : Int) < (nT : Int) := by omega
      have HC : Hid (compT R = ([], 16)) := by
        show _ = _
        unfold compT
        rw [if_neg (by have := HLE.out; omega), if_pos (by rw [← HT.out, ← HNT.out]; exact hbig)]
      go_wp2_with fail
      go_ret2
      refine ⟨⟨R, HR.out, _, by rw [HC.out]; rfl, ?_⟩, B2.out⟩
      rw [HC.out]
      exact World.ownsRow_nil _ _ _ _
    · have hbig' : ¬ (512 : Int) < (nT : Int) := by omega
      have HC : Hid (compT R = (renum T, 0)) := by
        show _ = _
        unfold compT
        rw [if_neg (by have := HLE.out; omega), if_neg (by rw [← HT.out, ← HNT.out]; exact hbig), ← HT.out]
      have O3 : Hid (w2.ownsRow w.heap.size 39 28 (.slice o2 nT c2) (renumTo T 0).length (gcells ruleV (renumTo T 0))) := by
        have := O2.out
        rw [HNT.out] at this ⊢
        have e0 : renumTo T 0 = T := by simp [renumTo, renum]
        rw [e0]
        exact this
      clear O2 hbig
      go_wp2_with fail
      go_loopw [7, 22] (fun v i wr => ∃ (k : Nat) (z : Value), k ≤ nT ∧ i = .int .i64 (k : Int) ∧ v = z ∧ wr.ownsRow w.heap.size 39 28 (.slice o2 nT c2) (renumTo T k).length (gcells ruleV (renumTo T k)) ∧ Below w.heap.size w wr) (fun _ i _ => nT - (intOf i).toNat)
      case atStart => exact ⟨0, _, Nat.zero_le _, rfl, rfl, O3.out, B2.out⟩
      case round =>
        clear O3 B2
        obtain ⟨k, z, hk, rfl, rfl, ho, hb⟩ := hrel
        have HO : Hid (wr.ownsRow w.heap.size 39 28 (.slice o2 nT c2) (renumTo T k).length (gcells ruleV (renumTo T k))) := ho
        have HB : Hid (Below w.heap.size w wr) := hb
        clear ho hb
        by_cases hlt : k < nT
        · have hlt' : (k : Int) < (nT : Int) := by omega
          obtain ⟨r, hr⟩ : ∃ r, T[k]? = some r := ⟨_, List.getElem?_eq_getElem (by rw [← HNT.out]; exact hlt)⟩
          have hrok : okR8 r := HTK.out r (List.mem_of_getElem? hr)
          have hk2 : k < (renumTo T k).length := by rw [renumTo_len, ← HNT.out]; exact hlt
          have hrk : (renumTo T k)[k] = r := by
            have := renumTo_at hr
            rw [List.getElem?_eq_getElem hk2] at this
            exact Option.some.inj this
          have hall : ∀ c ∈ renumTo T k, (ruleV c).size = 28 := fun c hc => ruleV_size (ok_renumTo HTK.out k c hc)
          obtain ⟨_, ⟨h2, _⟩ | ⟨g, cap', cur, h2, hB, hcur, h5, h6, h7, h4⟩⟩ := id HO.out
          · simp only [Value.slice.injEq] at h2
            omega
          · simp only [Value.slice.injEq] at h2
            obtain ⟨rfl, _, rfl⟩ := h2
            have hcell : wr.cell? ⟨g, k * 28, none⟩ = some (.int .i64 r.order) := by
              rw [cell_of_row _ _ _ _ _ _ hcur]
              have h8 := gcells_at ruleV 28 (renumTo T k) hall k hk2 0 (by decide)
              rw [← h4, List.getElem?_take_of_lt (by have := Nat.mul_lt_mul_of_pos_right hk2 (show 0 < 28 by decide); omega), Array.getElem?_toList, hrk, (rule_at hrok).1, Nat.add_zero, Nat.mul_comm] at h8
              exact h8
            have hfr : wr.frozen? ⟨g, k * 28, none⟩ = false := by simp [World.frozen?, hcur]
            have OS : Hid ((wr.setCell ⟨g, k * 28, none⟩ (.int .i64 (k : Int))).ownsRow w.heap.size 39 28 (.slice (some ⟨g, 0, none⟩) nT c2) (renumTo T (k + 1)).length (gcells ruleV (renumTo T (k + 1)))) := by
              rw [renumTo_next hr]
              exact own_setField HO.out hall hk2 (ruleV_size (show okR8 ⟨(k : Int), r.cube, r.action⟩ from hrok)) _ (rule_set hrok _).1 (fun q q0 q1 => by rw [hrk]; exact (rule_set hrok _).2 q q0 q1)
            have BS : Hid (Below w.heap.size w (wr.setCell ⟨g, k * 28, none⟩ (.int .i64 (k : Int)))) := HB.out.setCell (p := ⟨g, k * 28, none⟩) hB _
            clear hcur h4 hall hrk hr hrok hk2 h5 h6 h7
            go_wp2_with fail
            go_roundw
            case rel => exact ⟨k + 1, _, by omega, by go_num, rfl, OS.out, BS.out⟩
            case measure => simp [intOf]; omega
        · have hlt' : ¬ (k : Int) < (nT : Int) := by omega
          have HE : Hid (renumTo T k = renum T) := by
            have e := HNT.out
            show _ = _
            rw [show k = T.length by omega, renumTo_all]
          go_wp2_with fail
          go_ret2
          refine ⟨⟨R, HR.out, _, by rw [HC.out]; rfl, ?_⟩, HB.out⟩
          rw [HC.out, ← HE.out]
          exact HO.out
  · have HC : Hid (compT R = ([], 16)) := by
      show _ = _
      unfold compT
      rw [if_pos hmany]
    clear hmany
    go_wp2_with fail
    go_ret2
    refine ⟨⟨R, HR.out, _, by rw [HC.out]; rfl, ?_⟩, B1.out⟩
    rw [HC.out]
    exact World.ownsRow_nil _ _ _ _
end Go.Proofs.YthddlchkbnmcaaaGreatDoor
namespace Go.Proofs.YthddlchkbnmcaaaGreatDoor
open Go Go.RowKit
set_option maxRecDepth 20000

/-! The table means the policy: mathematics alone. -/
theorem hasL_cross8 (A B : List CubeT) (H : List Int) : hasL (crossL A B) H = (hasL A H && hasL B H) := by
  unfold hasL
  rw [Bool.eq_iff_iff, Bool.and_eq_true, List.any_eq_true, List.any_eq_true, List.any_eq_true]
  constructor
  · rintro ⟨c, hc, h⟩
    unfold crossL at hc
    rw [List.mem_flatMap] at hc
    obtain ⟨a, ha, hd⟩ := hc
    unfold crossR at hd
    rw [List.mem_map] at hd
    obtain ⟨b, hb, rfl⟩ := hd
    rw [List.mem_filter] at hb
    rw [has_meet _ _ _ _ _ hb.2, Bool.and_eq_true] at h
    exact ⟨⟨a, ha, h.1⟩, ⟨b, hb.1, h.2⟩⟩
  · rintro ⟨⟨a, ha, h1⟩, ⟨b, hb, h2⟩⟩
    have hm := has_meets h1 h2
    refine ⟨(meetV a.1 a.2 b.1 b.2, meetM a.2 b.2), ?_, ?_⟩
    · unfold crossL
      rw [List.mem_flatMap]
      refine ⟨a, ha, ?_⟩
      unfold crossR
      rw [List.mem_map]
      exact ⟨b, List.mem_filter.2 ⟨hb, hm⟩, rfl⟩
    · rw [has_meet _ _ _ _ _ hm, h1, h2]; rfl
theorem hasL_all8 (H : List Int) : hasL [allC] H = true := by
  unfold hasL allC
  rw [List.any_cons, List.any_nil, Bool.or_false, has_iff]
  intro i hi hm
  rw [show bt Z i = false from mk_bt _ i hi] at hm
  cases hm
theorem hasL_fold (H : List Int) : ∀ (L : List (List CubeT)) (A : List CubeT), hasL (L.foldl crossL A) H = (hasL A H && L.all fun B => hasL B H)
  | [], A => by simp
  | B :: L, A => by rw [List.foldl_cons, hasL_fold H L, hasL_cross8, List.all_cons, Bool.and_assoc]
theorem hasL_meets8 (L : List (List CubeT)) (H : List Int) : hasL (meetsL L) H = L.all fun B => hasL B H := by
  unfold meetsL
  rw [hasL_fold, hasL_all8, Bool.true_and]
theorem fldN_eq (H : List Int) (hH : Byt H) (f : Int) : fldN H f = (fld H f : Int) := fld_eq H hH f
theorem hasL_pref8 (H : List Int) (hH : Byt H) (f : Int) (hf : f = 0 ∨ f = 1) (v n : Int) (h0 : 0 ≤ v) (h1 : v < 4294967296) : hasL (prefL f v n) H = beginsM (fldN H f) v n := by
  unfold hasL prefL
  rw [List.any_cons, List.any_nil, Bool.or_false]
  have hs := size_01 f hf
  have hk : clip8 n ≤ 32 := by unfold clip8; omega
  have := has_field H hH f v.toNat (clip8 n) (by omega) (by omega) (by rw [hs]; omega) (by omega)
  rw [hs] at this
  rw [show has (pxV f v.toNat (clip8 n)) (pxM f (clip8 n)) H = _ from this]
  unfold beginsM
  rw [show clB n = clip8 n from rfl, fldN_eq H hH, Bool.eq_iff_iff, decide_eq_true_eq, beq_iff_eq]
  obtain ⟨m, rfl⟩ : ∃ m : Nat, v = m := ⟨v.toNat, by omega⟩
  obtain ⟨k, hk2⟩ : ∃ k, k = 32 - clip8 n := ⟨_, rfl⟩
  rw [show 8 * 4 - clip8 n = k by omega]
  have e1 : ((fld H f : Nat) : Int) / 2 ^ k = ((fld H f / 2 ^ k : Nat) : Int) := by simp
  have e2 : ((m : Nat) : Int) / 2 ^ k = ((m / 2 ^ k : Nat) : Int) := by simp
  rw [e1, e2, show ((m : Int)).toNat = m from rfl]
  constructor
  · intro h; rw [h]
  · intro h; exact (Int.ofNat.inj h).symm
theorem hasL_prot8 (H : List Int) (hH : Byt H) (n : Int) : hasL (protL n) H = (n == -1 || n == fldN H 4) := by
  have hlt := fld_lt H hH 4
  rw [show 8 * sizeOfF 4 = 8 from rfl] at hlt
  unfold protL
  split
  next h => rw [hasL_all8, h]; rfl
  next h =>
    have e : (n == -1) = false := by rw [beq_eq_false_iff_ne]; exact h
    rw [e, Bool.false_or, fldN_eq H hH]
    split
    next h2 =>
      unfold hasL
      rw [List.any_cons, List.any_nil, Bool.or_false]
      show has (pxV 4 n.toNat 8) (pxM 4 8) H = _
      rw [has_proto H hH n.toNat (by omega), Bool.eq_iff_iff, decide_eq_true_eq, beq_iff_eq]
      omega
    next h2 =>
      unfold hasL
      rw [List.any_nil, eq_comm, beq_eq_false_iff_ne]
      omega
theorem hasL_port8 (H : List Int) (hH : Byt H) (f : Int) (hf : f = 2 ∨ f = 3) (l h : Int) (h0 : 0 ≤ l) (h1 : h ≤ 65535) : hasL (portP f l h) H = (decide (l ≤ fldN H f) && decide (fldN H f ≤ h)) := by
  unfold portP
  rw [show decide (f = 2 ∨ f = 3) = true from decide_eq_true hf, Bool.true_and, fldN_eq H hH]
  split
  next c => rw [hasL_ports H hH f l h hf c, Bool.decide_and]
  next c =>
    rw [isR_iff] at c
    unfold hasL
    rw [List.any_nil, Bool.eq_iff_iff, Bool.and_eq_true, decide_eq_true_eq, decide_eq_true_eq]
    constructor
    · intro h; cases h
    · intro h; omega
/-- Ports that can be. -/
def okPt (x : Ent) : Prop := x.dflt = false → 0 ≤ x.slow ∧ x.shigh ≤ 65535 ∧ 0 ≤ x.dlow ∧ x.dhigh ≤ 65535
theorem cubes_has (H : List Int) (hH : Byt H) (x : Ent) (h32 : ent32 x) (hx : okPt x) : hasL (cubesT x) H = applyT H x := by
  unfold cubesT applyT
  cases hd : x.dflt with
  | true => rw [if_pos rfl, hasL_all8]; rfl
  | false =>
    obtain ⟨p1, p2, p3, p4⟩ := hx hd
    rw [if_neg (by simp), hasL_meets8, Bool.false_or]
    unfold five8 applyR
    simp only [List.all_cons, List.all_nil, Bool.and_true]
    rw [hasL_pref8 H hH 0 (.inl rfl) _ _ h32.1.1 h32.1.2, hasL_pref8 H hH 1 (.inr rfl) _ _ h32.2.1 h32.2.2, hasL_prot8 H hH, hasL_port8 H hH 2 (.inl rfl) _ _ p1 p2, hasL_port8 H hH 3 (.inr rfl) _ _ p3 p4]
    cases beginsM (fldN H 0) x.src x.srcBits <;> cases beginsM (fldN H 1) x.dst x.dstBits <;> cases (decide (x.slow ≤ fldN H 2) && decide (fldN H 2 ≤ x.shigh)) <;> cases (decide (x.dlow ≤ fldN H 3) && decide (fldN H 3 ≤ x.dhigh)) <;> cases (x.proto == -1 || x.proto == fldN H 4) <;> rfl
theorem find_map8 {α β : Type} (g : α → β) (p : β → Bool) : ∀ l : List α, (l.map g).find? p = (l.find? fun x => p (g x)).map g
  | [] => rfl
  | x :: l => by
    rw [List.map_cons, List.find?_cons, List.find?_cons]
    cases p (g x) with
    | true => rfl
    | false => exact find_map8 g p l
theorem find_congr8 {α : Type} {p q : α → Bool} : ∀ {l : List α}, (∀ x ∈ l, p x = q x) → l.find? p = l.find? q
  | [], _ => rfl
  | x :: l, h => by
    rw [List.find?_cons, List.find?_cons, h x (by simp), find_congr8 fun y hy => h y (List.mem_cons_of_mem _ hy)]
theorem find_filter8 {α : Type} (p q : α → Bool) : ∀ l : List α, (l.filter p).find? q = l.find? fun x => p x && q x
  | [] => rfl
  | x :: l => by
    rw [List.filter_cons, List.find?_cons]
    cases hp : p x with
    | false => rw [if_neg (by simp), Bool.false_and]; exact find_filter8 p q l
    | true =>
      rw [if_pos rfl, List.find?_cons, Bool.true_and, find_filter8 p q l]
def coreR (r : RuleM) : CubeT × Int := (r.cube, r.action)
theorem core_renum (T : List RuleM) : (renum T).map coreR = T.map coreR := by
  unfold renum
  rw [List.map_map]
  rw [show (coreR ∘ fun q : RuleM × Nat => (⟨(q.2 : Int), q.1.cube, q.1.action⟩ : RuleM)) = coreR ∘ Prod.fst from rfl, ← List.map_map, List.zipIdx_map_fst]
theorem core_rules (P : List (CubeT × Int)) : (rulesOf P).map coreR = P := by
  unfold rulesOf
  rw [List.map_map]
  rw [show (coreR ∘ fun q : (CubeT × Int) × Nat => (⟨(q.2 : Int), q.1.1, q.1.2⟩ : RuleM)) = Prod.fst from rfl, List.zipIdx_map_fst]
def hasP (H : List Int) (q : CubeT × Int) : Bool := has q.1.1 q.1.2 H
theorem core_find {T T' : List RuleM} (h : T.map coreR = T'.map coreR) (H : List Int) : (T.find? (hasR H)).map coreR = (T'.find? (hasR H)).map coreR := by
  have e : ∀ L : List RuleM, (L.find? (hasR H)).map coreR = (L.map coreR).find? (hasP H) := fun L => (find_map8 coreR (hasP H) L).symm
  rw [e, e, h]
theorem look_action {T : List RuleM} {o : Option Int} {H : List Int} (h : (T.find? (hasR H)).map (fun r => r.action) = o) : (lookT T H).1.action = o.getD 0 ∧ (lookT T H).2 = o.isSome := by
  unfold lookT
  subst h
  cases T.find? (hasR H) with
  | none => exact ⟨rfl, rfl⟩
  | some r => exact ⟨rfl, rfl⟩
theorem has_within9 (V M V' M' H : List Int) (h : within V M V' M' = true) (h2 : has V M H = true) : has V' M' H = true := by
  rw [has_iff] at h2 ⊢
  rw [within_iff] at h
  intro i hi hm
  obtain ⟨h3, h4⟩ := h i hi hm
  rw [← h4]; exact h2 i hi h3
/-- The first rule that has a header: of the first row that applies. -/
theorem comp_look (R : List Ent) (H : List Int) (hH : Byt H) (h32 : ∀ x ∈ R, ent32 x) (hp : ∀ x ∈ R, okPt x) (h0 : (compT R).2 = 0) :
    ((compT R).1.find? (hasR H)).map (fun r => r.action) = (R.find? (applyT H)).map fun x => x.action := by
  have e1 : (compT R).1 = renum (trimT (rulesOf (pairsT R))) := by
    unfold compT at h0 ⊢
    split at h0
    · cases h0
    · split at h0
      · cases h0
      · rw [if_neg (by assumption), if_neg (by assumption)]
  have e2 := core_find (core_renum (trimT (rulesOf (pairsT R)))) H
  rw [trimT_go, trim_look withinR (hasR H) (fun a b h1 h2 => has_within9 _ _ _ _ _ h1 h2) _ [] (fun a ha => by simp at ha), ← trimT_go, ← e1] at e2
  have e3 : ((rulesOf (pairsT R)).find? (hasR H)).map coreR = (pairsT R).find? (hasP H) := by
    have := (find_map8 coreR (hasP H) (rulesOf (pairsT R))).symm
    rw [core_rules] at this
    exact this
  rw [e3] at e2
  have e4 : pairsT R = (R.flatMap fun x => (cubesT x).map fun c => (c, x)).map fun q => (q.1, q.2.action) := by
    unfold pairsT
    rw [List.map_flatMap]
    congr 1
    funext x
    unfold pq8
    rw [List.map_map]; rfl
  have e5 := look_expand cubesT (fun c : CubeT => has c.1 c.2 H) R
  rw [find_congr8 (p := fun x => (cubesT x).any fun c => has c.1 c.2 H) (q := applyT H) (fun x hx => cubes_has H hH x (h32 x hx) (hp x hx))] at e5
  rw [e4, find_map8] at e2
  have e6 := congrArg (Option.map fun q : CubeT × Int => q.2) e2
  rw [Option.map_map, Option.map_map] at e6
  rw [← e5, Option.map_map]
  exact e6

/-- The rows' first one that applies. -/
theorem rows_says {l R : List Ent} (h : RowsOf l R) (ap : Ent → Bool) : (saysT ap l).1 = ((R.find? fun x => x.dflt || ap x).map fun x => x.action).getD 0 ∧ (saysT ap l).2 = (R.find? fun x => x.dflt || ap x).isSome := by
  obtain ⟨S, hS, rfl⟩ := h
  have hin := bestGo_in ap l l 0 none (fun k => by rw [Nat.zero_add]) (fun j p hjp => by cases hjp)
  have hmax := bestGo_max ap l l 0 none (fun k => by rw [Nat.zero_add]) (fun k y hk => absurd hk (Nat.not_lt_zero _)) (fun j p hjp => by cases hjp)
  have hmem : ∀ x, x ∈ S ↔ x ∈ l ∧ x.dflt = false := fun x => by
    rw [hS.alike.mem, List.mem_filter, Bool.not_eq_true']
  rw [List.find?_append]
  cases hb : bestGo ap 0 none l with
  | some b =>
    obtain ⟨i, p⟩ := b
    obtain ⟨y, hy, hyp, hyd, hya⟩ := hin i p hb
    have e1 : saysT ap l = (y.action, true) := by
      unfold saysT whichT
      rw [hb]
      simp only [List.getD_eq_getElem?_getD, hy]
      rfl
    have hyS : y ∈ S := (hmem y).2 ⟨List.mem_of_getElem? hy, hyd⟩
    have e2 : S.find? (fun x => x.dflt || ap x) = some y := by
      cases hf : S.find? (fun x => x.dflt || ap x) with
      | none => exact absurd (List.find?_eq_none.1 hf y hyS) (by simp [hya])
      | some z =>
        obtain ⟨hz, A, B, hAB, hA⟩ := List.find?_eq_some_iff_append.1 hf
        have hzS : z ∈ S := by rw [hAB]; simp
        obtain ⟨hzl, hzd⟩ := (hmem z).1 hzS
        rw [hzd, Bool.false_or] at hz
        have hzp : z.prio = p := by
          obtain ⟨k, hk⟩ := List.mem_iff_getElem?.1 hzl
          obtain ⟨j', p', hj', hh⟩ := hmax k z (by rw [Nat.zero_add]; exact (List.getElem?_eq_some_iff.1 hk).1) hk hzd hz
          rw [hb] at hj'
          obtain ⟨rfl, rfl⟩ := Prod.mk.inj (Option.some.inj hj')
          have h1 : z.prio ≤ p := by omega
          have h2 : y.prio ≤ z.prio := by
            have hd := hS.desc
            rw [hAB] at hyS
            unfold Desc at hd
            rw [hAB, List.pairwise_append] at hd
            rcases List.mem_append.1 hyS with hq | hq
            · have := hA y hq; rw [hyd, hya] at this; simp at this
            · rcases List.mem_cons.1 hq with rfl | hq
              · exact Int.le_refl _
              · exact (List.pairwise_cons.1 hd.2.1).1 y hq
          omega
        have e3 : S.find? (fun x => (x.prio == p) && (x.dflt || ap x)) = some z := by
          rw [List.find?_eq_some_iff_append]
          refine ⟨by simp [hzp, hz], A, B, hAB, fun a ha => ?_⟩
          have := hA a ha
          cases hq : (a.dflt || ap a) with
          | true => rw [hq] at this; cases this
          | false => rw [Bool.and_false]; rfl
        have e4 := congrArg (List.find? fun x => x.dflt || ap x) (hS.alike p)
        rw [find_filter8, find_filter8, find_filter8] at e4
        have e5 : l.find? (fun a => !a.dflt && (a.prio == p && (a.dflt || ap a))) = some y := by
          rw [List.find?_eq_some_iff_getElem]
          have hi := (List.getElem?_eq_some_iff.1 hy).1
          have hyi := (List.getElem?_eq_some_iff.1 hy).2
          refine ⟨by simp [hyd, hya, hyp], i, hi, hyi, fun j hj => ?_⟩
          obtain ⟨a, ha⟩ : ∃ a, l[j]'(by omega) = a := ⟨_, rfl⟩
          rw [ha]
          have haj : l[j]? = some a := List.getElem?_eq_some_iff.2 ⟨by omega, ha⟩
          cases hq : (!a.dflt && (a.prio == p && (a.dflt || ap a))) with
          | false => rfl
          | true =>
            exfalso
            rw [Bool.and_eq_true, Bool.and_eq_true] at hq
            obtain ⟨q1, q2, q3⟩ := hq
            rw [Bool.not_eq_true'] at q1
            rw [q1, Bool.false_or] at q3
            obtain ⟨j', p', hj', hh⟩ := hmax j a (by omega) haj q1 q3
            rw [hb] at hj'
            obtain ⟨rfl, rfl⟩ := Prod.mk.inj (Option.some.inj hj')
            rw [beq_iff_eq] at q2
            omega
        exact (e3.symm.trans e4).trans e5
    rw [e1, e2]
    exact ⟨rfl, rfl⟩
  | none =>
    have hno : ∀ x ∈ S, (x.dflt || ap x) = false := fun x hx => by
      obtain ⟨hxl, hxd⟩ := (hmem x).1 hx
      obtain ⟨k, hk⟩ := List.mem_iff_getElem?.1 hxl
      cases ha : ap x with
      | false => rw [hxd]; rfl
      | true =>
        obtain ⟨j', p', hj', hh⟩ := hmax k x (by rw [Nat.zero_add]; exact (List.getElem?_eq_some_iff.1 hk).1) hk hxd ha
        rw [hb] at hj'
        cases hj'
    have e2 : S.find? (fun x => x.dflt || ap x) = none := List.find?_eq_none.2 fun x hx => by rw [hno x hx]; simp
    rw [e2, Option.none_or, find_filter8]
    have e3 : l.find? (fun x => x.dflt && (x.dflt || ap x)) = l.find? fun x => x.dflt := find_congr8 fun x _ => by cases x.dflt <;> simp
    rw [e3]
    unfold saysT whichT
    rw [hb]
    rcases firstD_first l 0 with ⟨k, x, h1, h2, h3, h4⟩ | ⟨h1, h2⟩
    · rw [h1, Nat.zero_add]
      have hk := List.getElem?_eq_some_iff.1 h2
      have hk1 : k < l.length := hk.1
      have e5 : l.find? (fun x => x.dflt) = some x := by
        rw [List.find?_eq_some_iff_getElem]
        refine ⟨h3, k, hk.1, hk.2, fun j hj => ?_⟩
        rw [h4 j _ hj (List.getElem?_eq_some_iff.2 ⟨by omega, rfl⟩)]; rfl
      rw [e5]
      simp only [List.getD_eq_getElem?_getD, h2]
      exact ⟨rfl, rfl⟩
    · rw [h1]
      have e5 : l.find? (fun x => x.dflt) = none := List.find?_eq_none.2 fun x hx => by
        obtain ⟨k, hk⟩ := List.mem_iff_getElem?.1 hx
        rw [h2 k x hk]; simp
      rw [e5]
      exact ⟨rfl, rfl⟩
/-- What the table's first rule says is what the list says. -/
theorem flat_means {l R : List Ent} (h : RowsOf l R) (H : List Int) (hH : Byt H) (h32 : ∀ x ∈ l, ent32 x) (hp : ∀ x ∈ l, okPt x) (h0 : (compT R).2 = 0) :
    (lookT (compT R).1 H).1.action = (saysT (applyT H) l).1 ∧ (lookT (compT R).1 H).2 = (saysT (applyT H) l).2 := by
  have e1 := comp_look R H hH (fun x hx => h32 x ((h.mem x).1 hx)) (fun x hx => hp x ((h.mem x).1 hx)) h0
  obtain ⟨e2, e3⟩ := look_action e1
  obtain ⟨e4, e5⟩ := rows_says h (applyT H)
  have e6 : (fun x : Ent => x.dflt || applyT H x) = applyT H := by
    funext x
    unfold applyT
    cases x.dflt <;> rfl
  rw [e6] at e4 e5
  rw [e2, e3, e4, e5, Option.isSome_map]
  exact ⟨rfl, rfl⟩
end Go.Proofs.YthddlchkbnmcaaaGreatDoor
namespace Go.Proofs.YthddlchkbnmcaaaGreatDoor
open Go Go.RowKit
set_option maxRecDepth 20000

def ex8A : List UInt8 := [50, 32, 100, 112, 111, 114, 116, 32, 49, 45, 50, 32, 45, 62, 32, 112, 111, 114, 116, 32, 49, 10, 53, 32, 100, 112, 111, 114, 116, 32, 49, 32, 45, 62, 32, 112, 111, 114, 116, 32, 50, 10, 100, 101, 102, 97, 117, 108, 116, 32, 45, 62, 32, 100, 114, 111, 112]
def ex8P : Ent := ⟨false, 2, 1, 0, 0, 0, 0, 0, 65535, 1, 2, -1⟩
def ex8Q : Ent := ⟨false, 5, 2, 0, 0, 0, 0, 0, 65535, 1, 1, -1⟩
def ex8D : Ent := ⟨true, 0, 0, 0, 0, 0, 0, 0, 0, 0, 0, 0⟩
def ex8E : List Ent := [ex8P, ex8Q, ex8D]
def ex8R : List Ent := [ex8Q, ex8P, ex8D]
def ex8H : List Int := [0, 0, 0, 0, 0, 0, 0, 0, 0, 0, 0, 1, 0]
def ex8M : List Int := [0, 0, 0, 0, 0, 0, 0, 0, 0, 0, 255, 255, 0]
def ex8N : List Int := [0, 0, 0, 0, 0, 0, 0, 0, 0, 0, 0, 2, 0]
def ex8O : List Int := [0, 0, 0, 0, 0, 0, 0, 0, 0, 0, 0, 0, 0]
def ex8T : List RuleM := [⟨0, (ex8H, ex8M), 2⟩, ⟨1, (ex8N, ex8M), 1⟩, ⟨2, (ex8O, ex8O), 0⟩]
theorem ex8_read : readP ex8A = (ex8E, 0, 0) := by kernel_rfl
theorem ex8_rows {R : List Ent} (h : RowsOf ex8E R) : R = ex8R := by
  refine rowsOf_one h ⟨[ex8Q, ex8P], ⟨rfl, ?_, ?_⟩, rfl⟩
  · refine List.pairwise_cons.2 ⟨fun y hy => ?_, List.pairwise_cons.2 ⟨fun y hy => by simp at hy, List.Pairwise.nil⟩⟩
    obtain rfl : y = ex8P := by simpa using hy
    show (2 : Int) ≤ 5
    decide
  · exact (alike_swap (X := [ex8P]) (Y := [ex8Q]) (fun y hy x hx => by
      obtain rfl : y = ex8Q := by simpa using hy
      obtain rfl : x = ex8P := by simpa using hx
      show (2 : Int) < 5
      decide)).symm
theorem ex8_comp : compT ex8R = (ex8T, 0) := by kernel_rfl
theorem ex8_look : lookT ex8T ex8H = (⟨0, (ex8H, ex8M), 2⟩, true) := by kernel_rfl
theorem ex8_32 : ∀ x ∈ ex8E, ent32 x := fun x hx => by
  simp only [ex8E, List.mem_cons, List.not_mem_nil, or_false] at hx
  rcases hx with rfl | rfl | rfl <;> exact ⟨⟨by decide, by decide⟩, ⟨by decide, by decide⟩⟩
theorem byt_dec {L : List Int} (h : L.length = 13) (h2 : L.all (fun x => decide (0 ≤ x) && decide (x < 256)) = true) : Byt L := by
  refine ⟨h, fun k => ?_⟩
  rw [List.getD_eq_getElem?_getD]
  by_cases hk : k < L.length
  · rw [List.getElem?_eq_getElem hk, Option.getD_some]
    have := List.all_eq_true.1 h2 L[k] (List.getElem_mem _)
    simp at this
    exact this
  · rw [List.getElem?_eq_none (by omega)]
    exact ⟨by decide, by decide⟩
theorem ex8_ok : ∀ r ∈ ex8T, okR8 r := fun r hr => by
  simp only [ex8T, List.mem_cons, List.not_mem_nil, or_false] at hr
  rcases hr with rfl | rfl | rfl <;> exact ⟨byt_dec rfl (by decide), byt_dec rfl (by decide)⟩
theorem ex8O_Z : ex8O = Z := by rw [Z_eq]; rfl

set_option maxHeartbeats 8000000 in
set_option maxRecDepth 100000 in
theorem awake8_any (w : World) (hP : Places w) : Calls Tryz.prog 5 #[] w fun e w' => e = .returned (.bool true) ∧ Below w.heap.size w w' := by
  have C1 : Hid (∀ W, Calls Tryz.prog 13 #[.string ⟨#[50, 32, 100, 112, 111, 114, 116, 32, 49, 45, 50, 32, 45, 62, 32, 112, 111, 114, 116, 32, 49, 10, 53, 32, 100, 112, 111, 114, 116, 32, 49, 32, 45, 62, 32, 112, 111, 114, 116, 32, 50, 10, 100, 101, 102, 97, 117, 108, 116, 32, 45, 62, 32, 100, 114, 111, 112]⟩] W fun e w' => ∃ v, e = .returned (.tuple #[v, .int .i64 0, .int .i64 0]) ∧ EntsOwn W.heap.size w' ex8E v ∧ Below W.heap.size W w') := fun W => by
    have := read_any ⟨#[50, 32, 100, 112, 111, 114, 116, 32, 49, 45, 50, 32, 45, 62, 32, 112, 111, 114, 116, 32, 49, 10, 53, 32, 100, 112, 111, 114, 116, 32, 49, 32, 45, 62, 32, 112, 111, 114, 116, 32, 50, 10, 100, 101, 102, 97, 117, 108, 116, 32, 45, 62, 32, 100, 114, 111, 112]⟩ (by decide) W
    rw [show (⟨#[50, 32, 100, 112, 111, 114, 116, 32, 49, 45, 50, 32, 45, 62, 32, 112, 111, 114, 116, 32, 49, 10, 53, 32, 100, 112, 111, 114, 116, 32, 49, 32, 45, 62, 32, 112, 111, 114, 116, 32, 50, 10, 100, 101, 102, 97, 117, 108, 116, 32, 45, 62, 32, 100, 114, 111, 112]⟩ : ByteArray).data.toList = ex8A from rfl, ex8_read] at this
    exact this
  have C2 : Hid (∀ W v, EntsAt W v ex8E → Below w.heap.size w W → Calls Tryz.prog 9 #[v] W fun e w' => (∃ u, e = .returned (.tuple #[u, .int .i64 0]) ∧ w'.ownsRow W.heap.size 39 28 u ex8T.length (gcells ruleV ex8T)) ∧ Below W.heap.size W w') := fun W v h hb =>
    (compile_any ex8E ex8_32 (by decide) v W h (hP.later hP.pos hb)).mono fun e w' hh => by
      obtain ⟨⟨R, h1, u, h2, h3⟩, h4⟩ := hh
      obtain rfl := ex8_rows h1
      rw [ex8_comp] at h2 h3
      exact ⟨⟨u, h2, h3⟩, h4⟩
  have C3 : Hid (∀ W v, RulesAt W v ex8T → Calls Tryz.prog 11 #[v, .agg #[.int .u8 0, .int .u8 0, .int .u8 0, .int .u8 0, .int .u8 0, .int .u8 0, .int .u8 0, .int .u8 0, .int .u8 0, .int .u8 0, .int .u8 0, .int .u8 1, .int .u8 0]] W fun e w' => e = .returned (.tuple #[.agg (ruleV ⟨0, (ex8H, ex8M), 2⟩), .bool true]) ∧ Below W.heap.size W w') := fun W v h => by
    have := look_any ex8T ex8_ok v ex8H (byt_dec rfl (by decide)) W h
    rw [ex8_look] at this
    exact this
  have hZl := Z_byt.1
  have HA : Hid (∀ W, Calls Tryz.prog 14 #[] W fun e w' => e = .returned (.agg (cv Z Z)) ∧ Below W.heap.size W w') := all8
  have heq : ∀ w, (Op.equalIn 10000 37 (.agg (cv Z Z)) (.agg (cv Z Z))).run Tryz.prog w = .ok true w := fun w => by rw [eqC Z Z Z Z hZl hZl hZl hZl w]; simp
  have hegc : ∀ op x y xs ys w, (eqGuard op 37 x y (.agg xs) (.agg ys)).run Tryz.prog w = .ok () w := egC
  clear hP
  go_enter Tryz.func5, Tryz.ntmps5
  go_wp2_with fail
  refine (C1.out _).mono ?_
  rintro e w1 ⟨v, rfl, ho1, hb1⟩
  have HE1 : Hid (EntsAt w1 v ex8E) := ents_sl ho1
  have HB1 : Hid (Below w.heap.size w w1) := hb1
  clear ho1 hb1
  go_wp2_with fail
  refine (C2.out _ _ HE1.out HB1.out).mono ?_
  rintro e w2 ⟨⟨u, rfl, ho2⟩, hb2⟩
  have HB2 : Hid (Below w.heap.size w w2) := HB1.out.trans (hb2.mono HB1.out.size)
  have HR2 : Hid (RulesAt w2 u ex8T) := gsl_of (E := RuleE) ho2 fun c hc => ruleV_size (ex8_ok c hc)
  obtain ⟨o2, c2, rfl⟩ := gown_slice ho2
  rw [show ex8T.length = 3 from rfl] at HR2 ⊢
  clear ho2 hb2
  go_wp2_with fail
  refine (C3.out _ _ HR2.out).mono ?_
  rintro e w3 ⟨rfl, hb3⟩
  have HB3 : Hid (Below w.heap.size w w3) := HB2.out.trans (hb3.mono HB2.out.size)
  obtain ⟨r, hr⟩ : ∃ r : RuleM, r = ⟨0, (ex8H, ex8M), 2⟩ := ⟨_, rfl⟩
  have hrk : okR8 r := by rw [hr]; exact ex8_ok _ (by simp [ex8T])
  have hact : r.action = 2 := by rw [hr]
  rw [← hr]
  obtain ⟨g, off, cur, ty, fr, q, rfl, hg, hc, hq⟩ := (GSl.below HR2.out hb3).at 2 (by decide)
  obtain rfl : q = ⟨2, (ex8O, ex8O), 0⟩ := (Option.some.inj hq).symm
  have HRK : Hid (okR8 r) := hrk
  have KN : Hid ((w3.alloc (.cells (ruleV r) 39)).heap[w3.heap.size]? = some (.cells (ruleV r) 39 (0, 0))) := heap_new _ _ _ rfl
  have KG : Hid ((w3.alloc (.cells (ruleV r) 39)).heap[g]? = some (.cells cur ty fr)) := heap_past _ _ _ _ hg
  have HC : Hid (∀ j, j < 26 → cur[off + 56 + 1 + j]? = (cv Z Z)[j]?) := fun j hj => by
    have h1 := hc (1 + j) (by show 1 + j < 28; omega)
    rw [(rule_at (ex8_ok ⟨2, (ex8O, ex8O), 0⟩ (by simp [ex8T]))).2.1 j hj] at h1
    rw [← ex8O_Z, ← h1]
    congr 1
    show off + 56 + 1 + j = off + 2 * 28 + (1 + j)
    omega
  have HB4 : Hid (Below w.heap.size w (w3.alloc (.cells (ruleV r) 39))) := HB3.out.alloc HB3.out.size _
  have ca : ∀ W, (∃ u : Later (w3.alloc (.cells (ruleV r) 39)), W = u.world) → W.cell? ⟨w3.heap.size, 27, none⟩ = some (.int .i64 2) := fun W hW => by
    rw [cell_of_row _ _ _ _ _ _ (later_block KN.out W hW), (rule_at HRK.out).2.2, hact]
  have hsz := ruleV_size hrk
  clear hb3 hr hrk hact hg hc hq
  go_wp2_with (refine wl_storeE (E := RuleE) RuleOk rfl _ _ rfl w3.heap.size (ruleV r) (rule_fits HRK.out) rfl rfl _ (heap_new _ _ _ rfl) rfl _ (setRow_new _ _ _ _ _ rfl) ?_)
  obtain ⟨w4, hw4⟩ : ∃ w4, w4 = w3.alloc (.cells (ruleV r) 39) := ⟨_, rfl⟩
  rw [← hw4] at KN KG HB4 ca ⊢
  obtain ⟨g3, hg3⟩ : ∃ g3, g3 = w3.heap.size := ⟨_, rfl⟩
  rw [← hg3] at KN ca ⊢
  clear hw4 hg3
  have ca' : ∀ u : Later w4, u.world.cell? ⟨g3, 27, none⟩ = some (.int .i64 2) := fun u => ca _ ⟨u, rfl⟩
  clear ca
  have ne1 := Later.ne w4
  refine wp_region_later (by kernel_rfl) (by kernel_rfl) ?_
  repeat go_big_quiet_step (fail)
  refine qlE (E := CubE) CubOk rfl _ rfl g (off + 56 + 1) rfl cur ty fr (cv Z Z) (cv_size _ _ hZl hZl) (later_block KG.out) HC.out ?_
  simp only [Act.put, List.setIfInBounds_toArray, List.set_cons_succ, List.set_cons_zero]
  go_big_quiet_want; go_big_quiet_op
  refine ⟨_, fun u => Calls.later_of (HA.out u.world), ?_⟩
  go_big_quiet_on
  repeat go_big_quiet_step (fail)
  refine wpQuiet_nil ?_
  rintro w' ⟨v5, rfl⟩
  go_wp2_with fail
  go_ret
  exact ⟨rfl, HB4.out.trans (v5.below.mono HB4.out.size)⟩
end Go.Proofs.YthddlchkbnmcaaaGreatDoor
namespace Go.Proofs.YthddlchkbnmcaaaGreatDoor
open Go Go.RowKit
set_option maxRecDepth 20000

theorem look_ok {l : List RuleM} (h : ∀ r ∈ l, okR8 r) (H : List Int) : okR8 (lookT l H).1 := by
  unfold lookT
  cases hf : l.find? (hasR H) with
  | none => exact rule0_ok
  | some r => exact h r (List.mem_of_find?_eq_some hf)

end Go.Proofs.YthddlchkbnmcaaaGreatDoor
