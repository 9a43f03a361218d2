import Derived.Test.YtgcfdcgmddjhbaaDoorRpDec
import Derived.Test.YtgcfdcgmddjhbaaDoorPrPrint
namespace Go.Proofs.YtgcfdcgmddjhbaaDoor
open Go Go.RowKit
set_option maxRecDepth 20000

/-- A line's print as far as it has come. -/
def frP (x : Raw) : List UInt8 := if x.dflt then wDefault else decI x.prio.n
def basP (x : Raw) (q : Nat) : List UInt8 := frP x ++ (x.clauses.take q).flatMap claP
def innP (x : Raw) (q : Nat) (c : Cla) (j : Nat) : List UInt8 := basP x q ++ (32 :: c.word ++ (32 :: numsTo c j))
theorem basP_next {x : Raw} {q : Nat} {c : Cla} (h : x.clauses[q]? = some c) : basP x (q + 1) = innP x q c c.nums.length := by
  unfold basP innP basP
  rw [clas_take _ _ _ h, numsTo_all, ← List.append_assoc]
  rfl
theorem innP_zero (x : Raw) (q : Nat) (c : Cla) : innP x q c 0 = ((basP x q ++ [32]) ++ c.word) ++ [32] := by
  unfold innP numsTo
  simp
theorem innP_first (x : Raw) (q : Nat) (c : Cla) {f : Fig} (h : c.nums[0]? = some f) : innP x q c 1 = innP x q c 0 ++ decI f.n := by
  unfold innP
  rw [numsTo]
  simp [numsTo, numJ, h]
theorem innP_next (x : Raw) (q : Nat) (c : Cla) {j : Nat} {f : Fig} (hj : j ≠ 0) (h : c.nums[j]? = some f) : innP x q c (j + 1) = (innP x q c j ++ [signJ c j]) ++ decI f.n := by
  unfold innP
  rw [numsTo, if_neg hj]
  simp [numJ, h]
theorem raw_g6 {w : World} {b : Nat} {x : Raw} {u : Value} {ty : TypeId} {fr : Nat × Nat} (h : w.heap[b]? = some (.cells (rawV x u) ty fr)) :
    w.cell? ⟨b, 0, none⟩ = some (.int .i64 x.pos) ∧ w.cell? ⟨b, 1, none⟩ = some (.bool x.dflt) ∧ w.cell? ⟨b, 2, none⟩ = some (.int .i64 x.prio.n) ∧ w.cell? ⟨b, 4, none⟩ = some u ∧ w.cell? ⟨b, 5, none⟩ = some (.bool x.drop) ∧ w.cell? ⟨b, 6, none⟩ = some (.int .i64 x.port.n) := by
  refine ⟨?_, ?_, ?_, ?_, ?_, ?_⟩ <;> (rw [cell_of_row _ _ _ _ _ _ h]; rfl)
theorem cla_g6 {w : World} {b : Nat} {c : Cla} {u : Value} {ty : TypeId} {fr : Nat × Nat} (h : w.heap[b]? = some (.cells (claV c u) ty fr)) :
    w.cell? ⟨b, 0, none⟩ = some (.string ⟨c.word.toArray⟩) ∧ w.cell? ⟨b, 1, none⟩ = some (.int .i64 c.pos) ∧ w.cell? ⟨b, 2, none⟩ = some u ∧ w.cell? ⟨b, 3, none⟩ = some (.bool c.slash) ∧ w.cell? ⟨b, 4, none⟩ = some (.bool c.dash) := by
  refine ⟨?_, ?_, ?_, ?_, ?_⟩ <;> (rw [cell_of_row _ _ _ _ _ _ h]; rfl)
theorem basP_mono (x : Raw) (q : Nat) : (basP x q).length ≤ (basP x x.clauses.length).length := by
  unfold basP
  rw [List.take_length, List.length_append, List.length_append]
  have : (x.clauses.flatMap claP) = (x.clauses.take q).flatMap claP ++ (x.clauses.drop q).flatMap claP := by
    rw [← List.flatMap_append, List.take_append_drop]
  rw [this, List.length_append]
  omega
theorem basP_row (x : Raw) (q : Nat) : (basP x q).length + 20 ≤ (rowP x).length + 20 := by
  have h := basP_mono x q
  unfold rowP headP
  unfold basP frP at h ⊢
  rw [List.take_length] at h
  simp only [List.length_append] at h ⊢
  omega
theorem innP_row {x : Raw} {q : Nat} {c : Cla} (h : x.clauses[q]? = some c) {j : Nat} (hj : j ≤ c.nums.length) : (innP x q c j).length ≤ (rowP x).length := by
  have h1 := basP_row x (q + 1)
  rw [basP_next h] at h1
  have h2 := numsTo_mono c j (c.nums.length - j)
  rw [Nat.add_sub_cancel' hj] at h2
  unfold innP at h1 ⊢
  simp only [List.length_append, List.length_cons] at h1 ⊢
  omega
theorem str2 (A B : List UInt8) : (⟨A.toArray⟩ ++ ⟨B.toArray⟩ : ByteArray) = ⟨(A ++ B).toArray⟩ := str_add A B

set_option maxHeartbeats 32000000 in
set_option maxRecDepth 100000 in
theorem rprint_any (l : List Raw) (vl : Value) (w : World) (hl : RawsAt w vl l) (hok : ∀ x ∈ l, okNs x) (hn : (printT l).length ≤ 700000) :
    Calls Tryd.prog 6 #[vl] w fun e w' => e = .returned (.string ⟨(printT l).toArray⟩) ∧ Below w.heap.size w w' := by
  have DE : Hid (∀ n, okN n → ∀ W, Calls Tryd.prog 9 #[.int .i64 n] W fun e w' => e = .returned (.string ⟨(decI n).toArray⟩) ∧ Below W.heap.size W w') := decimal_any
  obtain ⟨o, cap, rfl, hc1, hc2⟩ := NSl.slice hl
  obtain ⟨n, hnn⟩ : ∃ n, n = l.length := ⟨_, rfl⟩
  have HN : Hid (n = l.length) := hnn
  rw [← hnn] at hl hc1 ⊢
  unfold maxLen at hc2
  have HL : Hid (RawsAt w (.slice o n cap) l) := hl
  have HOK : Hid (∀ x ∈ l, okNs x) := hok
  have HLEN : Hid ((printT l).length ≤ 700000) := hn
  obtain ⟨S, hS⟩ : ∃ S, S = printT l := ⟨_, rfl⟩
  rw [← hS]
  have HS : Hid (S = printT l) := hS
  clear hl hok hn hnn hS
  go_enter Tryd.func6, Tryd.ntmps6
  go_wp2_with fail
  go_loopw [3, 4] (fun s i wr => ∃ k : Nat, k ≤ n ∧ i = .int .i64 (k : Int) ∧ s = .string ⟨(printT (l.take k)).toArray⟩ ∧ Below w.heap.size w wr) (fun _ i _ => n - (intOf i).toNat)
  case atStart => exact ⟨0, Nat.zero_le _, rfl, rfl, Below.refl _ _⟩
  case round =>
    obtain ⟨k, hk, rfl, rfl, hb⟩ := hrel
    have HB : Hid (Below w.heap.size w wr) := hb
    clear hb
    by_cases hlt : k < n
    · obtain ⟨g, off, cur, ty, fr, x, u', rfl, hg, hc, hcj, hcl⟩ := NSl.at HL.out k hlt
      have K1 : Hid (wr.heap[g]? = some (.cells cur ty fr)) := (HB.out.block g (Array.getElem?_eq_some_iff.1 hg).1).trans hg
      obtain ⟨o1, c1, rfl, h11, h12⟩ := NSl.slice hcl
      obtain ⟨n1, hn1⟩ : ∃ n1, n1 = x.clauses.length := ⟨_, rfl⟩
      have HN1 : Hid (n1 = x.clauses.length) := hn1
      rw [← hn1] at hcl hc h11
      have HCX : Hid (ClasAt w x (.slice o1 n1 c1)) := hcl
      have H1 : Hid (∀ q, q < 8 → cur[off + k * 8 + q]? = (rawV x (.slice o1 n1 c1))[q]?) := hc
      have HOX : Hid (okNs x) := HOK.out x (List.mem_of_getElem? hcj)
      have HTK : Hid (printT (l.take (k + 1)) = printT (l.take k) ++ rowP x) := print_take _ k x hcj
      have hle := print_take_le l (k + 1)
      rw [HTK.out, List.length_append] at hle
      have HRL : Hid ((printT (l.take k)).length + (rowP x).length ≤ 700000) := by have := HLEN.out; show _ ≤ _; omega
      have hlt' : (k : Int) < (n : Int) := by omega
      have HLT : Hid (k < n) := hlt
      unfold maxLen at h12
      obtain ⟨T0, hT0⟩ : ∃ T0, T0 = printT (l.take k) := ⟨_, rfl⟩
      have HT0 : Hid (T0 = printT (l.take k)) := hT0
      rw [← hT0] at HTK HRL ⊢
      obtain ⟨W1, hW1⟩ : ∃ W1, W1 = wr.alloc (.cells (rawV x (.slice o1 n1 c1)) 28) := ⟨_, rfl⟩
      have KF : Hid (W1.heap[wr.heap.size]? = some (.cells (rawV x (.slice o1 n1 c1)) 28 (0, 0))) := by rw [hW1]; exact heap_new _ _ _ rfl
      have BW1 : Hid (Below w.heap.size w W1) := by rw [hW1]; exact HB.out.alloc HB.out.size _
      have f2 := (raw_g6 KF.out).2.2.1
      rw [hW1] at f2
      have DP : Hid (∀ W, Calls Tryd.prog 9 #[.int .i64 x.prio.n] W fun e w' => e = .returned (.string ⟨(decI x.prio.n).toArray⟩) ∧ Below W.heap.size W w') := DE.out _ HOX.out.1
      clear hg hc hcj hcl hn1 hT0 hle hlt
      go_wp2_with (first
        | (refine wl_loadE (E := RawE) RawOk rfl _ rfl g (off + k * 8) rfl cur ty fr (rawV x (.slice o1 n1 c1)) rfl K1.out H1.out ?_)
        | (refine wl_storeE (E := RawE) RawOk rfl _ _ rfl wr.heap.size (rawV x (.slice o1 n1 c1)) ⟨rfl, by simp [rawV, Value.oneCell']⟩ rfl rfl _ (heap_new _ _ _ rfl) rfl _ (setRow_new _ _ _ _ _ rfl) ?_))
      rw [← hW1]
      refine (DP.out _).mono ?_
      rintro e w2 ⟨rfl, hb2⟩
      have hsz : wr.heap.size < W1.heap.size := (Array.getElem?_eq_some_iff.1 KF.out).1
      have K2 : Hid (w2.heap[wr.heap.size]? = some (.cells (rawV x (.slice o1 n1 c1)) 28 (0, 0))) := (hb2.block _ hsz).trans KF.out
      have B2 : Hid (Below w.heap.size w w2) := BW1.out.trans (hb2.mono BW1.out.size)
      obtain ⟨G, hG⟩ : ∃ G, G = wr.heap.size := ⟨_, rfl⟩
      have HGW : Hid (w.heap.size ≤ G) := by rw [hG]; exact HB.out.size
      rw [← hG] at K2 ⊢
      clear hb2 hsz KF BW1 K1 H1 f2 HB hW1 DP hG
      have e1 := (raw_g6 K2.out).2.1
      obtain ⟨R0, hR0⟩ : ∃ R0, R0 = frP x := ⟨_, rfl⟩
      cases hd : x.dflt with
      | true =>
        rw [hd] at e1
        have HR0 : Hid (basP x 0 = R0) := by
          show _ = _
          rw [hR0]
          unfold basP
          simp
        have hRR : R0 = wDefault := by rw [hR0]; unfold frP; rw [hd]; rfl
        clear hR0 hd
        go_wp2_with fail
        go_loopw [6, 7] (fun s i wr => ∃ q : Nat, q ≤ n1 ∧ i = .int .i64 (q : Int) ∧ s = .string ⟨(basP x q).toArray⟩ ∧ wr.heap[G]? = some (.cells (rawV x (.slice o1 n1 c1)) 28 (0, 0)) ∧ Below w.heap.size w wr) (fun _ i _ => n1 - (intOf i).toNat)
        case atStart => exact ⟨0, Nat.zero_le _, rfl, by rw [HR0.out, hRR]; rfl, K2.out, B2.out⟩
        case round =>
          clear K2 B2 e1
          obtain ⟨q, hq, rfl, rfl, hr, hb⟩ := hrel
          have K2 : Hid (wr.heap[G]? = some (.cells (rawV x (.slice o1 n1 c1)) 28 (0, 0))) := hr
          have HB : Hid (Below w.heap.size w wr) := hb
          clear hr hb
          obtain ⟨-, -, -, f4, f5, f6⟩ := raw_g6 K2.out
          by_cases hqn : q < n1
          · obtain ⟨g1, off1, cur1, ty1, fr1, c, u', rfl, hg, hc, hcj, hcl⟩ := NSl.at HCX.out q hqn
            have K1 : Hid (wr.heap[g1]? = some (.cells cur1 ty1 fr1)) := (HB.out.block g1 (Array.getElem?_eq_some_iff.1 hg).1).trans hg
            obtain ⟨o2, c2, rfl, h21, h22⟩ := GSl.slice hcl
            obtain ⟨n2, hn2⟩ : ∃ n2, n2 = c.nums.length := ⟨_, rfl⟩
            have HN2 : Hid (n2 = c.nums.length) := hn2
            rw [← hn2] at hcl hc h21
            have HCC : Hid (FigsAt w c (.slice o2 n2 c2)) := hcl
            have H1 : Hid (∀ i, i < 5 → cur1[off1 + q * 5 + i]? = (claV c (.slice o2 n2 c2))[i]?) := hc
            have HCQ : Hid (x.clauses[q]? = some c) := hcj
            have HOC : Hid (∀ f ∈ c.nums, okN f.n) := HOX.out.2.2 c (List.mem_of_getElem? hcj)
            have HBL : Hid ((basP x q).length ≤ 700000) := by have h1 := basP_row x q; have h2 := HRL.out; show _ ≤ _; omega
            have HIL : Hid (∀ j, j ≤ n2 → (innP x q c j).length ≤ 700000) := fun j hj => by have h1 := innP_row hcj (j := j) (by omega); have h2 := HRL.out; omega
            have HWL : Hid (c.word.length ≤ 700000) := by
              have h1 := HIL.out 0 (Nat.zero_le _)
              rw [innP_zero] at h1
              simp only [List.length_append] at h1
              show _ ≤ _
              omega
            have hqn' : (q : Int) < (n1 : Int) := by omega
            have HQN : Hid (q < n1) := hqn
            unfold maxLen at h22
            obtain ⟨A, hA⟩ : ∃ A, A = basP x q := ⟨_, rfl⟩
            have HA : Hid (A = basP x q) := hA
            rw [← hA] at HBL ⊢
            have l1 : ¬ 9223372036854775807 < A.length + 1 := by have := HBL.out; omega
            have l2 : ¬ 9223372036854775807 < A.length + 1 + c.word.length := by have := HBL.out; have := HWL.out; omega
            have l3 : ¬ 9223372036854775807 < A.length + 1 + c.word.length + 1 := by have := HBL.out; have := HWL.out; omega
            obtain ⟨W1, hW1⟩ : ∃ W1, W1 = wr.alloc (.cells (claV c (.slice o2 n2 c2)) 31) := ⟨_, rfl⟩
            have KF : Hid (W1.heap[wr.heap.size]? = some (.cells (claV c (.slice o2 n2 c2)) 31 (0, 0))) := by rw [hW1]; exact heap_new _ _ _ rfl
            have K3 : Hid (W1.heap[G]? = some (.cells (rawV x (.slice (some ⟨g1, off1, none⟩) n1 c1)) 28 (0, 0))) := by rw [hW1]; exact heap_past _ _ _ _ K2.out
            have BW1 : Hid (Below w.heap.size w W1) := by rw [hW1]; exact HB.out.alloc HB.out.size _
            have f0 := (cla_g6 KF.out).1
            rw [hW1] at f0
            clear hg hc hcj hcl hn2 hA hqn f5 f6
            go_wp2_with (first
              | (refine wl_loadE (E := ClaE) ClaOk rfl _ rfl g1 (off1 + q * 5) rfl cur1 ty1 fr1 (claV c (.slice o2 n2 c2)) rfl K1.out H1.out ?_)
              | (refine wl_storeE (E := ClaE) ClaOk rfl _ _ rfl wr.heap.size (claV c (.slice o2 n2 c2)) ⟨rfl, by simp [claV, Value.oneCell']⟩ rfl rfl _ (heap_new _ _ _ rfl) rfl _ (setRow_new _ _ _ _ _ rfl) ?_))
            rw [← hW1]
            have hz2 : Hid (G < wr.heap.size) := (Array.getElem?_eq_some_iff.1 K2.out).1
            obtain ⟨G2, hG2⟩ : ∃ G2, G2 = wr.heap.size := ⟨_, rfl⟩
            rw [← hG2] at KF hz2 ⊢
            have HST : Hid ((⟨A.toArray⟩ ++ ⟨#[32]⟩ ++ ⟨c.word.toArray⟩ ++ ⟨#[32]⟩ : ByteArray) = ⟨(innP x q c 0).toArray⟩) := by
              show _ = _
              rw [innP_zero, ← HA.out, show (⟨#[32]⟩ : ByteArray) = ⟨([32] : List UInt8).toArray⟩ from rfl, str2, str2, str2]
            clear f0 f4 K1 K2 H1 HB hW1 hG2 l1 l2 l3
            go_loopw [6, 9] (fun s i wr => ∃ j : Nat, j ≤ n2 ∧ i = .int .i64 (j : Int) ∧ s = .string ⟨(innP x q c j).toArray⟩ ∧ wr.heap[G]? = some (.cells (rawV x (.slice (some ⟨g1, off1, none⟩) n1 c1)) 28 (0, 0)) ∧ wr.heap[G2]? = some (.cells (claV c (.slice o2 n2 c2)) 31 (0, 0)) ∧ Below w.heap.size w wr) (fun _ i _ => n2 - (intOf i).toNat)
            case atStart => exact ⟨0, Nat.zero_le _, rfl, by rw [← HST.out], K3.out, KF.out, BW1.out⟩
            case round =>
              clear K3 KF BW1
              obtain ⟨j, hj, rfl, rfl, hr, hr2, hb⟩ := hrel
              have K2 : Hid (wr.heap[G]? = some (.cells (rawV x (.slice (some ⟨g1, off1, none⟩) n1 c1)) 28 (0, 0))) := hr
              have K3 : Hid (wr.heap[G2]? = some (.cells (claV c (.slice o2 n2 c2)) 31 (0, 0))) := hr2
              have HB : Hid (Below w.heap.size w wr) := hb
              clear hr hr2 hb
              obtain ⟨-, -, d2, d3, d4⟩ := cla_g6 K3.out
              by_cases hjn : j < n2
              · obtain ⟨g2, off2, cur2, ty2, fr2, f, rfl, hg, hc, hFj⟩ := (GSl.below HCC.out HB.out).at j hjn
                have cf : wr.cell? ⟨g2, off2 + j * 2, none⟩ = some (.int .i64 f.n) := by rw [cell_of_row _ _ _ _ _ _ hg]; exact hc 0 (by decide)
                have hOf := HOC.out f (List.mem_of_getElem? hFj)
                have DF : Hid (∀ W, Calls Tryd.prog 9 #[.int .i64 f.n] W fun e w' => e = .returned (.string ⟨(decI f.n).toArray⟩) ∧ Below W.heap.size W w') := DE.out _ hOf
                have hDl := decI_len f.n hOf.1 hOf.2
                have hAl := HIL.out j hj
                have hjn' : (j : Int) < (n2 : Int) := by omega
                have HJN : Hid (j < n2) := hjn
                have HZ : Hid (j = 0 → innP x q c (j + 1) = innP x q c j ++ decI f.n) := fun h => by subst h; exact innP_first x q c hFj
                have HY : Hid (j ≠ 0 → innP x q c (j + 1) = (innP x q c j ++ [signJ c j]) ++ decI f.n) := fun h => innP_next x q c h hFj
                obtain ⟨A, hA⟩ : ∃ A, A = innP x q c j := ⟨_, rfl⟩
                obtain ⟨D, hD⟩ : ∃ D, D = decI f.n := ⟨_, rfl⟩
                rw [← hA] at HZ HY hAl ⊢
                rw [← hD] at HZ HY hDl DF
                have l1 : ¬ 9223372036854775807 < A.length + 1 := by omega
                have l2 : ¬ 9223372036854775807 < A.length + 1 + D.length := by omega
                have l3 : ¬ 9223372036854775807 < A.length + D.length := by omega
                clear hg hc hFj hOf hDl hAl hA hD hjn
                by_cases hjl : j + 1 = n2
                · have hjl' : (n2 : Int) = (j : Int) + 1 := by omega
                  have HSG : Hid (signJ c j = lastSign c) := by
                    show _ = _
                    unfold signJ
                    rw [if_pos (by rw [← HN2.out]; exact hjl)]
                  clear hjl
                  cases hsl : c.slash with
                  | true =>
                    rw [hsl] at d3
                    cases hda : c.dash with
                    | true =>
                      rw [hda] at d4
                      have HS2 : Hid (signJ c j = 47) := by
                        show _ = _
                        rw [HSG.out]
                        unfold lastSign
                        rw [hsl]
                        rfl
                      by_cases hj0 : j = 0
                      · subst hj0
                        have HE : Hid (innP x q c (0 + 1) = A ++ D) := HZ.out rfl
                        simp only [Nat.zero_mul, Nat.add_zero] at cf
                        obtain rfl : n2 = 1 := by omega
                        clear hjl'
                        skip
                        go_wp2_with fail
                        refine (DF.out _).mono ?_
                        rintro e w3 ⟨rfl, hb3⟩
                        have K2' : Hid (w3.heap[G]? = some (.cells (rawV x (.slice (some ⟨g1, off1, none⟩) n1 c1)) 28 (0, 0))) := (hb3.block _ (Array.getElem?_eq_some_iff.1 K2.out).1).trans K2.out
                        have K3' : Hid (w3.heap[G2]? = some (.cells (claV c (.slice (some ⟨g2, off2, none⟩) 1 c2)) 31 (0, 0))) := (hb3.block _ (Array.getElem?_eq_some_iff.1 K3.out).1).trans K3.out
                        have HB' : Hid (Below w.heap.size w w3) := HB.out.trans (hb3.mono HB.out.size)
                        clear hb3 cf d2 d3 d4
                        go_wp2_with fail
                        go_roundw
                        case rel =>
                          have := HJN.out
                          refine ⟨0 + 1, by omega, by go_num, ?_, K2'.out, K3'.out, HB'.out⟩
                          rw [HE.out, str2]
                        case measure =>
                          have := HJN.out
                          simp [intOf] <;> omega
                      · have hj1 : (0 : Int) < (j : Int) := by omega
                        have HE : Hid (innP x q c (j + 1) = (A ++ [47]) ++ D) := by
                          have := HY.out hj0
                          rwa [HS2.out] at this
                        clear hj0
                        go_wp2_with fail
                        refine (DF.out _).mono ?_
                        rintro e w3 ⟨rfl, hb3⟩
                        have K2' : Hid (w3.heap[G]? = some (.cells (rawV x (.slice (some ⟨g1, off1, none⟩) n1 c1)) 28 (0, 0))) := (hb3.block _ (Array.getElem?_eq_some_iff.1 K2.out).1).trans K2.out
                        have K3' : Hid (w3.heap[G2]? = some (.cells (claV c (.slice (some ⟨g2, off2, none⟩) n2 c2)) 31 (0, 0))) := (hb3.block _ (Array.getElem?_eq_some_iff.1 K3.out).1).trans K3.out
                        have HB' : Hid (Below w.heap.size w w3) := HB.out.trans (hb3.mono HB.out.size)
                        clear hb3 cf d2 d3 d4
                        go_wp2_with fail
                        go_roundw
                        case rel =>
                          have := HJN.out
                          refine ⟨j + 1, by omega, by go_num, ?_, K2'.out, K3'.out, HB'.out⟩
                          rw [HE.out, show (⟨#[47]⟩ : ByteArray) = ⟨([47] : List UInt8).toArray⟩ from rfl, str2, str2]
                        case measure =>
                          have := HJN.out
                          simp [intOf] <;> omega
                    | false =>
                      rw [hda] at d4
                      have HS2 : Hid (signJ c j = 47) := by
                        show _ = _
                        rw [HSG.out]
                        unfold lastSign
                        rw [hsl]
                        rfl
                      by_cases hj0 : j = 0
                      · subst hj0
                        have HE : Hid (innP x q c (0 + 1) = A ++ D) := HZ.out rfl
                        simp only [Nat.zero_mul, Nat.add_zero] at cf
                        obtain rfl : n2 = 1 := by omega
                        clear hjl'
                        skip
                        go_wp2_with fail
                        refine (DF.out _).mono ?_
                        rintro e w3 ⟨rfl, hb3⟩
                        have K2' : Hid (w3.heap[G]? = some (.cells (rawV x (.slice (some ⟨g1, off1, none⟩) n1 c1)) 28 (0, 0))) := (hb3.block _ (Array.getElem?_eq_some_iff.1 K2.out).1).trans K2.out
                        have K3' : Hid (w3.heap[G2]? = some (.cells (claV c (.slice (some ⟨g2, off2, none⟩) 1 c2)) 31 (0, 0))) := (hb3.block _ (Array.getElem?_eq_some_iff.1 K3.out).1).trans K3.out
                        have HB' : Hid (Below w.heap.size w w3) := HB.out.trans (hb3.mono HB.out.size)
                        clear hb3 cf d2 d3 d4
                        go_wp2_with fail
                        go_roundw
                        case rel =>
                          have := HJN.out
                          refine ⟨0 + 1, by omega, by go_num, ?_, K2'.out, K3'.out, HB'.out⟩
                          rw [HE.out, str2]
                        case measure =>
                          have := HJN.out
                          simp [intOf] <;> omega
                      · have hj1 : (0 : Int) < (j : Int) := by omega
                        have HE : Hid (innP x q c (j + 1) = (A ++ [47]) ++ D) := by
                          have := HY.out hj0
                          rwa [HS2.out] at this
                        clear hj0
                        go_wp2_with fail
                        refine (DF.out _).mono ?_
                        rintro e w3 ⟨rfl, hb3⟩
                        have K2' : Hid (w3.heap[G]? = some (.cells (rawV x (.slice (some ⟨g1, off1, none⟩) n1 c1)) 28 (0, 0))) := (hb3.block _ (Array.getElem?_eq_some_iff.1 K2.out).1).trans K2.out
                        have K3' : Hid (w3.heap[G2]? = some (.cells (claV c (.slice (some ⟨g2, off2, none⟩) n2 c2)) 31 (0, 0))) := (hb3.block _ (Array.getElem?_eq_some_iff.1 K3.out).1).trans K3.out
                        have HB' : Hid (Below w.heap.size w w3) := HB.out.trans (hb3.mono HB.out.size)
                        clear hb3 cf d2 d3 d4
                        go_wp2_with fail
                        go_roundw
                        case rel =>
                          have := HJN.out
                          refine ⟨j + 1, by omega, by go_num, ?_, K2'.out, K3'.out, HB'.out⟩
                          rw [HE.out, show (⟨#[47]⟩ : ByteArray) = ⟨([47] : List UInt8).toArray⟩ from rfl, str2, str2]
                        case measure =>
                          have := HJN.out
                          simp [intOf] <;> omega
                  | false =>
                    rw [hsl] at d3
                    cases hda : c.dash with
                    | true =>
                      rw [hda] at d4
                      have HS2 : Hid (signJ c j = 45) := by
                        show _ = _
                        rw [HSG.out]
                        unfold lastSign
                        rw [hsl, hda]
                        rfl
                      by_cases hj0 : j = 0
                      · subst hj0
                        have HE : Hid (innP x q c (0 + 1) = A ++ D) := HZ.out rfl
                        simp only [Nat.zero_mul, Nat.add_zero] at cf
                        obtain rfl : n2 = 1 := by omega
                        clear hjl'
                        skip
                        go_wp2_with fail
                        refine (DF.out _).mono ?_
                        rintro e w3 ⟨rfl, hb3⟩
                        have K2' : Hid (w3.heap[G]? = some (.cells (rawV x (.slice (some ⟨g1, off1, none⟩) n1 c1)) 28 (0, 0))) := (hb3.block _ (Array.getElem?_eq_some_iff.1 K2.out).1).trans K2.out
                        have K3' : Hid (w3.heap[G2]? = some (.cells (claV c (.slice (some ⟨g2, off2, none⟩) 1 c2)) 31 (0, 0))) := (hb3.block _ (Array.getElem?_eq_some_iff.1 K3.out).1).trans K3.out
                        have HB' : Hid (Below w.heap.size w w3) := HB.out.trans (hb3.mono HB.out.size)
                        clear hb3 cf d2 d3 d4
                        go_wp2_with fail
                        go_roundw
                        case rel =>
                          have := HJN.out
                          refine ⟨0 + 1, by omega, by go_num, ?_, K2'.out, K3'.out, HB'.out⟩
                          rw [HE.out, str2]
                        case measure =>
                          have := HJN.out
                          simp [intOf] <;> omega
                      · have hj1 : (0 : Int) < (j : Int) := by omega
                        have HE : Hid (innP x q c (j + 1) = (A ++ [45]) ++ D) := by
                          have := HY.out hj0
                          rwa [HS2.out] at this
                        clear hj0
                        go_wp2_with fail
                        refine (DF.out _).mono ?_
                        rintro e w3 ⟨rfl, hb3⟩
                        have K2' : Hid (w3.heap[G]? = some (.cells (rawV x (.slice (some ⟨g1, off1, none⟩) n1 c1)) 28 (0, 0))) := (hb3.block _ (Array.getElem?_eq_some_iff.1 K2.out).1).trans K2.out
                        have K3' : Hid (w3.heap[G2]? = some (.cells (claV c (.slice (some ⟨g2, off2, none⟩) n2 c2)) 31 (0, 0))) := (hb3.block _ (Array.getElem?_eq_some_iff.1 K3.out).1).trans K3.out
                        have HB' : Hid (Below w.heap.size w w3) := HB.out.trans (hb3.mono HB.out.size)
                        clear hb3 cf d2 d3 d4
                        go_wp2_with fail
                        go_roundw
                        case rel =>
                          have := HJN.out
                          refine ⟨j + 1, by omega, by go_num, ?_, K2'.out, K3'.out, HB'.out⟩
                          rw [HE.out, show (⟨#[45]⟩ : ByteArray) = ⟨([45] : List UInt8).toArray⟩ from rfl, str2, str2]
                        case measure =>
                          have := HJN.out
                          simp [intOf] <;> omega
                    | false =>
                      rw [hda] at d4
                      have HS2 : Hid (signJ c j = 46) := by
                        show _ = _
                        rw [HSG.out]
                        unfold lastSign
                        rw [hsl, hda]
                        rfl
                      by_cases hj0 : j = 0
                      · subst hj0
                        have HE : Hid (innP x q c (0 + 1) = A ++ D) := HZ.out rfl
                        simp only [Nat.zero_mul, Nat.add_zero] at cf
                        obtain rfl : n2 = 1 := by omega
                        clear hjl'
                        skip
                        go_wp2_with fail
                        refine (DF.out _).mono ?_
                        rintro e w3 ⟨rfl, hb3⟩
                        have K2' : Hid (w3.heap[G]? = some (.cells (rawV x (.slice (some ⟨g1, off1, none⟩) n1 c1)) 28 (0, 0))) := (hb3.block _ (Array.getElem?_eq_some_iff.1 K2.out).1).trans K2.out
                        have K3' : Hid (w3.heap[G2]? = some (.cells (claV c (.slice (some ⟨g2, off2, none⟩) 1 c2)) 31 (0, 0))) := (hb3.block _ (Array.getElem?_eq_some_iff.1 K3.out).1).trans K3.out
                        have HB' : Hid (Below w.heap.size w w3) := HB.out.trans (hb3.mono HB.out.size)
                        clear hb3 cf d2 d3 d4
                        go_wp2_with fail
                        go_roundw
                        case rel =>
                          have := HJN.out
                          refine ⟨0 + 1, by omega, by go_num, ?_, K2'.out, K3'.out, HB'.out⟩
                          rw [HE.out, str2]
                        case measure =>
                          have := HJN.out
                          simp [intOf] <;> omega
                      · have hj1 : (0 : Int) < (j : Int) := by omega
                        have HE : Hid (innP x q c (j + 1) = (A ++ [46]) ++ D) := by
                          have := HY.out hj0
                          rwa [HS2.out] at this
                        clear hj0
                        go_wp2_with fail
                        refine (DF.out _).mono ?_
                        rintro e w3 ⟨rfl, hb3⟩
                        have K2' : Hid (w3.heap[G]? = some (.cells (rawV x (.slice (some ⟨g1, off1, none⟩) n1 c1)) 28 (0, 0))) := (hb3.block _ (Array.getElem?_eq_some_iff.1 K2.out).1).trans K2.out
                        have K3' : Hid (w3.heap[G2]? = some (.cells (claV c (.slice (some ⟨g2, off2, none⟩) n2 c2)) 31 (0, 0))) := (hb3.block _ (Array.getElem?_eq_some_iff.1 K3.out).1).trans K3.out
                        have HB' : Hid (Below w.heap.size w w3) := HB.out.trans (hb3.mono HB.out.size)
                        clear hb3 cf d2 d3 d4
                        go_wp2_with fail
                        go_roundw
                        case rel =>
                          have := HJN.out
                          refine ⟨j + 1, by omega, by go_num, ?_, K2'.out, K3'.out, HB'.out⟩
                          rw [HE.out, show (⟨#[46]⟩ : ByteArray) = ⟨([46] : List UInt8).toArray⟩ from rfl, str2, str2]
                        case measure =>
                          have := HJN.out
                          simp [intOf] <;> omega
                · have hjl' : ((j : Int) == (n2 : Int) - 1) = false := by simp; omega
                  have hjl2 : ¬ (j : Int) = (n2 : Int) - 1 := by omega
                  have HS2 : Hid (signJ c j = 46) := by
                    show _ = _
                    unfold signJ
                    rw [if_neg (by rw [← HN2.out]; exact hjl)]
                  clear hjl
                  by_cases hj0 : j = 0
                  · subst hj0
                    have HE : Hid (innP x q c (0 + 1) = A ++ D) := HZ.out rfl
                    simp only [Nat.zero_mul, Nat.add_zero] at cf
                    have hjz : ¬ (0 : Int) = (n2 : Int) - 1 := by omega
                    have hjy : ((0 : Int) == (n2 : Int) - 1) = false := by simp; omega
                    clear hjl' hjl2
                    go_wp2_with fail
                    refine (DF.out _).mono ?_
                    rintro e w3 ⟨rfl, hb3⟩
                    have K2' : Hid (w3.heap[G]? = some (.cells (rawV x (.slice (some ⟨g1, off1, none⟩) n1 c1)) 28 (0, 0))) := (hb3.block _ (Array.getElem?_eq_some_iff.1 K2.out).1).trans K2.out
                    have K3' : Hid (w3.heap[G2]? = some (.cells (claV c (.slice (some ⟨g2, off2, none⟩) n2 c2)) 31 (0, 0))) := (hb3.block _ (Array.getElem?_eq_some_iff.1 K3.out).1).trans K3.out
                    have HB' : Hid (Below w.heap.size w w3) := HB.out.trans (hb3.mono HB.out.size)
                    clear hb3 cf d2 d3 d4
                    go_wp2_with fail
                    go_roundw
                    case rel =>
                      have := HJN.out
                      refine ⟨0 + 1, by omega, by go_num, ?_, K2'.out, K3'.out, HB'.out⟩
                      rw [HE.out, str2]
                    case measure =>
                      have := HJN.out
                      simp [intOf] <;> omega
                  · have hj1 : (0 : Int) < (j : Int) := by omega
                    have HE : Hid (innP x q c (j + 1) = (A ++ [46]) ++ D) := by
                      have := HY.out hj0
                      rwa [HS2.out] at this
                    clear hj0
                    go_wp2_with fail
                    refine (DF.out _).mono ?_
                    rintro e w3 ⟨rfl, hb3⟩
                    have K2' : Hid (w3.heap[G]? = some (.cells (rawV x (.slice (some ⟨g1, off1, none⟩) n1 c1)) 28 (0, 0))) := (hb3.block _ (Array.getElem?_eq_some_iff.1 K2.out).1).trans K2.out
                    have K3' : Hid (w3.heap[G2]? = some (.cells (claV c (.slice (some ⟨g2, off2, none⟩) n2 c2)) 31 (0, 0))) := (hb3.block _ (Array.getElem?_eq_some_iff.1 K3.out).1).trans K3.out
                    have HB' : Hid (Below w.heap.size w w3) := HB.out.trans (hb3.mono HB.out.size)
                    clear hb3 cf d2 d3 d4
                    go_wp2_with fail
                    go_roundw
                    case rel =>
                      have := HJN.out
                      refine ⟨j + 1, by omega, by go_num, ?_, K2'.out, K3'.out, HB'.out⟩
                      rw [HE.out, show (⟨#[46]⟩ : ByteArray) = ⟨([46] : List UInt8).toArray⟩ from rfl, str2, str2]
                    case measure =>
                      have := HJN.out
                      simp [intOf] <;> omega
              · obtain rfl : j = n2 := by omega
                have hjn' : ¬ (j : Int) < (j : Int) := by omega
                have HE : Hid (innP x q c j = basP x (q + 1)) := by
                  show _ = _
                  rw [basP_next HCQ.out, HN2.out]
                clear hjn
                go_wp2_with fail
                go_roundw
                case rel =>
                  have := HQN.out
                  exact ⟨q + 1, by omega, by go_num, by rw [HE.out], K2.out, HB.out⟩
                case measure =>
                  have := HQN.out
                  simp [intOf]; omega
          · obtain rfl : q = n1 := by omega
            have hqn' : ¬ (q : Int) < (q : Int) := by omega
            have HBS : Hid (basP x q = headP x) := by
              show _ = _
              unfold basP headP frP
              rw [List.take_of_length_le (by have := HN1.out; omega)]
            have hAl := basP_row x q
            have hRL := HRL.out
            have hPo := HOX.out.2.1
            have DF : Hid (∀ W, Calls Tryd.prog 9 #[.int .i64 x.port.n] W fun e w' => e = .returned (.string ⟨(decI x.port.n).toArray⟩) ∧ Below W.heap.size W w') := DE.out _ hPo
            have hDl := decI_len x.port.n hPo.1 hPo.2
            obtain ⟨A, hA⟩ : ∃ A, A = basP x q := ⟨_, rfl⟩
            obtain ⟨D, hD⟩ : ∃ D, D = decI x.port.n := ⟨_, rfl⟩
            have HAH : Hid (A = headP x) := hA.trans HBS.out
            have HDD : Hid (D = decI x.port.n) := hD
            rw [← hA] at hAl ⊢
            rw [← hD] at hDl DF
            clear hA hD hPo hqn
            cases hdr : x.drop with
            | true =>
              have HE : Hid (rowP x = A ++ [32, 45, 62, 32, 100, 114, 111, 112, 10]) := by
                show _ = _
                unfold rowP actP
                rw [← HAH.out, hdr]
                rfl
              rw [hdr] at f5
              have l1 : ¬ 9223372036854775807 < A.length + 9 := by omega
              have l2 : ¬ 9223372036854775807 < T0.length + (A.length + 9) := by omega
              clear hAl hRL hDl hdr
              go_wp2_with fail
              go_roundw
              case rel =>
                have := HLT.out
                refine ⟨k + 1, by omega, by go_num, ?_, HB.out⟩
                rw [HTK.out, HE.out, show (⟨#[32, 45, 62, 32, 100, 114, 111, 112, 10]⟩ : ByteArray) = ⟨([32, 45, 62, 32, 100, 114, 111, 112, 10] : List UInt8).toArray⟩ from rfl, str2, str2]
              case measure =>
                have := HLT.out
                simp [intOf]; omega
            | false =>
              have HE : Hid (rowP x = ((A ++ [32, 45, 62, 32, 112, 111, 114, 116, 32]) ++ D) ++ [10]) := by
                show _ = _
                unfold rowP actP
                rw [← HAH.out, hdr, HDD.out]
                simp [wPort]
              rw [hdr] at f5
              have l1 : ¬ 9223372036854775807 < A.length + 9 := by omega
              have l2 : ¬ 9223372036854775807 < A.length + 9 + D.length := by omega
              have l3 : ¬ 9223372036854775807 < A.length + 9 + D.length + 1 := by omega
              have l4 : ¬ 9223372036854775807 < T0.length + (A.length + 9 + D.length + 1) := by omega
              clear hAl hRL hDl hdr
              go_wp2_with fail
              refine (DF.out _).mono ?_
              rintro e w3 ⟨rfl, hb3⟩
              have HB' : Hid (Below w.heap.size w w3) := HB.out.trans (hb3.mono HB.out.size)
              clear hb3 f4 f5 f6
              go_wp2_with fail
              go_roundw
              case rel =>
                have := HLT.out
                refine ⟨k + 1, by omega, by go_num, ?_, HB'.out⟩
                rw [HTK.out, HE.out, show (⟨#[32, 45, 62, 32, 112, 111, 114, 116, 32]⟩ : ByteArray) = ⟨([32, 45, 62, 32, 112, 111, 114, 116, 32] : List UInt8).toArray⟩ from rfl, show (⟨#[10]⟩ : ByteArray) = ⟨([10] : List UInt8).toArray⟩ from rfl, str2, str2, str2, str2]
              case measure =>
                have := HLT.out
                simp [intOf]; omega
      | false =>
        rw [hd] at e1
        have HR0 : Hid (basP x 0 = R0) := by
          show _ = _
          rw [hR0]
          unfold basP
          simp
        have hRR : R0 = decI x.prio.n := by rw [hR0]; unfold frP; rw [hd]; rfl
        clear hR0 hd
        go_wp2_with fail
        go_loopw [6, 7] (fun s i wr => ∃ q : Nat, q ≤ n1 ∧ i = .int .i64 (q : Int) ∧ s = .string ⟨(basP x q).toArray⟩ ∧ wr.heap[G]? = some (.cells (rawV x (.slice o1 n1 c1)) 28 (0, 0)) ∧ Below w.heap.size w wr) (fun _ i _ => n1 - (intOf i).toNat)
        case atStart => exact ⟨0, Nat.zero_le _, rfl, by rw [HR0.out, hRR], K2.out, B2.out⟩
        case round =>
          clear K2 B2 e1
          obtain ⟨q, hq, rfl, rfl, hr, hb⟩ := hrel
          have K2 : Hid (wr.heap[G]? = some (.cells (rawV x (.slice o1 n1 c1)) 28 (0, 0))) := hr
          have HB : Hid (Below w.heap.size w wr) := hb
          clear hr hb
          obtain ⟨-, -, -, f4, f5, f6⟩ := raw_g6 K2.out
          by_cases hqn : q < n1
          · obtain ⟨g1, off1, cur1, ty1, fr1, c, u', rfl, hg, hc, hcj, hcl⟩ := NSl.at HCX.out q hqn
            have K1 : Hid (wr.heap[g1]? = some (.cells cur1 ty1 fr1)) := (HB.out.block g1 (Array.getElem?_eq_some_iff.1 hg).1).trans hg
            obtain ⟨o2, c2, rfl, h21, h22⟩ := GSl.slice hcl
            obtain ⟨n2, hn2⟩ : ∃ n2, n2 = c.nums.length := ⟨_, rfl⟩
            have HN2 : Hid (n2 = c.nums.length) := hn2
            rw [← hn2] at hcl hc h21
            have HCC : Hid (FigsAt w c (.slice o2 n2 c2)) := hcl
            have H1 : Hid (∀ i, i < 5 → cur1[off1 + q * 5 + i]? = (claV c (.slice o2 n2 c2))[i]?) := hc
            have HCQ : Hid (x.clauses[q]? = some c) := hcj
            have HOC : Hid (∀ f ∈ c.nums, okN f.n) := HOX.out.2.2 c (List.mem_of_getElem? hcj)
            have HBL : Hid ((basP x q).length ≤ 700000) := by have h1 := basP_row x q; have h2 := HRL.out; show _ ≤ _; omega
            have HIL : Hid (∀ j, j ≤ n2 → (innP x q c j).length ≤ 700000) := fun j hj => by have h1 := innP_row hcj (j := j) (by omega); have h2 := HRL.out; omega
            have HWL : Hid (c.word.length ≤ 700000) := by
              have h1 := HIL.out 0 (Nat.zero_le _)
              rw [innP_zero] at h1
              simp only [List.length_append] at h1
              show _ ≤ _
              omega
            have hqn' : (q : Int) < (n1 : Int) := by omega
            have HQN : Hid (q < n1) := hqn
            unfold maxLen at h22
            obtain ⟨A, hA⟩ : ∃ A, A = basP x q := ⟨_, rfl⟩
            have HA : Hid (A = basP x q) := hA
            rw [← hA] at HBL ⊢
            have l1 : ¬ 9223372036854775807 < A.length + 1 := by have := HBL.out; omega
            have l2 : ¬ 9223372036854775807 < A.length + 1 + c.word.length := by have := HBL.out; have := HWL.out; omega
            have l3 : ¬ 9223372036854775807 < A.length + 1 + c.word.length + 1 := by have := HBL.out; have := HWL.out; omega
            obtain ⟨W1, hW1⟩ : ∃ W1, W1 = wr.alloc (.cells (claV c (.slice o2 n2 c2)) 31) := ⟨_, rfl⟩
            have KF : Hid (W1.heap[wr.heap.size]? = some (.cells (claV c (.slice o2 n2 c2)) 31 (0, 0))) := by rw [hW1]; exact heap_new _ _ _ rfl
            have K3 : Hid (W1.heap[G]? = some (.cells (rawV x (.slice (some ⟨g1, off1, none⟩) n1 c1)) 28 (0, 0))) := by rw [hW1]; exact heap_past _ _ _ _ K2.out
            have BW1 : Hid (Below w.heap.size w W1) := by rw [hW1]; exact HB.out.alloc HB.out.size _
            have f0 := (cla_g6 KF.out).1
            rw [hW1] at f0
            clear hg hc hcj hcl hn2 hA hqn f5 f6
            go_wp2_with (first
              | (refine wl_loadE (E := ClaE) ClaOk rfl _ rfl g1 (off1 + q * 5) rfl cur1 ty1 fr1 (claV c (.slice o2 n2 c2)) rfl K1.out H1.out ?_)
              | (refine wl_storeE (E := ClaE) ClaOk rfl _ _ rfl wr.heap.size (claV c (.slice o2 n2 c2)) ⟨rfl, by simp [claV, Value.oneCell']⟩ rfl rfl _ (heap_new _ _ _ rfl) rfl _ (setRow_new _ _ _ _ _ rfl) ?_))
            rw [← hW1]
            have hz2 : Hid (G < wr.heap.size) := (Array.getElem?_eq_some_iff.1 K2.out).1
            obtain ⟨G2, hG2⟩ : ∃ G2, G2 = wr.heap.size := ⟨_, rfl⟩
            rw [← hG2] at KF hz2 ⊢
            have HST : Hid ((⟨A.toArray⟩ ++ ⟨#[32]⟩ ++ ⟨c.word.toArray⟩ ++ ⟨#[32]⟩ : ByteArray) = ⟨(innP x q c 0).toArray⟩) := by
              show _ = _
              rw [innP_zero, ← HA.out, show (⟨#[32]⟩ : ByteArray) = ⟨([32] : List UInt8).toArray⟩ from rfl, str2, str2, str2]
            clear f0 f4 K1 K2 H1 HB hW1 hG2 l1 l2 l3
            go_loopw [6, 9] (fun s i wr => ∃ j : Nat, j ≤ n2 ∧ i = .int .i64 (j : Int) ∧ s = .string ⟨(innP x q c j).toArray⟩ ∧ wr.heap[G]? = some (.cells (rawV x (.slice (some ⟨g1, off1, none⟩) n1 c1)) 28 (0, 0)) ∧ wr.heap[G2]? = some (.cells (claV c (.slice o2 n2 c2)) 31 (0, 0)) ∧ Below w.heap.size w wr) (fun _ i _ => n2 - (intOf i).toNat)
            case atStart => exact ⟨0, Nat.zero_le _, rfl, by rw [← HST.out], K3.out, KF.out, BW1.out⟩
            case round =>
              clear K3 KF BW1
              obtain ⟨j, hj, rfl, rfl, hr, hr2, hb⟩ := hrel
              have K2 : Hid (wr.heap[G]? = some (.cells (rawV x (.slice (some ⟨g1, off1, none⟩) n1 c1)) 28 (0, 0))) := hr
              have K3 : Hid (wr.heap[G2]? = some (.cells (claV c (.slice o2 n2 c2)) 31 (0, 0))) := hr2
              have HB : Hid (Below w.heap.size w wr) := hb
              clear hr hr2 hb
              obtain ⟨-, -, d2, d3, d4⟩ := cla_g6 K3.out
              by_cases hjn : j < n2
              · obtain ⟨g2, off2, cur2, ty2, fr2, f, rfl, hg, hc, hFj⟩ := (GSl.below HCC.out HB.out).at j hjn
                have cf : wr.cell? ⟨g2, off2 + j * 2, none⟩ = some (.int .i64 f.n) := by rw [cell_of_row _ _ _ _ _ _ hg]; exact hc 0 (by decide)
                have hOf := HOC.out f (List.mem_of_getElem? hFj)
                have DF : Hid (∀ W, Calls Tryd.prog 9 #[.int .i64 f.n] W fun e w' => e = .returned (.string ⟨(decI f.n).toArray⟩) ∧ Below W.heap.size W w') := DE.out _ hOf
                have hDl := decI_len f.n hOf.1 hOf.2
                have hAl := HIL.out j hj
                have hjn' : (j : Int) < (n2 : Int) := by omega
                have HJN : Hid (j < n2) := hjn
                have HZ : Hid (j = 0 → innP x q c (j + 1) = innP x q c j ++ decI f.n) := fun h => by subst h; exact innP_first x q c hFj
                have HY : Hid (j ≠ 0 → innP x q c (j + 1) = (innP x q c j ++ [signJ c j]) ++ decI f.n) := fun h => innP_next x q c h hFj
                obtain ⟨A, hA⟩ : ∃ A, A = innP x q c j := ⟨_, rfl⟩
                obtain ⟨D, hD⟩ : ∃ D, D = decI f.n := ⟨_, rfl⟩
                rw [← hA] at HZ HY hAl ⊢
                rw [← hD] at HZ HY hDl DF
                have l1 : ¬ 9223372036854775807 < A.length + 1 := by omega
                have l2 : ¬ 9223372036854775807 < A.length + 1 + D.length := by omega
                have l3 : ¬ 9223372036854775807 < A.length + D.length := by omega
                clear hg hc hFj hOf hDl hAl hA hD hjn
                by_cases hjl : j + 1 = n2
                · have hjl' : (n2 : Int) = (j : Int) + 1 := by omega
                  have HSG : Hid (signJ c j = lastSign c) := by
                    show _ = _
                    unfold signJ
                    rw [if_pos (by rw [← HN2.out]; exact hjl)]
                  clear hjl
                  cases hsl : c.slash with
                  | true =>
                    rw [hsl] at d3
                    cases hda : c.dash with
                    | true =>
                      rw [hda] at d4
                      have HS2 : Hid (signJ c j = 47) := by
                        show _ = _
                        rw [HSG.out]
                        unfold lastSign
                        rw [hsl]
                        rfl
                      by_cases hj0 : j = 0
                      · subst hj0
                        have HE : Hid (innP x q c (0 + 1) = A ++ D) := HZ.out rfl
                        simp only [Nat.zero_mul, Nat.add_zero] at cf
                        obtain rfl : n2 = 1 := by omega
                        clear hjl'
                        skip
                        go_wp2_with fail
                        refine (DF.out _).mono ?_
                        rintro e w3 ⟨rfl, hb3⟩
                        have K2' : Hid (w3.heap[G]? = some (.cells (rawV x (.slice (some ⟨g1, off1, none⟩) n1 c1)) 28 (0, 0))) := (hb3.block _ (Array.getElem?_eq_some_iff.1 K2.out).1).trans K2.out
                        have K3' : Hid (w3.heap[G2]? = some (.cells (claV c (.slice (some ⟨g2, off2, none⟩) 1 c2)) 31 (0, 0))) := (hb3.block _ (Array.getElem?_eq_some_iff.1 K3.out).1).trans K3.out
                        have HB' : Hid (Below w.heap.size w w3) := HB.out.trans (hb3.mono HB.out.size)
                        clear hb3 cf d2 d3 d4
                        go_wp2_with fail
                        go_roundw
                        case rel =>
                          have := HJN.out
                          refine ⟨0 + 1, by omega, by go_num, ?_, K2'.out, K3'.out, HB'.out⟩
                          rw [HE.out, str2]
                        case measure =>
                          have := HJN.out
                          simp [intOf] <;> omega
                      · have hj1 : (0 : Int) < (j : Int) := by omega
                        have HE : Hid (innP x q c (j + 1) = (A ++ [47]) ++ D) := by
                          have := HY.out hj0
                          rwa [HS2.out] at this
                        clear hj0
                        go_wp2_with fail
                        refine (DF.out _).mono ?_
                        rintro e w3 ⟨rfl, hb3⟩
                        have K2' : Hid (w3.heap[G]? = some (.cells (rawV x (.slice (some ⟨g1, off1, none⟩) n1 c1)) 28 (0, 0))) := (hb3.block _ (Array.getElem?_eq_some_iff.1 K2.out).1).trans K2.out
                        have K3' : Hid (w3.heap[G2]? = some (.cells (claV c (.slice (some ⟨g2, off2, none⟩) n2 c2)) 31 (0, 0))) := (hb3.block _ (Array.getElem?_eq_some_iff.1 K3.out).1).trans K3.out
                        have HB' : Hid (Below w.heap.size w w3) := HB.out.trans (hb3.mono HB.out.size)
                        clear hb3 cf d2 d3 d4
                        go_wp2_with fail
                        go_roundw
                        case rel =>
                          have := HJN.out
                          refine ⟨j + 1, by omega, by go_num, ?_, K2'.out, K3'.out, HB'.out⟩
                          rw [HE.out, show (⟨#[47]⟩ : ByteArray) = ⟨([47] : List UInt8).toArray⟩ from rfl, str2, str2]
                        case measure =>
                          have := HJN.out
                          simp [intOf] <;> omega
                    | false =>
                      rw [hda] at d4
                      have HS2 : Hid (signJ c j = 47) := by
                        show _ = _
                        rw [HSG.out]
                        unfold lastSign
                        rw [hsl]
                        rfl
                      by_cases hj0 : j = 0
                      · subst hj0
                        have HE : Hid (innP x q c (0 + 1) = A ++ D) := HZ.out rfl
                        simp only [Nat.zero_mul, Nat.add_zero] at cf
                        obtain rfl : n2 = 1 := by omega
                        clear hjl'
                        skip
                        go_wp2_with fail
                        refine (DF.out _).mono ?_
                        rintro e w3 ⟨rfl, hb3⟩
                        have K2' : Hid (w3.heap[G]? = some (.cells (rawV x (.slice (some ⟨g1, off1, none⟩) n1 c1)) 28 (0, 0))) := (hb3.block _ (Array.getElem?_eq_some_iff.1 K2.out).1).trans K2.out
                        have K3' : Hid (w3.heap[G2]? = some (.cells (claV c (.slice (some ⟨g2, off2, none⟩) 1 c2)) 31 (0, 0))) := (hb3.block _ (Array.getElem?_eq_some_iff.1 K3.out).1).trans K3.out
                        have HB' : Hid (Below w.heap.size w w3) := HB.out.trans (hb3.mono HB.out.size)
                        clear hb3 cf d2 d3 d4
                        go_wp2_with fail
                        go_roundw
                        case rel =>
                          have := HJN.out
                          refine ⟨0 + 1, by omega, by go_num, ?_, K2'.out, K3'.out, HB'.out⟩
                          rw [HE.out, str2]
                        case measure =>
                          have := HJN.out
                          simp [intOf] <;> omega
                      · have hj1 : (0 : Int) < (j : Int) := by omega
                        have HE : Hid (innP x q c (j + 1) = (A ++ [47]) ++ D) := by
                          have := HY.out hj0
                          rwa [HS2.out] at this
                        clear hj0
                        go_wp2_with fail
                        refine (DF.out _).mono ?_
                        rintro e w3 ⟨rfl, hb3⟩
                        have K2' : Hid (w3.heap[G]? = some (.cells (rawV x (.slice (some ⟨g1, off1, none⟩) n1 c1)) 28 (0, 0))) := (hb3.block _ (Array.getElem?_eq_some_iff.1 K2.out).1).trans K2.out
                        have K3' : Hid (w3.heap[G2]? = some (.cells (claV c (.slice (some ⟨g2, off2, none⟩) n2 c2)) 31 (0, 0))) := (hb3.block _ (Array.getElem?_eq_some_iff.1 K3.out).1).trans K3.out
                        have HB' : Hid (Below w.heap.size w w3) := HB.out.trans (hb3.mono HB.out.size)
                        clear hb3 cf d2 d3 d4
                        go_wp2_with fail
                        go_roundw
                        case rel =>
                          have := HJN.out
                          refine ⟨j + 1, by omega, by go_num, ?_, K2'.out, K3'.out, HB'.out⟩
                          rw [HE.out, show (⟨#[47]⟩ : ByteArray) = ⟨([47] : List UInt8).toArray⟩ from rfl, str2, str2]
                        case measure =>
                          have := HJN.out
                          simp [intOf] <;> omega
                  | false =>
                    rw [hsl] at d3
                    cases hda : c.dash with
                    | true =>
                      rw [hda] at d4
                      have HS2 : Hid (signJ c j = 45) := by
                        show _ = _
                        rw [HSG.out]
                        unfold lastSign
                        rw [hsl, hda]
                        rfl
                      by_cases hj0 : j = 0
                      · subst hj0
                        have HE : Hid (innP x q c (0 + 1) = A ++ D) := HZ.out rfl
                        simp only [Nat.zero_mul, Nat.add_zero] at cf
                        obtain rfl : n2 = 1 := by omega
                        clear hjl'
                        skip
                        go_wp2_with fail
                        refine (DF.out _).mono ?_
                        rintro e w3 ⟨rfl, hb3⟩
                        have K2' : Hid (w3.heap[G]? = some (.cells (rawV x (.slice (some ⟨g1, off1, none⟩) n1 c1)) 28 (0, 0))) := (hb3.block _ (Array.getElem?_eq_some_iff.1 K2.out).1).trans K2.out
                        have K3' : Hid (w3.heap[G2]? = some (.cells (claV c (.slice (some ⟨g2, off2, none⟩) 1 c2)) 31 (0, 0))) := (hb3.block _ (Array.getElem?_eq_some_iff.1 K3.out).1).trans K3.out
                        have HB' : Hid (Below w.heap.size w w3) := HB.out.trans (hb3.mono HB.out.size)
                        clear hb3 cf d2 d3 d4
                        go_wp2_with fail
                        go_roundw
                        case rel =>
                          have := HJN.out
                          refine ⟨0 + 1, by omega, by go_num, ?_, K2'.out, K3'.out, HB'.out⟩
                          rw [HE.out, str2]
                        case measure =>
                          have := HJN.out
                          simp [intOf] <;> omega
                      · have hj1 : (0 : Int) < (j : Int) := by omega
                        have HE : Hid (innP x q c (j + 1) = (A ++ [45]) ++ D) := by
                          have := HY.out hj0
                          rwa [HS2.out] at this
                        clear hj0
                        go_wp2_with fail
                        refine (DF.out _).mono ?_
                        rintro e w3 ⟨rfl, hb3⟩
                        have K2' : Hid (w3.heap[G]? = some (.cells (rawV x (.slice (some ⟨g1, off1, none⟩) n1 c1)) 28 (0, 0))) := (hb3.block _ (Array.getElem?_eq_some_iff.1 K2.out).1).trans K2.out
                        have K3' : Hid (w3.heap[G2]? = some (.cells (claV c (.slice (some ⟨g2, off2, none⟩) n2 c2)) 31 (0, 0))) := (hb3.block _ (Array.getElem?_eq_some_iff.1 K3.out).1).trans K3.out
                        have HB' : Hid (Below w.heap.size w w3) := HB.out.trans (hb3.mono HB.out.size)
                        clear hb3 cf d2 d3 d4
                        go_wp2_with fail
                        go_roundw
                        case rel =>
                          have := HJN.out
                          refine ⟨j + 1, by omega, by go_num, ?_, K2'.out, K3'.out, HB'.out⟩
                          rw [HE.out, show (⟨#[45]⟩ : ByteArray) = ⟨([45] : List UInt8).toArray⟩ from rfl, str2, str2]
                        case measure =>
                          have := HJN.out
                          simp [intOf] <;> omega
                    | false =>
                      rw [hda] at d4
                      have HS2 : Hid (signJ c j = 46) := by
                        show _ = _
                        rw [HSG.out]
                        unfold lastSign
                        rw [hsl, hda]
                        rfl
                      by_cases hj0 : j = 0
                      · subst hj0
                        have HE : Hid (innP x q c (0 + 1) = A ++ D) := HZ.out rfl
                        simp only [Nat.zero_mul, Nat.add_zero] at cf
                        obtain rfl : n2 = 1 := by omega
                        clear hjl'
                        skip
                        go_wp2_with fail
                        refine (DF.out _).mono ?_
                        rintro e w3 ⟨rfl, hb3⟩
                        have K2' : Hid (w3.heap[G]? = some (.cells (rawV x (.slice (some ⟨g1, off1, none⟩) n1 c1)) 28 (0, 0))) := (hb3.block _ (Array.getElem?_eq_some_iff.1 K2.out).1).trans K2.out
                        have K3' : Hid (w3.heap[G2]? = some (.cells (claV c (.slice (some ⟨g2, off2, none⟩) 1 c2)) 31 (0, 0))) := (hb3.block _ (Array.getElem?_eq_some_iff.1 K3.out).1).trans K3.out
                        have HB' : Hid (Below w.heap.size w w3) := HB.out.trans (hb3.mono HB.out.size)
                        clear hb3 cf d2 d3 d4
                        go_wp2_with fail
                        go_roundw
                        case rel =>
                          have := HJN.out
                          refine ⟨0 + 1, by omega, by go_num, ?_, K2'.out, K3'.out, HB'.out⟩
                          rw [HE.out, str2]
                        case measure =>
                          have := HJN.out
                          simp [intOf] <;> omega
                      · have hj1 : (0 : Int) < (j : Int) := by omega
                        have HE : Hid (innP x q c (j + 1) = (A ++ [46]) ++ D) := by
                          have := HY.out hj0
                          rwa [HS2.out] at this
                        clear hj0
                        go_wp2_with fail
                        refine (DF.out _).mono ?_
                        rintro e w3 ⟨rfl, hb3⟩
                        have K2' : Hid (w3.heap[G]? = some (.cells (rawV x (.slice (some ⟨g1, off1, none⟩) n1 c1)) 28 (0, 0))) := (hb3.block _ (Array.getElem?_eq_some_iff.1 K2.out).1).trans K2.out
                        have K3' : Hid (w3.heap[G2]? = some (.cells (claV c (.slice (some ⟨g2, off2, none⟩) n2 c2)) 31 (0, 0))) := (hb3.block _ (Array.getElem?_eq_some_iff.1 K3.out).1).trans K3.out
                        have HB' : Hid (Below w.heap.size w w3) := HB.out.trans (hb3.mono HB.out.size)
                        clear hb3 cf d2 d3 d4
                        go_wp2_with fail
                        go_roundw
                        case rel =>
                          have := HJN.out
                          refine ⟨j + 1, by omega, by go_num, ?_, K2'.out, K3'.out, HB'.out⟩
                          rw [HE.out, show (⟨#[46]⟩ : ByteArray) = ⟨([46] : List UInt8).toArray⟩ from rfl, str2, str2]
                        case measure =>
                          have := HJN.out
                          simp [intOf] <;> omega
                · have hjl' : ((j : Int) == (n2 : Int) - 1) = false := by simp; omega
                  have hjl2 : ¬ (j : Int) = (n2 : Int) - 1 := by omega
                  have HS2 : Hid (signJ c j = 46) := by
                    show _ = _
                    unfold signJ
                    rw [if_neg (by rw [← HN2.out]; exact hjl)]
                  clear hjl
                  by_cases hj0 : j = 0
                  · subst hj0
                    have HE : Hid (innP x q c (0 + 1) = A ++ D) := HZ.out rfl
                    simp only [Nat.zero_mul, Nat.add_zero] at cf
                    have hjz : ¬ (0 : Int) = (n2 : Int) - 1 := by omega
                    have hjy : ((0 : Int) == (n2 : Int) - 1) = false := by simp; omega
                    clear hjl' hjl2
                    go_wp2_with fail
                    refine (DF.out _).mono ?_
                    rintro e w3 ⟨rfl, hb3⟩
                    have K2' : Hid (w3.heap[G]? = some (.cells (rawV x (.slice (some ⟨g1, off1, none⟩) n1 c1)) 28 (0, 0))) := (hb3.block _ (Array.getElem?_eq_some_iff.1 K2.out).1).trans K2.out
                    have K3' : Hid (w3.heap[G2]? = some (.cells (claV c (.slice (some ⟨g2, off2, none⟩) n2 c2)) 31 (0, 0))) := (hb3.block _ (Array.getElem?_eq_some_iff.1 K3.out).1).trans K3.out
                    have HB' : Hid (Below w.heap.size w w3) := HB.out.trans (hb3.mono HB.out.size)
                    clear hb3 cf d2 d3 d4
                    go_wp2_with fail
                    go_roundw
                    case rel =>
                      have := HJN.out
                      refine ⟨0 + 1, by omega, by go_num, ?_, K2'.out, K3'.out, HB'.out⟩
                      rw [HE.out, str2]
                    case measure =>
                      have := HJN.out
                      simp [intOf] <;> omega
                  · have hj1 : (0 : Int) < (j : Int) := by omega
                    have HE : Hid (innP x q c (j + 1) = (A ++ [46]) ++ D) := by
                      have := HY.out hj0
                      rwa [HS2.out] at this
                    clear hj0
                    go_wp2_with fail
                    refine (DF.out _).mono ?_
                    rintro e w3 ⟨rfl, hb3⟩
                    have K2' : Hid (w3.heap[G]? = some (.cells (rawV x (.slice (some ⟨g1, off1, none⟩) n1 c1)) 28 (0, 0))) := (hb3.block _ (Array.getElem?_eq_some_iff.1 K2.out).1).trans K2.out
                    have K3' : Hid (w3.heap[G2]? = some (.cells (claV c (.slice (some ⟨g2, off2, none⟩) n2 c2)) 31 (0, 0))) := (hb3.block _ (Array.getElem?_eq_some_iff.1 K3.out).1).trans K3.out
                    have HB' : Hid (Below w.heap.size w w3) := HB.out.trans (hb3.mono HB.out.size)
                    clear hb3 cf d2 d3 d4
                    go_wp2_with fail
                    go_roundw
                    case rel =>
                      have := HJN.out
                      refine ⟨j + 1, by omega, by go_num, ?_, K2'.out, K3'.out, HB'.out⟩
                      rw [HE.out, show (⟨#[46]⟩ : ByteArray) = ⟨([46] : List UInt8).toArray⟩ from rfl, str2, str2]
                    case measure =>
                      have := HJN.out
                      simp [intOf] <;> omega
              · obtain rfl : j = n2 := by omega
                have hjn' : ¬ (j : Int) < (j : Int) := by omega
                have HE : Hid (innP x q c j = basP x (q + 1)) := by
                  show _ = _
                  rw [basP_next HCQ.out, HN2.out]
                clear hjn
                go_wp2_with fail
                go_roundw
                case rel =>
                  have := HQN.out
                  exact ⟨q + 1, by omega, by go_num, by rw [HE.out], K2.out, HB.out⟩
                case measure =>
                  have := HQN.out
                  simp [intOf]; omega
          · obtain rfl : q = n1 := by omega
            have hqn' : ¬ (q : Int) < (q : Int) := by omega
            have HBS : Hid (basP x q = headP x) := by
              show _ = _
              unfold basP headP frP
              rw [List.take_of_length_le (by have := HN1.out; omega)]
            have hAl := basP_row x q
            have hRL := HRL.out
            have hPo := HOX.out.2.1
            have DF : Hid (∀ W, Calls Tryd.prog 9 #[.int .i64 x.port.n] W fun e w' => e = .returned (.string ⟨(decI x.port.n).toArray⟩) ∧ Below W.heap.size W w') := DE.out _ hPo
            have hDl := decI_len x.port.n hPo.1 hPo.2
            obtain ⟨A, hA⟩ : ∃ A, A = basP x q := ⟨_, rfl⟩
            obtain ⟨D, hD⟩ : ∃ D, D = decI x.port.n := ⟨_, rfl⟩
            have HAH : Hid (A = headP x) := hA.trans HBS.out
            have HDD : Hid (D = decI x.port.n) := hD
            rw [← hA] at hAl ⊢
            rw [← hD] at hDl DF
            clear hA hD hPo hqn
            cases hdr : x.drop with
            | true =>
              have HE : Hid (rowP x = A ++ [32, 45, 62, 32, 100, 114, 111, 112, 10]) := by
                show _ = _
                unfold rowP actP
                rw [← HAH.out, hdr]
                rfl
              rw [hdr] at f5
              have l1 : ¬ 9223372036854775807 < A.length + 9 := by omega
              have l2 : ¬ 9223372036854775807 < T0.length + (A.length + 9) := by omega
              clear hAl hRL hDl hdr
              go_wp2_with fail
              go_roundw
              case rel =>
                have := HLT.out
                refine ⟨k + 1, by omega, by go_num, ?_, HB.out⟩
                rw [HTK.out, HE.out, show (⟨#[32, 45, 62, 32, 100, 114, 111, 112, 10]⟩ : ByteArray) = ⟨([32, 45, 62, 32, 100, 114, 111, 112, 10] : List UInt8).toArray⟩ from rfl, str2, str2]
              case measure =>
                have := HLT.out
                simp [intOf]; omega
            | false =>
              have HE : Hid (rowP x = ((A ++ [32, 45, 62, 32, 112, 111, 114, 116, 32]) ++ D) ++ [10]) := by
                show _ = _
                unfold rowP actP
                rw [← HAH.out, hdr, HDD.out]
                simp [wPort]
              rw [hdr] at f5
              have l1 : ¬ 9223372036854775807 < A.length + 9 := by omega
              have l2 : ¬ 9223372036854775807 < A.length + 9 + D.length := by omega
              have l3 : ¬ 9223372036854775807 < A.length + 9 + D.length + 1 := by omega
              have l4 : ¬ 9223372036854775807 < T0.length + (A.length + 9 + D.length + 1) := by omega
              clear hAl hRL hDl hdr
              go_wp2_with fail
              refine (DF.out _).mono ?_
              rintro e w3 ⟨rfl, hb3⟩
              have HB' : Hid (Below w.heap.size w w3) := HB.out.trans (hb3.mono HB.out.size)
              clear hb3 f4 f5 f6
              go_wp2_with fail
              go_roundw
              case rel =>
                have := HLT.out
                refine ⟨k + 1, by omega, by go_num, ?_, HB'.out⟩
                rw [HTK.out, HE.out, show (⟨#[32, 45, 62, 32, 112, 111, 114, 116, 32]⟩ : ByteArray) = ⟨([32, 45, 62, 32, 112, 111, 114, 116, 32] : List UInt8).toArray⟩ from rfl, show (⟨#[10]⟩ : ByteArray) = ⟨([10] : List UInt8).toArray⟩ from rfl, str2, str2, str2, str2]
              case measure =>
                have := HLT.out
                simp [intOf]; omega
    · have hlt' : ¬ (k : Int) < (n : Int) := by omega
      have htk : l.take k = l := List.take_of_length_le (by have := HN.out; omega)
      rw [htk, ← HS.out]
      clear hlt htk
      go_wp2_with fail
      go_ret
      exact ⟨rfl, HB.out⟩
end Go.Proofs.YtgcfdcgmddjhbaaDoor
