import Derived.Test.YtgcfdcgmddjhbaaDoorPrLine
import Derived.Laws.IdiomStrings
namespace Go.Proofs.YtgcfdcgmddjhbaaDoor
open Go Go.RowKit
set_option maxRecDepth 20000

theorem print_take_le (l : List Raw) (k : Nat) : (printT (l.take k)).length ≤ (printT l).length := by
  have h : printT l = printT (l.take k) ++ printT (l.drop k) := by unfold printT; rw [← List.flatMap_append, List.take_append_drop]
  rw [h, List.length_append]
  omega
theorem conv_buf {B : Nat} {w : World} {v : Value} {bs : List UInt8} (h : Buf B w v bs) : (convert 37 9 v).run Tryd.prog w = .ok (.string ⟨bs.toArray⟩) w := by
  rcases h.2 with ⟨rfl, h0⟩ | ⟨g, cap, cur, rfl, -, -, -, -, -, -⟩
  · obtain rfl : bs = [] := List.length_eq_zero_iff.1 h0
    kernel_rfl
  · exact run_convert_bytes_back (P := Tryd.prog) w 37 9 5 ⟨g, 0, none⟩ cap bs Tryd.underlying37 Tryd.underlying5 Tryd.underlying9 (fun j hj => h.cells (g := g) rfl j _ (by simp [Lib.byteCells, hj]))
set_option maxHeartbeats 8000000 in
set_option maxRecDepth 100000 in
theorem print_any (l : List Raw) (vl : Value) (w : World) (hl : RawsAt w vl l) (hok : ∀ x ∈ l, okNs x) (hnl : ∀ x ∈ l, ∀ c ∈ x.clauses, c.nums.length ≤ 900000) (hn : (printT l).length ≤ 700000) (htab : Lib.TabIs Tryd.prog w "internal/strconv.uint64pow10" .u64 Lib.pow10Tab) :
    Calls Tryd.prog 5 #[vl] w fun e w' => e = .returned (.string ⟨(printT l).toArray⟩) ∧ Below w.heap.size w w' := by
  have CL : Hid (∀ (x : Raw) u v bs W, x ∈ l → ClasAt w x u → Below w.heap.size w W → Buf w.heap.size W v bs → bs.length + (rowP x).length ≤ 800000 → Calls Tryd.prog 8 #[v, .agg (rawV x u)] W fun e w' => ∃ v', e = .returned v' ∧ Pt w.heap.size W w' v' (bs ++ rowP x)) := fun x u v bs W hx hu h0 hb hn => printLine_any w.heap.size w rfl x u hu (hok x hx) v bs W h0 hb hn (hnl x hx) ((Lib.tabBelow_of_tabIs htab).on h0)
  obtain ⟨o, cap, rfl, hc1, hc2⟩ := NSl.slice hl
  obtain ⟨n, hnn⟩ : ∃ n, n = l.length := ⟨_, rfl⟩
  have HN : Hid (n = l.length) := hnn
  rw [← hnn] at hl hc1 ⊢
  unfold maxLen at hc2
  have HL : Hid (RawsAt w (.slice o n cap) l) := hl
  have HC : Hid (∀ W v bs, Buf w.heap.size W v bs → (convert 37 9 v).run Tryd.prog W = .ok (.string ⟨bs.toArray⟩) W) := fun W v bs h => conv_buf h
  have HLEN : Hid ((printT l).length ≤ 700000) := hn
  obtain ⟨S, hS⟩ : ∃ S, S = printT l := ⟨_, rfl⟩
  rw [← hS]
  have HS : Hid (S = printT l) := hS
  clear hl hok hnl hn htab hnn hS
  go_enter Tryd.func5, Tryd.ntmps5
  go_wp2_with fail
  go_loopw [3, 8] (fun b i wr => ∃ k : Nat, k ≤ n ∧ i = .int .i64 (k : Int) ∧ Pt w.heap.size w wr b (printT (l.take k))) (fun _ i _ => n - (intOf i).toNat)
  case atStart => exact ⟨0, Nat.zero_le _, rfl, World.ownsRow_nil _ _ _ _, Below.refl _ _, Lib.OthersKept.refl _ _ _⟩
  case round =>
    obtain ⟨k, hk, rfl, PJ⟩ := hrel
    have HPJ : Hid (Pt w.heap.size w wr u3 (printT (l.take k))) := PJ
    have zj : w.heap.size ≤ wr.heap.size := PJ.below.size
    clear PJ
    by_cases hlt : k < n
    · obtain ⟨g, off, cur, ty, fr, x, u', rfl, hg, hc, hcj, hcl⟩ := NSl.at HL.out k hlt
      have hg' : wr.heap[g]? = some (.cells cur ty fr) := (HPJ.out.below.block g (Array.getElem?_eq_some_iff.1 hg).1).trans hg
      obtain ⟨o', c', rfl, _, _⟩ := NSl.slice hcl
      have HCX : Hid (ClasAt w x (.slice o' x.clauses.length c')) := hcl
      have HMX : Hid (x ∈ l) := List.mem_of_getElem? hcj
      have HTK : Hid (printT (l.take (k + 1)) = printT (l.take k) ++ rowP x) := print_take _ k x hcj
      have K1 : Hid (wr.heap[g]? = some (.cells cur ty fr)) := hg'
      have H1 : Hid (∀ q, q < 8 → cur[off + k * 8 + q]? = (rawV x (.slice o' x.clauses.length c'))[q]?) := hc
      have hlt' : (k : Int) < (n : Int) := by omega
      have HAL : Hid (Pt w.heap.size w (wr.alloc (.cells (rawV x (.slice o' x.clauses.length c')) 28)) u3 (printT (l.take k))) := HPJ.out.alloc zj _
      have KF : Hid ((wr.alloc (.cells (rawV x (.slice o' x.clauses.length c')) 28)).heap[wr.heap.size]? = some (.cells (rawV x (.slice o' x.clauses.length c')) 28 (0, 0))) := heap_new _ _ _ rfl
      clear hg hg' hc hcj hcl
      go_wp2_with (first
        | (refine wl_loadE (E := RawE) RawOk rfl _ rfl g (off + k * 8) rfl cur ty fr (rawV x (.slice o' x.clauses.length c')) rfl K1.out H1.out ?_)
        | (refine wl_storeE (E := RawE) RawOk rfl _ _ rfl wr.heap.size (rawV x (.slice o' x.clauses.length c')) ⟨rfl, by simp [rawV, Value.oneCell']⟩ rfl rfl _ (heap_new _ _ _ rfl) rfl _ (setRow_new _ _ _ _ _ rfl) ?_)
        | (refine wl_loadE (E := RawE) RawOk rfl _ rfl wr.heap.size 0 rfl _ _ _ (rawV x (.slice o' x.clauses.length c')) rfl KF.out (own_cells _ _) ?_))
      refine (CL.out x _ _ _ _ HMX.out HCX.out HAL.out.below HAL.out.buf ?_).mono ?_
      · have h1 := print_take_le l (k + 1)
        rw [HTK.out, List.length_append] at h1
        have h2 := HLEN.out
        omega
      rintro e w6 ⟨v6, rfl, P6⟩
      have HP6 : Hid (Pt w.heap.size w w6 v6 (printT (l.take (k + 1)))) := by show Pt _ _ _ _ _; rw [HTK.out]; exact HAL.out.trans P6
      clear P6
      go_wp2_with fail
      go_roundw
      case rel => exact ⟨k + 1, by omega, by go_num, HP6.out⟩
      case measure => simp [intOf]; omega
    · have hlt' : (n : Int) ≤ (k : Int) := by omega
      have htk : l.take k = l := List.take_of_length_le (by have := HN.out; omega)
      rw [htk, ← HS.out] at HPJ
      have hcv := HC.out wr u3 _ HPJ.out.buf
      clear hlt htk
      go_wp2_with fail
      go_ret
      exact ⟨rfl, HPJ.out.below⟩
end Go.Proofs.YtgcfdcgmddjhbaaDoor
