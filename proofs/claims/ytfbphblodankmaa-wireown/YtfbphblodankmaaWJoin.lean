import Derived.Test.YtfbphblodankmaaWNum
import Derived.Great.BuildSlice
namespace Go.Proofs.Ytfbphblodankmaa
open Go Go.RowKit
set_option maxRecDepth 20000

/-- Some lists of bytes, and the values that hold them. -/
def Lists (w : World) : List Value → List (List UInt8) → Prop
  | [], [] => True
  | v :: vs, L :: Ls => BSl w v L ∧ Lists w vs Ls
  | _, _ => False
theorem Lists.len {w : World} : ∀ {vs : List Value} {Ls : List (List UInt8)}, Lists w vs Ls → vs.length = Ls.length
  | [], [], _ => rfl
  | [], _ :: _, h => False.elim h
  | _ :: _, [], h => False.elim h
  | _ :: vs, _ :: Ls, h => by rw [List.length_cons, List.length_cons, Lists.len (vs := vs) (Ls := Ls) h.2]
theorem Lists.below {w w' : World} (hb : Below w.heap.size w w') : ∀ {vs : List Value} {Ls : List (List UInt8)}, Lists w vs Ls → Lists w' vs Ls
  | [], [], _ => trivial
  | [], _ :: _, h => False.elim h
  | _ :: _, [], h => False.elim h
  | _ :: vs, _ :: Ls, h => ⟨h.1.below hb, Lists.below hb (vs := vs) (Ls := Ls) h.2⟩
theorem Lists.at {w : World} : ∀ {vs : List Value} {Ls : List (List UInt8)}, Lists w vs Ls → ∀ (k : Nat) (hk : k < vs.length), ∃ L, Ls[k]? = some L ∧ BSl w vs[k] L
  | [], _, _, _, hk => absurd hk (by simp)
  | _ :: _, [], h, _, _ => False.elim h
  | v :: vs, L :: Ls, h, 0, _ => ⟨L, rfl, h.1⟩
  | v :: vs, L :: Ls, h, k + 1, hk => Lists.at (vs := vs) (Ls := Ls) h.2 k (by simpa using hk)
theorem flatten_take {Ls : List (List UInt8)} {k : Nat} {L : List UInt8} (h : Ls[k]? = some L) : (Ls.take (k + 1)).flatten = (Ls.take k).flatten ++ L := by
  rw [List.take_add_one, h]
  simp
theorem flatten_take_le (Ls : List (List UInt8)) (k : Nat) : (Ls.take k).flatten.length ≤ Ls.flatten.length := by
  conv => rhs; rw [← List.take_append_drop k Ls]
  rw [List.flatten_append, List.length_append]
  omega

set_option maxHeartbeats 2000000 in
theorem join_any (g : Nat) (vs : List Value) (Ls : List (List UInt8)) (w : World) (hg : w.heap[g]? = some (.cells vs.toArray 22 (0, 0))) (hvs : vs.length ≤ 100) (hL : Lists w vs Ls) (hn : Ls.flatten.length ≤ 140737488355328) :
    Calls Try.prog 26 #[.slice (some ⟨g, 0, none⟩) vs.length vs.length] w fun e w' => ∃ v, e = .returned v ∧ BOwn w.heap.size w' v Ls.flatten ∧ Below w.heap.size w w' := by
  obtain ⟨n, hnn⟩ : ∃ n, n = vs.length := ⟨_, rfl⟩
  have HN : Hid (n = vs.length) := hnn
  have HL : Hid (Lists w vs Ls) := hL
  have HG : Hid (w.heap[g]? = some (.cells vs.toArray 22 (0, 0))) := hg
  have hgl : g < w.heap.size := (Array.getElem?_eq_some_iff.1 hg).1
  have HF : Hid (∀ k L, Ls[k]? = some L → (Ls.take k).flatten.length + L.length ≤ 140737488355328) := fun k L h => by
    have h1 := flatten_take_le Ls (k + 1)
    rw [flatten_take h, List.length_append] at h1
    omega
  rw [← hnn] at hvs ⊢
  clear hnn hL hg hn
  go_enter Try.func26, Try.ntmps26
  go_wp2_with fail
  go_loopw [3, 8] (fun o i W => ∃ k : Nat, k ≤ n ∧ i = .int .i64 k ∧ BOwn w.heap.size W o (Ls.take k).flatten ∧ Below w.heap.size w W) (fun _ i _ => n - (intOf i).toNat)
  case atStart => exact ⟨0, Nat.zero_le _, rfl, by simpa using BOwn.nil _ _, Below.refl _ _⟩
  case round =>
    obtain ⟨k, hk, rfl, ho, hb⟩ := hrel
    have hsl := ho.sl.slice
    obtain ⟨D, hD⟩ : ∃ D, D = (Ls.take k).flatten := ⟨_, rfl⟩
    have HD : Hid (D = (Ls.take k).flatten) := hD
    rw [← hD] at ho hsl
    obtain ⟨m, hm⟩ : ∃ m, m = D.length := ⟨_, rfl⟩
    have HM : Hid (m = D.length) := hm
    rw [← hm] at hsl
    obtain ⟨o3, cap3, rfl, _, _⟩ := hsl
    have HO : Hid (BOwn w.heap.size wr (.slice o3 m cap3) D) := ho
    have HB : Hid (Below w.heap.size w wr) := hb
    by_cases hlt : k < n
    · have hkv : k < vs.length := by rw [← HN.out]; exact hlt
      obtain ⟨L, hLk, hLs⟩ := HL.out.at k hkv
      obtain ⟨u, hu⟩ : ∃ u, u = vs[k] := ⟨_, rfl⟩
      have hU : BSl wr u L := by rw [hu]; exact hLs.below hb
      have hc : wr.cell? ⟨g, k, none⟩ = some u := by
        rw [cell_of_row _ _ _ _ _ _ ((hb.block g hgl).trans HG.out), hu]
        simp [hkv]
      obtain ⟨l, hl⟩ : ∃ l, l = L.length := ⟨_, rfl⟩
      have HLL : Hid (l = L.length) := hl
      have hsl := hU.slice
      rw [← hl] at hsl
      clear hu
      obtain ⟨ou, capu, rfl, _, _⟩ := hsl
      have HU : Hid (BSl wr (.slice ou l capu) L) := hU
      have HFK : Hid (D.length + L.length ≤ 140737488355328) := by rw [HD.out]; exact HF.out k L hLk
      have HFT : Hid ((Ls.take (k + 1)).flatten = D ++ L) := by rw [HD.out]; exact flatten_take hLk
      have hsz := hb.size
      clear hLs hU ho hb hkv hLk hD hm hl
      go_wp2_with (first
        | (at_builtin; refine of_stopW ?_))
      unfold StopW
      refine wl_appW rfl _ _ rfl w.heap.size (.slice o3 m cap3) (.slice ou l capu) D L rfl HO.out rfl HU.out HFK.out (by omega) ?_
      intro v' w' ho' hgr _
      have HO2 : Hid (BOwn w.heap.size w' v' (Ls.take (k + 1)).flatten) := by rw [HFT.out]; exact ho'
      have HB2 : Hid (Below w.heap.size w w') := HB.out.grown hgr hsz fun q hq => (HO.out.ge q hq).1
      simp only [Act.put, List.setIfInBounds_toArray, List.set_cons_succ, List.set_cons_zero]
      clear ho' hgr
      go_wp2_with fail
      go_roundw
      case rel => exact ⟨k + 1, by omega, by go_num, HO2.out, HB2.out⟩
      case measure => simp [intOf]; omega
    · obtain rfl : k = n := by omega
      clear ho hb hD hm
      go_wp2_with fail
      go_ret
      refine ⟨_, rfl, ?_, HB.out⟩
      have := HO.out
      rw [HD.out, HN.out, HL.out.len, List.take_length] at this
      exact this
end Go.Proofs.Ytfbphblodankmaa
