import Derived.Test.YtjlghkiplapodaaSl
import Derived.Laws.AppendOwnNone
namespace Go.Proofs.Ytjlghkiplapodaa
open Go Go.RowKit

theorem own_slice {w : World} {B : Nat} {e : TypeId} {s : Nat} {v : Value} {n : Nat} {xs : List Value} (h : w.ownsRow B e s v n xs) : ∃ o cap, v = .slice o n cap := by
  obtain ⟨_, ⟨rfl, rfl⟩ | ⟨g, cap, cur, rfl, _⟩⟩ := h
  · exact ⟨none, 0, rfl⟩
  · exact ⟨_, cap, rfl⟩
theorem ccells_len (C : List (List Int × List Int)) (hC : Byts C) : (ccells C).length = C.length * 26 := by
  induction C with
  | nil => rfl
  | cons c C ih =>
    have h1 := hC c (by simp)
    rw [show ccells (c :: C) = (cv c.1 c.2).toList ++ ccells C by simp [ccells], List.length_append, ih (fun d hd => hC d (by simp [hd])), Array.length_toList, cv_size _ _ h1.1.1 h1.2.1, List.length_cons]
    omega
theorem ccells_one' (C : List (List Int × List Int)) : ∀ u ∈ ccells C, u.oneCell' = true := fun u hu => by
  unfold ccells at hu
  rw [List.mem_flatMap] at hu
  obtain ⟨c, _, hc⟩ := hu
  exact (Array.all_eq_true_iff_forall_mem.1 (cv_one c.1 c.2)) u (by simpa using hc)

/-- Cubes of one's own row appended to another one's. -/
theorem wl_appendC {ops : Array Oper} {rest : List Oper} {o : Oper} {a : Act} {w : World} {Q : Exit → Act → World → Prop} (hgd : o.guard = none) (s x : Operand) (ho : o.op = .call { callee := .builtin .append, args := #[s, x], argTypes := #[22, 22] })
    (base base' : Nat) (v u : Value) (C D : List (List Int × List Int)) (hs : a.eval s = v) (hown : w.ownsRow base 30 26 v C.length (ccells C)) (hx : a.eval x = u) (hu : w.ownsRow base' 30 26 u D.length (ccells D)) (hD : Byts D)
    (hn : C.length + D.length ≤ 1000000) (hbase : base ≤ w.heap.size)
    (h : ∀ v' w', w'.ownsRow base 30 26 v' (C ++ D).length (ccells (C ++ D)) → w.grownBy w' v.ownBlock → wpList Try.prog ops Q rest (a.put o.dst v') w') : wpList Try.prog ops Q (o :: rest) a w := by
  obtain ⟨i0, hi, hz0, hz1, hz2⟩ := infoC
  have hu0 := hu
  obtain ⟨_, ⟨rfl, h0⟩ | ⟨g, cap, cur, rfl, hB, hcur, h1, h2, h3, h4⟩⟩ := hu
  · have hD0 : D = [] := List.eq_nil_of_length_eq_zero h0
    subst hD0
    refine wpList_append_own_none hgd s x 22 ho base 30 i0 26 Try.underlying22 hi v _ _ hs hown hx (h v w ?_ ?_)
    · rw [List.append_nil]; exact hown
    · exact ⟨rfl, rfl, rfl, Nat.le_refl _, fun k _ _ => rfl⟩
  · refine wpList_append_own w hgd s x 22 ho base 30 i0 (.agg zeroC) 26 26 Try.underlying22 hi hz0 hz1 hz2 rfl (by decide) v _ _ hs hown ⟨g, 0, none⟩ D.length cap (ccells D) hx (ccells_len D hD) (fun j y hy => ?_) (ccells_one' D) (by unfold maxLen; omega) (by omega) hbase ?_
    · have hj : j < D.length * 26 := by rw [← ccells_len D hD]; exact (List.getElem?_eq_some_iff.1 hy).1
      have hadd : (⟨g, 0, none⟩ : Addr).add j = ⟨g, j, none⟩ := by unfold Addr.add; split <;> simp_all
      rw [hadd, hu0.cellAt j hj]; exact hy
    · intro v' w' h5 h6 _
      refine h v' w' ?_ h6
      rw [List.length_append, ccells_append]; exact h5
end Go.Proofs.Ytjlghkiplapodaa
