import Derived.Test.YtjlghkiplapodaaJ5
import Derived.Test.YtjlghkiplapodaaJ7
import Derived.Deep.Slices
import Derived.Laws.AppendOwnNone
import Derived.OrdersHeld
namespace Go.Proofs.Ytjlghkiplapodaa
open Go.ChangeShapes Go.WideShapes Go.ChangeAt Go.WideMaps Go.WideElems Go.RowKit

theorem cube_of {H : Type} {enc : TypeId × Value → H} {W : World} {base : Nat} {spare : Nat → Bool} {held : Bool} {fuel : Nat} {cs : List Value} {x : DataW H × List MemPlace} (hl : cs.length = 26)
    (h : DataW.trod enc Try.prog W base spare held fuel 30 cs = some x) : ∃ V M : List Int, cs = (cv V M).toList ∧ Byt V ∧ Byt M := by
  have c13 : Try.prog.cellsOf 24 = 13 := by kernel_rfl
  obtain ⟨y0, y1, k, hy, _, t0, t1⟩ := trod_struct2 Try.underlying30 h
  rw [c13] at t0 t1
  obtain ⟨V, hV, bV⟩ := bytes_of (by simp; omega) t0
  obtain ⟨M, hM, bM⟩ := bytes_of (by simp; omega) t1
  refine ⟨V, M, ?_, bV, bM⟩
  unfold cv hv
  rw [List.map_append, ← hV, ← hM]
  simp only [List.drop_zero]
  rw [List.take_of_length_le (l := List.drop 13 cs) (by simp; omega), List.take_append_drop]

/-- A slice of cubes that comes in. -/
theorem open_cubes {H : Type} {enc : TypeId × Value → H} {W : World} {r : Reach} {b0 base : Nat} {spare : Nat → Bool} {held : Bool} {v : Value} {d : DataW H} {p : List MemPlace}
    (hok : Value.okWide Try.prog W r b0 22 v) (h : DataW.Trod enc Try.prog W base spare held 22 v d p) : ∃ C, Sl W v C := by
  have c26 : Try.prog.cellsOf 30 = 26 := by kernel_rfl
  obtain ⟨fuel, hf⟩ := h
  have hv1 : v.cells.toList = [v] := by
    simp only [Value.okWide, Cell.okWide, Cell.ok, Try.underlying22] at hok
    cases v <;> simp_all [Value.cells]
  rw [hv1] at hf
  rcases Deep.open_slice Try.underlying22 hf with ⟨h0, _⟩ | ⟨a, len, cap, m, n, D, Pl, h0, hb, hl, hm, hmm, _, hx⟩
  · obtain rfl : v = .slice none 0 0 := by simpa using h0
    exact ⟨[], fun c hc => absurd hc (by simp), none, 0, rfl, Nat.le_refl _, Nat.zero_le _, fun i hi => absurd hi (by simp)⟩
  · obtain rfl : v = .slice (some a) len cap := by simpa using h0
    rw [c26] at hx
    have hlm : len ≤ m := by rw [hmm]; split <;> omega
    have each : ∀ i, i < len → ∃ c : List Int × List Int, (Byt c.1 ∧ Byt c.2) ∧ ∀ j, j < 26 → W.cell? (a.add (i * 26 + j)) = (cv c.1 c.2)[j]? := fun i hi => by
      obtain ⟨cs', h1, h2⟩ := hx i (by omega)
      obtain ⟨_, hlen, hcell⟩ := World.cells?_some h1
      obtain ⟨V, M, h3, h4, h5⟩ := cube_of hlen h2
      refine ⟨(V, M), ⟨h4, h5⟩, fun j hj => ?_⟩
      have := hcell j hj
      rw [Deep.add_add] at this
      rw [this, h3]
      simp
    obtain ⟨f, hf⟩ := Deep.choose_lt each
    refine ⟨(List.range len).map f, fun c hc => ?_, some a, cap, by simp, by simpa using hl, hm, fun i hi => ?_⟩
    · rw [List.mem_map] at hc
      obtain ⟨i, hi, rfl⟩ := hc
      exact (hf i (by simpa using hi)).1
    · have hi' : i < len := by simpa using hi
      have h1 := (hf i hi').2
      obtain ⟨g, off, sp⟩ := a
      have h26 := cv_size _ _ (hf i hi').1.1.1 (hf i hi').1.2.1
      -- the block
      have hj : ∀ j, j < 26 → ∃ cur t fr, W.heap[g]? = some (.cells cur t fr) ∧ cur[off + i * 26 + j]? = (cv (f i).1 (f i).2)[j]? ∧ (i * 26 + j = 0 → sp = none) := fun j hj => by
        have h2 := h1 j hj
        obtain ⟨y, hy⟩ : ∃ y, (cv (f i).1 (f i).2)[j]? = some y := ⟨_, Array.getElem?_eq_getElem (by omega)⟩
        rw [hy] at h2 ⊢
        unfold World.cell? at h2
        split at h2
        · rename_i cur t fr hq
          have hbk : (Addr.add ⟨g, off, sp⟩ (i * 26 + j)).block = g := by unfold Addr.add; split <;> rfl
          have hof : (Addr.add ⟨g, off, sp⟩ (i * 26 + j)).off = off + i * 26 + j := by unfold Addr.add; split <;> simp_all [Nat.add_assoc]
          rw [hbk] at hq
          rw [hof] at h2
          split at h2
          · cases h2
          · rename_i hsp
            refine ⟨cur, t, fr, hq, h2, fun h0 => ?_⟩
            unfold Addr.add at hsp
            rw [if_pos h0] at hsp
            simpa using hsp
        · cases h2
      have hsp : sp = none := by
        obtain ⟨cur, t, fr, h2, h3, h4⟩ := hj 0 (by decide)
        by_cases hi0 : i = 0
        · exact h4 (by omega)
        · have h5 := (hf 0 (by omega)).2 0 (by decide)
          obtain ⟨y, hy⟩ : ∃ y, (cv (f 0).1 (f 0).2)[0]? = some y := ⟨_, Array.getElem?_eq_getElem (by rw [cv_size _ _ (hf 0 (by omega)).1.1.1 (hf 0 (by omega)).1.2.1]; omega)⟩
          rw [hy] at h5
          unfold World.cell? at h5
          split at h5
          · split at h5
            · cases h5
            · rename_i hs
              simpa [Addr.add] using hs
          · cases h5
      subst hsp
      obtain ⟨cur, t, fr, h2, _, _⟩ := hj 0 (by decide)
      refine ⟨g, off, cur, t, fr, rfl, h2, fun j hjl => ?_⟩
      obtain ⟨cur', t', fr', h3, h4, _⟩ := hj j hjl
      rw [h2] at h3
      obtain ⟨rfl, rfl, rfl⟩ : cur = cur' ∧ t = t' ∧ fr = fr' := by simpa using h3
      rw [h4]
      simp
end Go.Proofs.Ytjlghkiplapodaa
namespace Go.Proofs.Ytjlghkiplapodaa
open Go Go.RowKit

theorem own_slice {w : World} {B : Nat} {e : TypeId} {s : Nat} {v : Value} {n : Nat} {xs : List Value} (h : w.ownsRow B e s v n xs) : ∃ o cap, v = .slice o n cap := by
  obtain ⟨_, ⟨rfl, rfl⟩ | ⟨g, cap, cur, rfl, _⟩⟩ := h
  · exact ⟨none, 0, rfl⟩
  · exact ⟨_, cap, rfl⟩
theorem ccells_len (C : List (List Int × List Int)) (hC : Byts C) : (ccells C).length = C.length * 26 := by
  induction C with
  | nil => rfl
  | cons c C ih =>
    have h1 := hC c (by simp)
    rw [show ccells (c :: C) = (cv c.1 c.2).toList ++ ccells C by simp [ccells], List.length_append, ih (fun d hd => hC d (by simp [hd])), Array.length_toList, cv_size _ _ h1.1.1 h1.2.1, List.length_cons]
    omega
theorem ccells_one' (C : List (List Int × List Int)) : ∀ u ∈ ccells C, u.oneCell' = true := fun u hu => by
  unfold ccells at hu
  rw [List.mem_flatMap] at hu
  obtain ⟨c, _, hc⟩ := hu
  exact (Array.all_eq_true_iff_forall_mem.1 (cv_one c.1 c.2)) u (by simpa using hc)

/-- Cubes of one's own row appended to another one's. -/
theorem wl_appendC {ops : Array Oper} {rest : List Oper} {o : Oper} {a : Act} {w : World} {Q : Exit → Act → World → Prop} (hgd : o.guard = none) (s x : Operand) (ho : o.op = .call { callee := .builtin .append, args := #[s, x], argTypes := #[22, 22] })
    (base base' : Nat) (v u : Value) (C D : List (List Int × List Int)) (hs : a.eval s = v) (hown : w.ownsRow base 30 26 v C.length (ccells C)) (hx : a.eval x = u) (hu : w.ownsRow base' 30 26 u D.length (ccells D)) (hD : Byts D)
    (hn : C.length + D.length ≤ 1000000) (hbase : base ≤ w.heap.size)
    (h : ∀ v' w', w'.ownsRow base 30 26 v' (C ++ D).length (ccells (C ++ D)) → w.grownBy w' v.ownBlock → wpList Try.prog ops Q rest (a.put o.dst v') w') : wpList Try.prog ops Q (o :: rest) a w := by
  obtain ⟨i0, hi, hz0, hz1, hz2⟩ := infoC
  have hu0 := hu
  obtain ⟨_, ⟨rfl, h0⟩ | ⟨g, cap, cur, rfl, hB, hcur, h1, h2, h3, h4⟩⟩ := hu
  · have hD0 : D = [] := List.eq_nil_of_length_eq_zero h0
    subst hD0
    refine wpList_append_own_none hgd s x 22 ho base 30 i0 26 Try.underlying22 hi v _ _ hs hown hx (h v w ?_ ?_)
    · rw [List.append_nil]; exact hown
    · exact ⟨rfl, rfl, rfl, Nat.le_refl _, fun k _ _ => rfl⟩
  · refine wpList_append_own w hgd s x 22 ho base 30 i0 (.agg zeroC) 26 26 Try.underlying22 hi hz0 hz1 hz2 rfl (by decide) v _ _ hs hown ⟨g, 0, none⟩ D.length cap (ccells D) hx (ccells_len D hD) (fun j y hy => ?_) (ccells_one' D) (by unfold maxLen; omega) (by omega) hbase ?_
    · have hj : j < D.length * 26 := by rw [← ccells_len D hD]; exact (List.getElem?_eq_some_iff.1 hy).1
      have hadd : (⟨g, 0, none⟩ : Addr).add j = ⟨g, j, none⟩ := by unfold Addr.add; split <;> simp_all
      rw [hadd, hu0.cellAt j hj]; exact hy
    · intro v' w' h5 h6 _
      refine h v' w' ?_ h6
      rw [List.length_append, ccells_append]; exact h5
end Go.Proofs.Ytjlghkiplapodaa
namespace Go.Proofs.Ytjlghkiplapodaa
open Go Go.RowKit

/-- What one cube more leaves of some pieces. -/
def minusL (P : List (List Int × List Int)) (b : List Int × List Int) : List (List Int × List Int) := P.flatMap fun p => minusC p.1 p.2 b.1 b.2
theorem minusL_take {P : List (List Int × List Int)} {b : List Int × List Int} {k : Nat} {U N : List Int} (hk : P[k]? = some (U, N)) : minusL (P.take (k + 1)) b = minusL (P.take k) b ++ minusC U N b.1 b.2 := by
  unfold minusL
  rw [List.take_add_one, hk]
  simp
theorem minusL_le (P : List (List Int × List Int)) (b : List Int × List Int) (k : Nat) : (minusL (P.take k) b).length ≤ (minusL P b).length := by
  conv => rhs; rw [← List.take_append_drop k P]
  unfold minusL
  rw [List.flatMap_append, List.length_append]
  omega
theorem byts_minusL (P : List (List Int × List Int)) (hP : Byts P) (b : List Int × List Int) : Byts (minusL P b) := by
  intro c hc
  unfold minusL at hc
  rw [List.mem_flatMap] at hc
  obtain ⟨p, hp, hc⟩ := hc
  exact byts_minus _ _ _ _ (hP p hp).2 c hc
/-- What a list leaves of pieces. -/
def leftGo (most : Nat) : List (List Int × List Int) → List (List Int × List Int) → Option (List (List Int × List Int))
  | P, [] => some P
  | P, b :: l => if most < (minusL P b).length then none else leftGo most (minusL P b) l
/-- What a list leaves of a cube. -/
def leftC (V M : List Int) (L : List (List Int × List Int)) (most : Nat) : Option (List (List Int × List Int)) := if most < 1 then none else leftGo most [(can V M, M)] L

/-- What a number of pieces counts as. -/
def bnd (m : Int) : Nat := (min (max m 0) 1000).toNat
theorem bnd_le (m : Int) : bnd m ≤ 1000 := by unfold bnd; omega

set_option maxHeartbeats 4000000 in
theorem without_any (C : List (List Int × List Int)) (V M : List Int) (hV : Byt V) (hM : Byt M) (most : Nat) (hmost : most ≤ 1000) (hn : C.length ≤ 1000000) (v : Value) (w : World) (hs : Sl w v C) :
    Calls Try.prog 31 #[v, .agg (cv V M), .int .i64 (most : Int)] w fun e w' => ((∃ u, e = .returned (.tuple #[u, .int .i64 0]) ∧ (minusL C (V, M)).length ≤ most ∧ w'.ownsRow w.heap.size 30 26 u (minusL C (V, M)).length (ccells (minusL C (V, M)))) ∨ (e = .returned (.tuple #[.slice none 0 0, .int .i64 4]) ∧ most < (minusL C (V, M)).length)) ∧ Below w.heap.size w w' := by
  obtain ⟨o, cap, rfl, _, _⟩ := hs.slice
  obtain ⟨n, hne⟩ : ∃ n, n = C.length := ⟨_, rfl⟩
  rw [← hne] at hs hn ⊢
  have HN : Hid (n = C.length) := hne
  have HS : Hid (Sl w (.slice o n cap) C) := hs
  have hVl := hV.1
  have hMl := hM.1
  have CM : Hid (∀ U N : List Int, Byt U → Byt N → ∀ W, Calls Try.prog 46 #[.agg (cv U N), .agg (cv V M)] W fun e w' => ∃ v, e = .returned v ∧ w'.ownsRow W.heap.size 30 26 v (minusC U N V M).length (ccells (minusC U N V M)) ∧ Below W.heap.size W w') := fun U N h1 h2 => minus_any U N V M h1 h2 hV hM
  clear hs hne hV hM
  go_enter Try.func31, Try.ntmps31
  go_wp2_with fail
  go_loopw [8, 13] (fun out i wr => ∃ k : Nat, k ≤ n ∧ i = .int .i64 k ∧ (minusL (C.take k) (V, M)).length ≤ most ∧ wr.ownsRow (w.heap.size + 1) 30 26 out (minusL (C.take k) (V, M)).length (ccells (minusL (C.take k) (V, M))) ∧ wr.heap[w.heap.size]? = some (.cells (cv V M) 30 (0, 0)) ∧ Below w.heap.size w wr) (fun _ i _ => n - (intOf i).toNat)
  case atStart => exact ⟨0, Nat.zero_le _, rfl, Nat.zero_le _, World.ownsRow_nil _ _ _ _, heap_new _ _ _ rfl, (Below.refl _ _).alloc (Nat.le_refl _) _⟩
  case round =>
    obtain ⟨k, hk, rfl, hl, hown, g0, hb⟩ := hrel
    have z0 := (Array.getElem?_eq_some_iff.1 g0).1
    by_cases hlt : k < n
    · obtain ⟨g, off, cur, t, fr, U, N, rfl, hg, hc, hCk, hU, hN⟩ := HS.out.at k hlt
      have hUl := hU.1
      have hNl := hN.1
      have D1 : Hid (∀ W, Calls Try.prog 46 #[.agg (cv U N), .agg (cv V M)] W fun e w' => ∃ v, e = .returned v ∧ w'.ownsRow W.heap.size 30 26 v (minusC U N V M).length (ccells (minusC U N V M)) ∧ Below W.heap.size W w') := CM.out U N hU hN
      have hg' : wr.heap[g]? = some (.cells cur t fr) := (hb.block g (Array.getElem?_eq_some_iff.1 hg).1).trans hg
      have HC : Hid (∀ j, j < 26 → cur[off + k * 26 + j]? = (cv U N)[j]?) := hc
      have HT : Hid (minusL (C.take (k + 1)) (V, M) = minusL (C.take k) (V, M) ++ minusC U N V M) := minusL_take hCk
      have HBD : Hid (Byts (minusC U N V M)) := byts_minus U N V M hN
      have hE : (minusC U N V M).length ≤ 104 := len_minus U N V M
      obtain ⟨D, hD⟩ : ∃ D, D = minusL (C.take k) (V, M) := ⟨_, rfl⟩
      obtain ⟨E, hEe⟩ : ∃ E, E = minusC U N V M := ⟨_, rfl⟩
      rw [← hD] at hl hown HT
      rw [← hEe] at D1 HT HBD hE
      have OWN : Hid (wr.ownsRow (w.heap.size + 1) 30 26 u8 D.length (ccells D)) := hown
      have k0 := heap_past wr (.cells (cv U N) 30) _ _ g0
      have k1 := heap_new wr (.cells (cv U N) 30) _ rfl
      have B2 := hb.alloc hb.size (.cells (cv U N) 30)
      clear hg hc hCk hU hN hD hEe hown hb
      go_wp2_with (first
        | (refine wl_loadCat rfl _ rfl g (off + k * 26) rfl cur t fr U N hUl hNl hg' HC.out ?_)
        | (refine wl_storeC rfl _ _ rfl wr.heap.size U N rfl rfl _ (heap_new _ _ _ rfl) rfl hUl hNl _ (setRow_new _ _ _ _ _ rfl) ?_)
        | (refine wl_loadC rfl _ rfl wr.heap.size rfl U N k1 hUl hNl ?_)
        | (refine wl_loadC rfl _ rfl w.heap.size rfl V M k0 hVl hMl ?_))
      refine (D1.out _).mono ?_
      rintro e w1 ⟨u, rfl, hu, hb1⟩
      have g1 : w1.heap[w.heap.size]? = some (.cells (cv V M) 30 (0, 0)) := by rw [hb1.block _ (by simp; omega)]; exact k0
      have B3 := B2.trans (hb1.mono B2.size)
      have OWN1 : Hid (w1.ownsRow (w.heap.size + 1) 30 26 u8 D.length (ccells D)) := own_below ((OWN.out).alloc _) hb1
      have z1 : w.heap.size + 1 ≤ w1.heap.size := Nat.le_trans (by simp; omega) hb1.size
      have HU : Hid (w1.ownsRow (wr.alloc (.cells (cv U N) 30)).heap.size 30 26 u E.length (ccells E)) := hu
      clear k0 k1 B2 hb1 D1 g0 OWN hu hg'
      go_wp2_with (first
        | (at_builtin; refine of_stopped ?_))
      unfold Stopped
      refine wl_appendC rfl _ _ rfl (w.heap.size + 1) _ _ _ D E rfl OWN1.out rfl HU.out HBD.out (by omega) z1 ?_
      intro v' w2 hown2 hgr
      have B4 : Below (w.heap.size + 1) w1 w2 := (Below.refl _ _).grown hgr z1 (fun q hq => (OWN1.out.lt q hq).1)
      obtain ⟨o2, cap2, rfl⟩ := own_slice hown2
      have g2 : w2.heap[w.heap.size]? = some (.cells (cv V M) 30 (0, 0)) := by rw [B4.block _ (by omega)]; exact g1
      have B5 : Below w.heap.size w w2 := B3.trans (B4.mono (by omega))
      have hlen : (D ++ E).length ≤ 1104 := by rw [List.length_append]; omega
      obtain ⟨n2, hn2⟩ : ∃ n2, n2 = (D ++ E).length := ⟨_, rfl⟩
      have HN2 : Hid (n2 = (D ++ E).length) := hn2
      rw [← hn2] at hown2 hlen ⊢
      have OWN2 : Hid (w2.ownsRow (w.heap.size + 1) 30 26 (.slice o2 n2 cap2) n2 (ccells (D ++ E))) := hown2
      simp only [Act.put, List.setIfInBounds_toArray, List.set_cons_succ, List.set_cons_zero]
      clear hn2 hown2 hgr B4 B3 g1 OWN1 HU
      by_cases hgt : most < n2
      · go_wp2_with fail
        go_ret2
        refine ⟨.inr ⟨rfl, ?_⟩, B5⟩
        have := minusL_le C (V, M) (k + 1)
        rw [HT.out, ← HN2.out] at this
        omega
      · go_wp2_with fail
        go_roundw
        case rel =>
          refine ⟨k + 1, by omega, by go_num, ?_, ?_, g2, B5⟩
          · rw [HT.out, ← HN2.out]; omega
          · rw [HT.out, ← HN2.out]; exact OWN2.out
        case measure => simp [intOf]; omega
    · obtain rfl : k = n := by omega
      have OWN : Hid (wr.ownsRow (w.heap.size + 1) 30 26 u8 (minusL (C.take k) (V, M)).length (ccells (minusL (C.take k) (V, M)))) := hown
      have HL : Hid ((minusL (C.take k) (V, M)).length ≤ most) := hl
      have HT : Hid (C.take k = C) := by show _ = _; rw [HN.out, List.take_length]
      clear hown hl
      go_wp2_with fail
      go_ret2
      have h1 := OWN.out
      have h2 := HL.out
      rw [HT.out] at h1 h2
      exact ⟨.inl ⟨_, rfl, h2, own_base h1 (by omega)⟩, hb⟩

theorem bound_any (m : Int) (w : World) : Calls Try.prog 29 #[.int .i64 m] w fun e w' => e = .returned (.int .i64 ((bnd m : Nat) : Int)) ∧ Below w.heap.size w w' := by
  by_cases h0 : m < 0
  · go_enter Try.func29, Try.ntmps29
    go_wp2
    go_ret
    exact ⟨ret_int (by unfold bnd; omega), Below.refl _ _⟩
  · by_cases h1 : 1000 < m
    · go_enter Try.func29, Try.ntmps29
      go_wp2
      go_ret
      exact ⟨ret_int (by unfold bnd; omega), Below.refl _ _⟩
    · go_enter Try.func29, Try.ntmps29
      go_wp2
      go_ret
      exact ⟨ret_int (by unfold bnd; omega), Below.refl _ _⟩
theorem rbound_any (m : Int) (w : World) : Calls Try.prog 32 #[.int .i64 m] w fun e w' => e = .returned (.int .i64 ((bnd m : Nat) : Int)) ∧ Below w.heap.size w w' := by
  by_cases h0 : m < 0
  · go_enter Try.func32, Try.ntmps32
    go_wp2
    go_ret
    exact ⟨ret_int (by unfold bnd; omega), Below.refl _ _⟩
  · by_cases h1 : m > 1000
    · go_enter Try.func32, Try.ntmps32
      go_wp2
      go_ret
      exact ⟨ret_int (by unfold bnd; omega), Below.refl _ _⟩
    · go_enter Try.func32, Try.ntmps32
      go_wp2
      go_ret
      exact ⟨ret_int (by unfold bnd; omega), Below.refl _ _⟩

theorem sl_one (w : World) (V M : List Int) (hV : Byt V) (hM : Byt M) : Sl (w.alloc (.cells (cv V M) 30)) (.slice (some ⟨w.heap.size, 0, none⟩) 1 1) [(V, M)] := by
  have := World.ownsRow_lit (base := w.heap.size) (e := 30) (size := 26) w (cv V M) 1 (Nat.le_refl _) (by unfold maxLen; omega) (by rw [cv_size _ _ hV.1 hM.1])
  rw [← ccells_one] at this
  exact sl_of this (fun c hc => by rw [List.mem_singleton.1 hc]; exact ⟨hV, hM⟩)
theorem sl_none (w : World) : Sl w (.slice none 0 0) [] := ⟨fun c hc => absurd hc (by simp), none, 0, rfl, Nat.le_refl _, Nat.zero_le _, fun i hi => absurd hi (by simp)⟩
theorem leftGo_cons {most : Nat} {P L : List (List Int × List Int)} {k : Nat} {U N : List Int} (hk : L[k]? = some (U, N)) : leftGo most P (L.drop k) = if most < (minusL P (U, N)).length then none else leftGo most (minusL P (U, N)) (L.drop (k + 1)) := by
  obtain ⟨h, h2⟩ := List.getElem?_eq_some_iff.1 hk
  rw [List.drop_eq_getElem_cons h, h2, leftGo]

set_option maxHeartbeats 4000000 in
theorem left_any (V M : List Int) (hV : Byt V) (hM : Byt M) (L : List (List Int × List Int)) (hn : L.length ≤ 1000000) (m : Int) (v : Value) (w : World) (hs : Sl w v L) :
    Calls Try.prog 15 #[.agg (cv V M), v, .int .i64 m] w fun e w' => ((∃ R u, leftC V M L (bnd m) = some R ∧ R.length ≤ 1000 ∧ e = .returned (.tuple #[u, .int .i64 0]) ∧ Sl w' u R) ∨ (leftC V M L (bnd m) = none ∧ e = .returned (.tuple #[.slice none 0 0, .int .i64 4]))) ∧ Below w.heap.size w w' := by
  obtain ⟨o, cap, rfl, _, _⟩ := hs.slice
  obtain ⟨n, hne⟩ : ∃ n, n = L.length := ⟨_, rfl⟩
  rw [← hne] at hs hn ⊢
  have HN : Hid (n = L.length) := hne
  have HS : Hid (Sl w (.slice o n cap) L) := hs
  have hVl := hV.1
  have hMl := hM.1
  have hCl := (can_byt V M).1
  obtain ⟨most, hmo⟩ : ∃ most, most = bnd m := ⟨_, rfl⟩
  have hmost : most ≤ 1000 := by rw [hmo]; exact bnd_le m
  obtain ⟨R, hR⟩ : ∃ R, R = leftC V M L most := ⟨_, rfl⟩
  have C1 : Hid (∀ W, Calls Try.prog 29 #[.int .i64 m] W fun e w' => e = .returned (.int .i64 (most : Int)) ∧ Below W.heap.size W w') := by rw [hmo]; exact bound_any m
  have C2 : Hid (∀ W, Calls Try.prog 30 #[.agg (cv V M)] W fun e w' => e = .returned (.agg (cv (can V M) M)) ∧ Below W.heap.size W w') := canon_any V M hV hM
  have HCB : Hid (Byt (can V M) ∧ Byt M) := ⟨can_byt V M, hM⟩
  have CW : Hid (∀ (P : List (List Int × List Int)) (U N : List Int), Byt U → Byt N → P.length ≤ 1000000 → ∀ (v : Value) (W : World), Sl W v P → Calls Try.prog 31 #[v, .agg (cv U N), .int .i64 (most : Int)] W fun e w' => ((∃ u, e = .returned (.tuple #[u, .int .i64 0]) ∧ (minusL P (U, N)).length ≤ most ∧ w'.ownsRow W.heap.size 30 26 u (minusL P (U, N)).length (ccells (minusL P (U, N)))) ∨ (e = .returned (.tuple #[.slice none 0 0, .int .i64 4]) ∧ most < (minusL P (U, N)).length)) ∧ Below W.heap.size W w') := fun P U N h1 h2 h3 v W h4 => without_any P U N h1 h2 most hmost h3 v W h4
  have HR : Hid (R = if most < 1 then none else leftGo most [(can V M, M)] L) := hR
  rw [← hmo, ← hR]
  clear hs hne hV hM hmo hR
  go_enter Try.func15, Try.ntmps15
  go_wp2_with fail
  refine (C1.out _).mono ?_
  rintro e w1 ⟨rfl, hb1⟩
  have g0 : w1.heap[w.heap.size]? = some (.cells (cv V M) 30 (0, 0)) := by rw [hb1.block _ (by simp)]; exact heap_new _ _ _ rfl
  have B1 : Below w.heap.size w w1 := ((Below.refl _ _).alloc (Nat.le_refl _) _).trans (hb1.mono (by simp))
  clear hb1 C1
  go_wp2_with (first
    | (refine wl_loadC rfl _ rfl w.heap.size rfl V M g0 hVl hMl ?_))
  refine (C2.out _).mono ?_
  rintro e w2 ⟨rfl, hb2⟩
  have B2 := B1.trans (hb2.mono B1.size)
  have B3 := B2.alloc B2.size (.cells (cv (can V M) M) 30)
  clear hb2 C2 B1 g0
  by_cases hm1 : most < 1
  · go_wp2_with (first
      | (refine wl_build1 rfl _ rfl (can V M) M hCl hMl rfl ?_))
    go_ret2
    refine ⟨.inr ⟨?_, rfl⟩, B3⟩
    rw [HR.out, if_pos hm1]
  · have HSL : Hid (Sl (w2.alloc (.cells (cv (can V M) M) 30)) (.slice (some ⟨w2.heap.size, 0, none⟩) 1 1) [(can V M, M)]) := sl_one w2 _ _ HCB.out.1 HCB.out.2
    have HR2 : Hid (leftGo most [(can V M, M)] L = R) := by show _ = _; rw [HR.out, if_neg hm1]
    clear HR
    go_wp2_with (first
      | (refine wl_build1 rfl _ rfl (can V M) M hCl hMl rfl ?_))
    go_loopw [8, 24] (fun pc i wr => ∃ k : Nat, k ≤ n ∧ i = .int .i64 k ∧ ∃ P, P.length ≤ most ∧ leftGo most P (L.drop k) = R ∧ Sl wr pc P ∧ Below w.heap.size w wr) (fun _ i _ => n - (intOf i).toNat)
    case atStart => exact ⟨0, Nat.zero_le _, rfl, _, by simp; omega, HR2.out, HSL.out, B3⟩
    case round =>
      clear HSL HR2 B3 B2
      obtain ⟨k, hk, rfl, P, hP, hgo, hsl, hb⟩ := hrel
      have HGO : Hid (leftGo most P (L.drop k) = R) := hgo
      have HSL : Hid (Sl wr u8 P) := hsl
      clear hgo hsl
      by_cases hlt : k < n
      · obtain ⟨g, off, cur, t, fr, U, N, rfl, hg, hc, hLk, hU, hN⟩ := HS.out.at k hlt
        have hUl := hU.1
        have hNl := hN.1
        have hg' : wr.heap[g]? = some (.cells cur t fr) := (hb.block g (Array.getElem?_eq_some_iff.1 hg).1).trans hg
        have HC : Hid (∀ j, j < 26 → cur[off + k * 26 + j]? = (cv U N)[j]?) := hc
        have D1 : Hid (∀ W, Sl W u8 P → Calls Try.prog 31 #[u8, .agg (cv U N), .int .i64 (most : Int)] W fun e w' => ((∃ u, e = .returned (.tuple #[u, .int .i64 0]) ∧ (minusL P (U, N)).length ≤ most ∧ w'.ownsRow W.heap.size 30 26 u (minusL P (U, N)).length (ccells (minusL P (U, N)))) ∨ (e = .returned (.tuple #[.slice none 0 0, .int .i64 4]) ∧ most < (minusL P (U, N)).length)) ∧ Below W.heap.size W w') := fun W h => CW.out P U N hU hN (by omega) u8 W h
        have HST : Hid (leftGo most P (L.drop k) = if most < (minusL P (U, N)).length then none else leftGo most (minusL P (U, N)) (L.drop (k + 1))) := leftGo_cons hLk
        have k1 := heap_new wr (.cells (cv U N) 30) _ rfl
        have B2 := hb.alloc hb.size (.cells (cv U N) 30)
        have HSL2 : Hid (Sl (wr.alloc (.cells (cv U N) 30)) u8 P) := HSL.out.below ((Below.refl _ _).alloc (Nat.le_refl _) _)
        clear hg hc hLk hU hN
        go_wp2_with (first
          | (refine wl_loadCat rfl _ rfl g (off + k * 26) rfl cur t fr U N hUl hNl hg' HC.out ?_)
          | (refine wl_storeC rfl _ _ rfl wr.heap.size U N rfl rfl _ (heap_new _ _ _ rfl) rfl hUl hNl _ (setRow_new _ _ _ _ _ rfl) ?_)
          | (refine wl_loadC rfl _ rfl wr.heap.size rfl U N k1 hUl hNl ?_))
        refine (D1.out _ HSL2.out).mono ?_
        rintro e w4 ⟨⟨u, rfl, hle, hown⟩ | ⟨rfl, hgt⟩, hb4⟩
        · have B4 := B2.trans (hb4.mono B2.size)
          have HS4 : Hid (Sl w4 u (minusL P (U, N))) := sl_of hown (byts_minusL P HSL.out.byts (U, N))
          have HLE : Hid ((minusL P (U, N)).length ≤ most) := hle
          clear hle hown hb4 D1 HSL2 HSL k1 B2 hg'
          go_wp2_with fail
          go_roundw
          case rel =>
            refine ⟨k + 1, by omega, by go_num, _, HLE.out, ?_, HS4.out, B4⟩
            have := HGO.out
            rwa [HST.out, if_neg (Nat.not_lt.2 HLE.out)] at this
          case measure => simp [intOf]; omega
        · have B4 := B2.trans (hb4.mono B2.size)
          have HGT : Hid (most < (minusL P (U, N)).length) := hgt
          clear hgt hb4 D1 HSL2 HSL k1 B2 hg'
          go_wp2_with fail
          go_ret2
          refine ⟨.inr ⟨?_, rfl⟩, B4⟩
          have := HGO.out
          rw [HST.out, if_pos HGT.out] at this
          exact this.symm
      · obtain rfl : k = n := by omega
        go_wp2_with fail
        go_ret2
        refine ⟨.inl ⟨P, _, ?_, by omega, rfl, HSL.out⟩, hb⟩
        have := HGO.out
        rw [HN.out, List.drop_length] at this
        exact this.symm
end Go.Proofs.Ytjlghkiplapodaa
namespace Go.Proofs.Ytjlghkiplapodaa
open Go Go.RowKit

/-- An operation that only reckons or reads. -/
def isRead (o : Oper) : Bool :=
  match o.op with
  | .move _ | .load _ _ | .binOp _ _ _ _ _ | .indexAddr _ _ _ | .extract _ _ | .assign _ | .fieldAddr _ _ _ => true
  | _ => false

theorem read_value {P : Program} {ρ : Operand → Value} {o : Oper} (h : isRead o = true) (w : World) (nx : Next) (w' : World) (hr : (execOp ρ o).run P w = .ok nx w') : ∃ u, nx = .value u := by
  unfold isRead at h
  unfold execOp at hr
  split at h
  · rename_i x e
    simp only [e, Sem.run_pure, Result.ok.injEq] at hr
    exact ⟨_, hr.1.symm⟩
  · rename_i t x e
    simp only [e, Sem.run_bind, Sem.run_pure] at hr
    revert hr
    generalize (Instr.loadAt t (ρ x)).run P w = r
    intro hr
    cases r with
    | ok a w1 => simp only [Result.andThen_ok, Result.ok.injEq] at hr; exact ⟨_, hr.1.symm⟩
    | halt x w1 => simp [Result.andThen] at hr
  · rename_i op t x y z e
    simp only [e, Sem.run_bind, Sem.run_pure] at hr
    revert hr
    generalize ((eqGuard op t x y (ρ x) (ρ y)).run P w).andThen (fun _ w' => (binOp op t (ρ x) (ρ y)).run P w') = r
    intro hr
    cases r with
    | ok a w1 => simp only [Result.andThen_ok, Result.ok.injEq] at hr; exact ⟨_, hr.1.symm⟩
    | halt x w1 => simp [Result.andThen] at hr
  · rename_i t x y e
    simp only [e, Sem.run_bind, Sem.run_pure] at hr
    revert hr
    generalize (Instr.indexAt t (ρ x) (ρ y)).run P w = r
    intro hr
    cases r with
    | ok a w1 => simp only [Result.andThen_ok, Result.ok.injEq] at hr; exact ⟨_, hr.1.symm⟩
    | halt x w1 => simp [Result.andThen] at hr
  · rename_i x i e
    simp only [e, Sem.run_bind, Sem.run_pure] at hr
    revert hr
    generalize (Instr.extract (ρ x) i).run P w = r
    intro hr
    cases r with
    | ok a w1 => simp only [Result.andThen_ok, Result.ok.injEq] at hr; exact ⟨_, hr.1.symm⟩
    | halt x w1 => simp [Result.andThen] at hr
  · rename_i x e
    simp only [e, Sem.run_pure, Result.ok.injEq] at hr
    exact ⟨_, hr.1.symm⟩
  · rename_i t x i e
    simp only [e, Sem.run_bind, Sem.run_pure] at hr
    revert hr
    generalize (Instr.fieldAt t (ρ x) i).run P w = r
    intro hr
    cases r with
    | ok a w1 => simp only [Result.andThen_ok, Result.ok.injEq] at hr; exact ⟨_, hr.1.symm⟩
    | halt x w1 => simp [Result.andThen] at hr
  · cases h

theorem yieldsIf_of_in {P : Program} {ops : Array Oper} {S : World → Prop} {o : Oper} {v : Value} {a : Act} (h : isRead o = true) (hy : YieldsIn P ops S o v a) : YieldsIf P ops S o v a := by
  rcases hy with ⟨hw, hv⟩ | hn
  · refine .inl ⟨hw, fun w hS => ?_⟩
    have hq := hv w hS
    unfold Oper.quietAt at hq
    cases hr : (execOp a.eval o).run P w with
    | ok nx w' =>
      obtain ⟨u, rfl⟩ := read_value h w nx w' hr
      rw [hr] at hq
      obtain ⟨rfl, rfl⟩ := hq
      rfl
    | halt x w' => rw [hr] at hq; exact hq.elim
  · exact .inr hn

def headFrom (md : Region.Mode) (ops : Array Oper) : Nat → Nat → Array Bool → Bool
  | 0, _, _ => true
  | f + 1, k, listed => (Region.ready md ops listed).contains k && Region.free md ops listed k && headFrom md ops f (k + 1) (listed.setIfInBounds k true)
def listedFrom : Nat → Nat → Array Bool → Array Bool
  | 0, _, l => l
  | f + 1, k, l => listedFrom f (k + 1) (l.setIfInBounds k true)

theorem reads_held {P : Program} {md : Region.Mode} {ops : Array Oper} {Q : Exit → Act → World → Prop} {S : World → Prop} {g : Nat} (hs : Region.noSelect ops = true) (hQ : ∀ d v c a w, Q (.panic c) (Act.put a d v) w → Q (.panic c) a w) (w : World) (hS : S w) :
    ∀ (l : List Oper) (k : Nat) (listed : Array Bool) (a : Act), (∀ j, j < l.length → l[j]? = ops[k + j]?) → headFrom md ops l.length k listed = true → l.all isRead = true →
      wpQuiet P ops S (fun a' => wpAnyH P md ops Q S g (listedFrom l.length k listed) a' w) l a → wpAnyH P md ops Q S (l.length + g) listed a w
  | [], _, _, _, _, _, _, h => by simpa [wpQuiet, listedFrom] using h
  | o :: l, k, listed, a, hl, hB, hr, h => by
    have h0 : ops[k]? = some o := by simpa using (hl 0 (by simp)).symm
    simp only [List.length_cons, headFrom, Bool.and_eq_true] at hB
    simp only [List.all_cons, Bool.and_eq_true] at hr
    have hst : qOp P ops S k (wpQuiet P ops S (fun a' => wpAnyH P md ops Q S g (listedFrom (o :: l).length k listed) a' w) l) a := by
      unfold qOp; simp only [h0]; exact h
    obtain ⟨v, hy, hK⟩ := yieldsIn_of_qOp h0 hst
    have ih := reads_held hs hQ w hS l (k + 1) (listed.setIfInBounds k true) (a.put o.dst v) (fun j hj => by
      have := hl (j + 1) (by simp; omega)
      simpa [Nat.add_assoc, Nat.add_comm 1 j] using this) hB.2 hr.2 hK
    rw [show (o :: l).length + g = (l.length + g) + 1 by simp; omega]
    exact wpAnyH_take h0 hs hB.1.2 hB.1.1 (fun c a w => hQ o.dst v c a w) (yieldsIf_of_in hr.1 hy) hS ih

/-- A drawn region, from its beginning. -/
theorem region_begin {P : Program} {id : Nat} {Q : Exit → Act → World → Prop} {a : Act} {w : World} {lo : List Oper} (n : Nat) (hn : lo.length = n) (hm : P.follows .mixedOrders = true)
    (h : wpAnyH P .any lo.toArray Q (fun w' => ∃ u : Later w, w' = u.world) n (Array.replicate n false) a w.drew) : (Code.region id lo.toArray true).wp P Q a w := by
  refine wp_region_held (S := fun w' => ∃ u : Later w, w' = u.world) hm ?_
  rw [show lo.toArray.size = n by simpa using hn]
  exact h
/-- The same with a class of worlds of one's own. -/
theorem region_beginS {P : Program} {id : Nat} {Q : Exit → Act → World → Prop} {a : Act} {w : World} {lo : List Oper} (S : World → Prop) (n : Nat) (hn : lo.length = n) (hm : P.follows .mixedOrders = true)
    (h : wpAnyH P .any lo.toArray Q S n (Array.replicate n false) a w.drew) : (Code.region id lo.toArray true).wp P Q a w := by
  refine wp_region_held (S := S) hm ?_
  rw [show lo.toArray.size = n by simpa using hn]
  exact h
/-- n operations, from number k on, that only read, are taken first. -/
theorem region_reads {P : Program} {Q : Exit → Act → World → Prop} {S : World → Prop} {a : Act} {w : World} {lo : List Oper} {listed : Array Bool} (k n g : Nat) (hl : ((lo.drop k).take n).length = n) (hs : Region.noSelect lo.toArray = true)
    (hB : headFrom .any lo.toArray n k listed = true) (hr : ((lo.drop k).take n).all isRead = true) (hQ : ∀ d v c a w, Q (.panic c) (Act.put a d v) w → Q (.panic c) a w) (hS : S w)
    (h : wpQuiet P lo.toArray S (fun a' => wpAnyH P .any lo.toArray Q S g (listedFrom n k listed) a' w) ((lo.drop k).take n) a) : wpAnyH P .any lo.toArray Q S (n + g) listed a w := by
  have := reads_held (P := P) (md := .any) (Q := Q) (g := g) hs hQ w hS ((lo.drop k).take n) k listed a (fun j hj => by
    rw [hl] at hj
    rw [List.getElem?_take_of_lt hj, List.getElem?_drop]
    simp) (by rw [hl]; exact hB) hr (by rw [hl]; exact h)
  rwa [hl] at this
theorem noPanic {F : Act → World → Prop} : ∀ (d : Option Tmp) (v : Value) c (a : Act) (w : World), (fun (e : Exit) a w => e = .normal ∧ F a w) (.panic c) (Act.put a d v) w → (fun (e : Exit) a w => e = .normal ∧ F a w) (.panic c) a w :=
  fun _ _ _ _ _ h => absurd h.1 (by simp)
/-- A cut behind a region. -/
theorem region_cut {P : Program} {c : Code} {Q : Exit → Act → World → Prop} {a : Act} {w : World} (F : Act → Act → World → Prop) (h1 : c.wp P (fun e a' w' => e = .normal ∧ F a a' w') a w) (h2 : ∀ a' w', F a a' w' → Q .normal a' w') : c.wp P Q a w :=
  Code.wp_mono (by rintro e a' w' ⟨rfl, h⟩; exact h2 a' w' h) h1

theorem wpOp_wanted {P : Program} {ops : Array Oper} {Q : Exit → Act → World → Prop} {i : Nat} {o : Oper} {K : Act → World → Prop} {a : Act} {w : World} (hi : ops[i]? = some o) (hw : Region.wanted o (yielded ops a.tmps) = true) (h : o.wp P a w K Q) : wpOp P ops Q i K a w := by
  unfold Go.wpOp
  simp only [hi, hw, if_true]
  exact .inl h
theorem wpOp_call {ops : Array Oper} {Q : Exit → Act → World → Prop} {i : Nat} {o : Oper} {K : Act → World → Prop} {a : Act} {w : World} (hi : ops[i]? = some o) (hw : Region.wanted o (yielded ops a.tmps) = true) (f : FuncId) (xs : Array Operand)
    (hf : ∀ (b : Act) (w : World), (execOp b.eval o).run Try.prog w = .ok (.enter f (xs.map b.eval)) w) (vs : Array Value) (hvs : xs.toList.map a.eval = vs.toList)
    (D : Value → World → Prop) (h : Calls Try.prog f vs w fun e w' => ∃ v, e = .returned v ∧ D v w') (d : Option Tmp) (hd : o.dst = d) (hK : ∀ v w', D v w' → K (a.put d v) w') : wpOp Try.prog ops Q i K a w := by
  subst hd
  refine wpOp_wanted hi hw ?_
  unfold Oper.wp
  rw [hf a w, show xs.map a.eval = vs from Array.ext' (by rw [Array.toList_map]; exact hvs)]
  refine h.mono ?_
  rintro e w' ⟨v, rfl, hc⟩
  exact hK v w' hc
theorem wpOp_allocC {ops : Array Oper} {Q : Exit → Act → World → Prop} {i : Nat} {o : Oper} {K : Act → World → Prop} {a : Act} {w : World} (hi : ops[i]? = some o) (hw : Region.wanted o (yielded ops a.tmps) = true) (ho : o.op = .alloc 30) (d : Option Tmp) (hd : o.dst = d)
    (hK : K (a.put d (.pointer (some ⟨w.heap.size, 0, none⟩))) (w.alloc (.cells zeroC 30))) : wpOp Try.prog ops Q i K a w := by
  subst hd
  refine wpOp_wanted hi hw ?_
  obtain ⟨dst, op, ty, pos, after, guard⟩ := o
  subst ho
  unfold Oper.wp
  have : ∀ (b : Act), (execOp b.eval ⟨dst, .alloc 30, ty, pos, after, guard⟩).run Try.prog w = .ok (.value (.pointer (some ⟨w.heap.size, 0, none⟩))) (w.alloc (.cells zeroC 30)) := fun b => by simp [go_sem]
  rw [this a]
  exact hK
theorem wpOp_alloc26 {ops : Array Oper} {Q : Exit → Act → World → Prop} {i : Nat} {o : Oper} {K : Act → World → Prop} {a : Act} {w : World} (hi : ops[i]? = some o) (hw : Region.wanted o (yielded ops a.tmps) = true) (ho : o.op = .alloc 24) (d : Option Tmp) (hd : o.dst = d)
    (hK : K (a.put d (.pointer (some ⟨w.heap.size, 0, none⟩))) (w.alloc (.cells zero26 24))) : wpOp Try.prog ops Q i K a w := by
  subst hd
  refine wpOp_wanted hi hw ?_
  obtain ⟨dst, op, ty, pos, after, guard⟩ := o
  subst ho
  unfold Oper.wp
  have : ∀ (b : Act), (execOp b.eval ⟨dst, .alloc 24, ty, pos, after, guard⟩).run Try.prog w = .ok (.value (.pointer (some ⟨w.heap.size, 0, none⟩))) (w.alloc (.cells zero26 24)) := fun b => by simp [go_sem]
  rw [this a]
  exact hK
theorem wpOp_store26 {ops : Array Oper} {Q : Exit → Act → World → Prop} {i : Nat} {o : Oper} {K : Act → World → Prop} {a : Act} {w : World} (hi : ops[i]? = some o) (hw : Region.wanted o (yielded ops a.tmps) = true) (x y : Operand) (ho : o.op = .store 24 x y)
    (g : Nat) (L : List Int) (hx : a.eval x = .pointer (some ⟨g, 0, none⟩)) (hy : a.eval y = .agg (hv L)) (old : Array Value) (hg : w.heap[g]? = some (.cells old 24 (0, 0))) (hold : old.size = 13) (hL : L.length = 13) (d : Option Tmp) (hd : o.dst = d)
    (hK : K (a.put d undef) (w.setRow g (hv L))) : wpOp Try.prog ops Q i K a w := by
  subst hd
  exact wpOp_wanted hi hw (wp_store_row 24 x y ho g (hv L) hx hy 24 old hg (size26 L hL) (by rw [hv_size, hold, hL]) (hv_one L) hK)
theorem wpOp_storeC {ops : Array Oper} {Q : Exit → Act → World → Prop} {i : Nat} {o : Oper} {K : Act → World → Prop} {a : Act} {w : World} (hi : ops[i]? = some o) (hw : Region.wanted o (yielded ops a.tmps) = true) (x y : Operand) (ho : o.op = .store 30 x y)
    (g : Nat) (V M : List Int) (hx : a.eval x = .pointer (some ⟨g, 0, none⟩)) (hy : a.eval y = .agg (cv V M)) (old : Array Value) (hg : w.heap[g]? = some (.cells old 30 (0, 0))) (hold : old.size = 26) (hV : V.length = 13) (hM : M.length = 13) (d : Option Tmp) (hd : o.dst = d)
    (hK : K (a.put d undef) (w.setRow g (cv V M))) : wpOp Try.prog ops Q i K a w := by
  subst hd
  exact wpOp_wanted hi hw (wp_store_row 30 x y ho g (cv V M) hx hy 30 old hg (sizeC V M hV hM) (by rw [cv_size V M hV hM, hold]) (cv_one V M) hK)
theorem wpOp_assign {P : Program} {ops : Array Oper} {Q : Exit → Act → World → Prop} {i : Nat} {o : Oper} {K : Act → World → Prop} {a : Act} {w : World} (hi : ops[i]? = some o) (hw : Region.wanted o (yielded ops a.tmps) = true) (x : Operand) (ho : o.op = .assign x) (v : Value) (hx : a.eval x = v) (d : Option Tmp) (hd : o.dst = d)
    (hK : K (a.put d v) w) : wpOp P ops Q i K a w := by
  subst hd hx
  refine wpOp_wanted hi hw ?_
  unfold Oper.wp execOp
  simp only [ho, Sem.run_pure]
  exact hK
end Go.Proofs.Ytjlghkiplapodaa
