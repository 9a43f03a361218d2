import Derived.Test.YtnppfibojcgkmaaScSum
namespace Go.Proofs.Ytnppfibojcgkmaa
open Go Go.Lib Go.RowKit Ieee
set_option maxRecDepth 20000

/-- A quotient. -/
def quoR (x y : Nat) : Nat := (double.div x y).getD 0
theorem quo_eq (x y : Nat) (hxy : x ≤ y) (hy : y < double.infRung) (h0 : 0 < y) : double.div x y = some (quoR x y) ∧ quoR x y ≤ ONE := by
  obtain ⟨R, h1, h2⟩ := div_le_one x y hxy hy h0
  have e : quoR x y = R := by unfold quoR; rw [h1]; rfl
  rw [e]; exact ⟨h1, h2⟩
theorem quoF (P : Program) (x y : Nat) (hxy : x ≤ y) (hy : y < double.infRung) (h0 : 0 < y) (t : TypeId) (W : World) : (binOp .quo t (.float .f64 x) (.float .f64 y)).run P W = .ok (.float .f64 (quoR x y)) W := run_float_arith W .quo t .f64 x y _ (quo_eq x y hxy hy h0).1
theorem eq0 (t : Nat) (ht : t < double.infRung) : (FloatKind.f64.format.order t 0 == some Ordering.eq) = decide (t = 0) := by
  rw [f64d, order_rung t 0 (Nat.le_of_lt ht) (Nat.zero_le _), some_eq]
  apply decide_eq_decide.2
  omega
theorem storeF (q : Nat) (a : Addr) (m : Mode) (W : World) : Sem.run Try.prog (store a (.float .f64 q) m) W = stored Try.prog W a (.float .f64 q) m := run_store Try.prog W a _ m rfl
/-- So many as are laid already, and noughts. -/
def fillP (L : List Value) (z : Value) (k : Nat) : List Value := L.take k ++ List.replicate (L.length - k) z
theorem fill_len (L : List Value) (z : Value) (k : Nat) (h : k ≤ L.length) : (fillP L z k).length = L.length := by unfold fillP; simp; omega
theorem fill_zero (L : List Value) (z : Value) : fillP L z 0 = List.replicate L.length z := by unfold fillP; simp
theorem fill_all (L : List Value) (z : Value) : fillP L z L.length = L := by unfold fillP; simp
theorem fill_succ (L : List Value) (z u : Value) (k : Nat) (h : L[k]? = some u) : fillP L z (k + 1) = (fillP L z k).set k u := by
  have hk := (List.getElem?_eq_some_iff.1 h).1
  unfold fillP
  have hl : (L.take k).length = k := by rw [List.length_take]; omega
  rw [List.set_append_right _ _ (by omega), hl, Nat.sub_self, List.take_add_one, h]
  obtain ⟨m, hm⟩ : ∃ m, L.length - k = m + 1 := ⟨L.length - k - 1, by omega⟩
  rw [hm, show L.length - (k + 1) = m by omega]
  simp [List.replicate_succ]
def partT (l : List Nat) (x : Nat) : Nat := if totT l = 0 then quoR ONE (intF l.length) else quoR (cleanT x) (totT l)
def shareT (l : List Nat) : List Nat := l.map (partT l)
theorem shareT_len (l : List Nat) : (shareT l).length = l.length := by simp [shareT]
theorem shareT_at {l : List Nat} {k x : Nat} (h : l[k]? = some x) : (shareT l)[k]? = some (partT l x) := by unfold shareT; rw [List.getElem?_map, h]; rfl
theorem one_le_int (n : Nat) (h : 1 ≤ n) : ONE ≤ intF n := by rw [← intF_one]; exact intF_mono h
theorem part_le (l : List Nat) (x : Nat) (h : x ∈ l) (hn : l.length ≤ 1000000) : partT l x ≤ ONE := by
  have hl : 1 ≤ l.length := List.length_pos_of_mem h
  unfold partT
  split
  · exact (quo_eq _ _ (one_le_int _ hl) (intF_lt _ (by omega)) (Nat.lt_of_lt_of_le (by decide) (one_le_int _ hl))).2
  · exact (quo_eq _ _ (totT_ge l x h) (totT_lt l) (by omega)).2
set_option maxHeartbeats 4000000 in
theorem alike_any (n : Nat) (hn : n ≤ 1000) (w : World) :
    Calls Try.prog 40 #[.int .i64 (n : Int)] w fun e w' => ∃ v, e = .returned v ∧ VOwn 22 w.heap.size w' v (flV (List.replicate n (quoR ONE (intF n)))) ∧ Below w.heap.size w w' := by
  have h1 := foi (n : Int) (by omega)
  have hq : ∀ t W, 1 ≤ n → (binOp .quo t (.float .f64 4607182418800017408) (.float .f64 (intF ((n : Int)).toNat))).run Try.prog W = .ok (.float .f64 (quoR ONE (intF n))) W := fun t W h => quoF Try.prog ONE (intF n) (one_le_int n h) (intF_lt n (by omega)) (Nat.lt_of_lt_of_le (by decide) (one_le_int n h)) t W
  have HQ : Hid (∀ t W, 1 ≤ n → (binOp .quo t (.float .f64 4607182418800017408) (.float .f64 (intF ((n : Int)).toNat))).run Try.prog W = .ok (.float .f64 (quoR ONE (intF n))) W) := hq
  generalize intF ((n : Int)).toNat = D at h1 HQ
  generalize quoR ONE (intF n) = q at HQ ⊢
  clear hq
  have hPl : (flV (List.replicate n q)).length = n := by rw [flV_len, List.length_replicate]
  have hPk : ∀ k, k < n → (flV (List.replicate n q))[k]? = some (Value.float .f64 q) := fun k hk => by unfold flV; simp [hk]
  generalize flV (List.replicate n q) = L at hPl hPk ⊢
  have HP : Hid (L.length = n ∧ ∀ k, k < n → L[k]? = some (Value.float .f64 q)) := ⟨hPl, hPk⟩
  clear hPl hPk
  go_enter Try.func40, Try.ntmps40
  go_wp2_with (refine wl_makeV scF rfl _ _ rfl n rfl rfl (by omega) ?_; intro w1 ho hb)
  have HO : Hid (VOwn 22 w.heap.size w1 (.slice (some ⟨w.heap.size, 0, none⟩) n n) (fillP L (.float .f64 0) 0)) := by
    show VOwn _ _ _ _ _
    rw [fill_zero, HP.out.1]; exact ho
  have HB : Hid (Below w.heap.size w w1) := hb
  clear ho hb
  go_loopw [9] (fun i wr => ∃ k : Nat, k ≤ n ∧ i = .int .i64 (k : Int) ∧ VOwn 22 w.heap.size wr (.slice (some ⟨w.heap.size, 0, none⟩) n n) (fillP L (.float .f64 0) k) ∧ Below w.heap.size w wr) (fun i _ => n - (intOf i).toNat)
  case atStart => exact ⟨0, Nat.zero_le _, rfl, HO.out, HB.out⟩
  case round =>
    clear HO HB
    obtain ⟨k, hk, rfl, ho, hb⟩ := hrel
    have HO : Hid (VOwn 22 w.heap.size wr (.slice (some ⟨w.heap.size, 0, none⟩) n n) (fillP L (.float .f64 0) k)) := ho
    have HB : Hid (Below w.heap.size w wr) := hb
    by_cases hlt : k < n
    · have hlt' : (k : Int) < (n : Int) := by omega
      obtain ⟨c, hc, _, hf⟩ := ho.cell k hlt
      have hq : ∀ t W, (binOp .quo t (.float .f64 4607182418800017408) (.float .f64 D)).run Try.prog W = .ok (.float .f64 q) W := fun t W => HQ.out t W (by omega)
      have NO : Hid (VOwn 22 w.heap.size (wr.setCell ⟨w.heap.size, k, none⟩ (.float .f64 q)) (.slice (some ⟨w.heap.size, 0, none⟩) n n) (fillP L (.float .f64 0) (k + 1))) := by
        show VOwn _ _ _ _ _
        rw [fill_succ L _ _ k (HP.out.2 k hlt)]; exact ho.set k _
      have NB : Hid (Below w.heap.size w (wr.setCell ⟨w.heap.size, k, none⟩ (.float .f64 q))) := hb.grown (ho.setBelow k _) hb.size (fun j hj => by cases hj; exact Nat.le_refl _)
      have hst := storeF q
      clear ho hb
      go_wp2_with fail
      go_roundw
      case rel => exact ⟨k + 1, by omega, by go_num, NO.out, NB.out⟩
      case measure => simp [intOf]; omega
    · have hlt' : ¬ (k : Int) < (n : Int) := by omega
      obtain rfl : k = n := by omega
      clear ho hb
      go_wp2_with fail
      go_ret
      have h := HO.out
      rw [← HP.out.1, fill_all, HP.out.1] at h
      exact ⟨_, rfl, h, HB.out⟩
set_option maxHeartbeats 4000000 in
theorem share_any (l : List Nat) (hw : AllW l) (hn : l.length ≤ 1000) (v : Value) (w : World) (hL : FSl w v l) :
    Calls Try.prog 26 #[v] w fun e w' => ∃ v', e = .returned v' ∧ VOwn 22 w.heap.size w' v' (flV (shareT l)) ∧ Below w.heap.size w w' := by
  have HC : Hid (∀ x W, Wd x → Calls Try.prog 10 #[.float .f64 x] W fun e w' => e = .returned (.float .f64 (cleanT x)) ∧ w' = W) := fun x W h => clean_any x h W
  have HA : Hid (∀ n : Nat, n ≤ 1000 → ∀ W, Calls Try.prog 40 #[.int .i64 (n : Int)] W fun e w' => ∃ v, e = .returned v ∧ VOwn 22 W.heap.size w' v (flV (List.replicate n (quoR ONE (intF n)))) ∧ Below W.heap.size W w') := alike_any
  have HT : Hid (∀ W, W = w → Calls Try.prog 28 #[v] W fun e w' => e = .returned (.float .f64 (totT l)) ∧ w' = W) := fun W h => by subst h; exact total_any l hw v W hL
  obtain ⟨o, cap, rfl, h1, h2⟩ := hL.slice
  have HL : Hid (FSl w (.slice o l.length cap) l) := hL
  have HW : Hid (AllW l) := hw
  have hz := eq0 (totT l) (totT_lt l)
  obtain ⟨n, hn0⟩ : ∃ n, n = l.length := ⟨_, rfl⟩
  have HN : Hid (n = l.length) := hn0
  by_cases c0 : totT l = 0
  · have HS : Hid (shareT l = List.replicate n (quoR ONE (intF n))) := by
      show _ = _
      rw [hn0]
      unfold shareT
      apply List.ext_getElem?
      intro i
      rw [List.getElem?_map, List.getElem?_replicate]
      by_cases hi : i < l.length
      · rw [List.getElem?_eq_getElem hi, if_pos hi]
        unfold partT
        simp only [Option.map_some, if_pos c0]
      · rw [List.getElem?_eq_none (by omega), if_neg hi]; rfl
    rw [decide_eq_true c0] at hz
    rw [← hn0] at HL HT h1 hn ⊢
    clear c0 hn0 hL hw
    go_enter Try.func26, Try.ntmps26
    go_wp2_with (first | (go_at_call 28; refine (HT.out _ rfl).mono ?_; rintro e w' ⟨rfl, rfl⟩) | (go_at_call 40; refine (HA.out n hn _).mono ?_; rintro e w1 ⟨v', rfl, ho, hb⟩))
    go_ret
    exact ⟨_, rfl, by rw [HS.out]; exact ho, hb⟩
  · rw [decide_eq_false c0] at hz
    have HQ : Hid (∀ x, x ∈ l → ∀ t W, (binOp .quo t (.float .f64 (cleanT x)) (.float .f64 (totT l))).run Try.prog W = .ok (.float .f64 (partT l x)) W) := fun x hx t W => by
      have := quoF Try.prog (cleanT x) (totT l) (totT_ge l x hx) (totT_lt l) (by omega) t W
      unfold partT
      rw [if_neg c0]; exact this
    have HP : Hid ((flV (shareT l)).length = n ∧ ∀ k x, l[k]? = some x → (flV (shareT l))[k]? = some (Value.float .f64 (partT l x))) := ⟨by rw [flV_len, shareT_len]; exact hn0.symm, fun k x hx => by unfold flV; rw [List.getElem?_map, shareT_at hx]; rfl⟩
    generalize flV (shareT l) = L at HP ⊢
    rw [← hn0] at HL HT h1 hn ⊢
    generalize totT l = T at HT HQ hz
    clear c0 hn0 hL hw
    unfold maxLen at h2
    go_enter Try.func26, Try.ntmps26
    go_wp2_with (first | (go_at_call 28; refine (HT.out _ rfl).mono ?_; rintro e w' ⟨rfl, rfl⟩) | (refine wl_makeV scF rfl _ _ rfl n rfl rfl (by omega) ?_; intro w1 ho hb))
    have HO : Hid (VOwn 22 w'.heap.size w1 (.slice (some ⟨w'.heap.size, 0, none⟩) n n) (fillP L (.float .f64 0) 0)) := by
      show VOwn _ _ _ _ _
      rw [fill_zero, HP.out.1]; exact ho
    have HB : Hid (Below w'.heap.size w' w1) := hb
    clear ho hb
    go_loopw [19] (fun i wr => ∃ k : Nat, k ≤ n ∧ i = .int .i64 (k : Int) ∧ VOwn 22 w'.heap.size wr (.slice (some ⟨w'.heap.size, 0, none⟩) n n) (fillP L (.float .f64 0) k) ∧ Below w'.heap.size w' wr) (fun i _ => n - (intOf i).toNat)
    case atStart => exact ⟨0, Nat.zero_le _, rfl, HO.out, HB.out⟩
    case round =>
      clear HO HB
      obtain ⟨k, hk, rfl, ho, hb⟩ := hrel
      have HO : Hid (VOwn 22 w'.heap.size wr (.slice (some ⟨w'.heap.size, 0, none⟩) n n) (fillP L (.float .f64 0) k)) := ho
      have HB : Hid (Below w'.heap.size w' wr) := hb
      by_cases hlt : k < n
      · have hlt' : (k : Int) < (n : Int) := by omega
        obtain ⟨g, off, x, rfl, hcx, hxk⟩ := (show FSl wr _ l from VSl.below HL.out hb).at k hlt
        obtain ⟨c, hc, _, hf⟩ := ho.cell k hlt
        have HX : Hid (Wd x) := HW.out.at hxk
        have hq := HQ.out x (List.mem_of_getElem? hxk)
        have NO : Hid (VOwn 22 w'.heap.size (wr.setCell ⟨w'.heap.size, k, none⟩ (.float .f64 (partT l x))) (.slice (some ⟨w'.heap.size, 0, none⟩) n n) (fillP L (.float .f64 0) (k + 1))) := by
          show VOwn _ _ _ _ _
          rw [fill_succ L _ _ k (HP.out.2 k x hxk)]; exact ho.set k _
        have NB : Hid (Below w'.heap.size w' (wr.setCell ⟨w'.heap.size, k, none⟩ (.float .f64 (partT l x)))) := hb.grown (ho.setBelow k _) hb.size (fun j hj => by cases hj; exact Nat.le_refl _)
        have hst := storeF (partT l x)
        generalize partT l x = q at hq NO NB hst
        obtain ⟨W0, hW0⟩ : ∃ W0, W0 = wr := ⟨_, rfl⟩
        rw [← hW0] at hcx hc hf NO NB ⊢
        clear ho hb hxk hW0 HO HB
        go_wp2_with (go_at_call 10; refine (HC.out _ _ HX.out).mono ?_; rintro e w2 ⟨rfl, rfl⟩)
        go_roundw
        case rel => exact ⟨k + 1, by omega, by go_num, NO.out, NB.out⟩
        case measure => simp [intOf]; omega
      · have hlt' : ¬ (k : Int) < (n : Int) := by omega
        obtain rfl : k = n := by omega
        clear ho hb
        go_wp2_with fail
        go_ret
        have h := HO.out
        rw [← HP.out.1, fill_all, HP.out.1] at h
        exact ⟨_, rfl, h, HB.out⟩
end Go.Proofs.Ytnppfibojcgkmaa
