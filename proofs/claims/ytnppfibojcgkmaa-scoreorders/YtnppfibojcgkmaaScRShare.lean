import Derived.Test.YtnppfibojcgkmaaScShare
namespace Go.Proofs.Ytnppfibojcgkmaa
open Go Go.Lib Go.RowKit Ieee
set_option maxRecDepth 20000

theorem flV_snoc (l : List Nat) (x : Nat) : flV l ++ [Value.float .f64 x] = flV (l ++ [x]) := by unfold flV; simp
theorem shareT_take {l : List Nat} {k x : Nat} (h : l[k]? = some x) : (shareT l).take (k + 1) = (shareT l).take k ++ [partT l x] := by
  rw [List.take_add_one, shareT_at h]; rfl
set_option maxHeartbeats 4000000 in
theorem rshare_any (l : List Nat) (hw : AllW l) (hn : l.length ≤ 1000) (v : Value) (w : World) (hL : FSl w v l) :
    Calls Try.prog 27 #[v] w fun e w' => ∃ v', e = .returned v' ∧ VOwn 22 w.heap.size w' v' (flV (shareT l)) ∧ Below w.heap.size w w' := by
  have HC : Hid (∀ x W, Wd x → Calls Try.prog 12 #[.float .f64 x] W fun e w' => e = .returned (.float .f64 (cleanT x)) ∧ w' = W) := fun x W h => rclean_any x h W
  have HT : Hid (∀ W, Below w.heap.size w W → Calls Try.prog 29 #[v] W fun e w' => e = .returned (.float .f64 (totT l)) ∧ w' = W) := fun W h => rtotal_any l hw v W (VSl.below hL h)
  obtain ⟨o, cap, rfl, h1, h2⟩ := hL.slice
  have HL : Hid (FSl w (.slice o l.length cap) l) := hL
  have HW : Hid (AllW l) := hw
  have hz := eq0 (totT l) (totT_lt l)
  obtain ⟨n, hn0⟩ : ∃ n, n = l.length := ⟨_, rfl⟩
  have HN : Hid (n = l.length) := hn0
  have hi := foi (n : Int) (by omega)
  have hi2 : intF ((n : Int)).toNat = intF n := by rw [Int.toNat_natCast]
  rw [hi2] at hi
  have HQ : Hid (∀ x, x ∈ l → (totT l = 0 → ∀ t W, (binOp .quo t (.float .f64 4607182418800017408) (.float .f64 (intF n))).run Try.prog W = .ok (.float .f64 (partT l x)) W) ∧ (¬ totT l = 0 → ∀ t W, (binOp .quo t (.float .f64 (cleanT x)) (.float .f64 (totT l))).run Try.prog W = .ok (.float .f64 (partT l x)) W)) := fun x hx => by
    have hl : 1 ≤ l.length := List.length_pos_of_mem hx
    refine ⟨fun c t W => ?_, fun c t W => ?_⟩
    · have := quoF Try.prog ONE (intF n) (one_le_int n (by omega)) (intF_lt n (by omega)) (Nat.lt_of_lt_of_le (by decide) (one_le_int n (by omega))) t W
      unfold partT
      rw [if_pos c, ← hn0]; exact this
    · have := quoF Try.prog (cleanT x) (totT l) (totT_ge l x hx) (totT_lt l) (by omega) t W
      unfold partT
      rw [if_neg c]; exact this
  rw [← hn0] at HL HT h1 hn ⊢
  generalize intF n = D at hi HQ
  clear hn0 hL hw hi2
  unfold maxLen at h2
  have O0 : Hid (VOwn 22 w.heap.size (w.alloc (.cells #[] 22)) (.slice (some ⟨w.heap.size, 0, none⟩) 0 0) (flV ((shareT l).take 0))) := vown0 w _
  have B0 : Hid (Below w.heap.size w (w.alloc (.cells #[] 22))) := (Below.refl _ _).alloc (Nat.le_refl _) _
  go_enter Try.func27, Try.ntmps27
  go_wp2_with (refine wl_build0V scF rfl rfl ?_)
  go_loopw [3, 4] (fun a i wr => ∃ k : Nat, k ≤ n ∧ i = .int .i64 (k : Int) ∧ VOwn 22 w.heap.size wr a (flV ((shareT l).take k)) ∧ Below w.heap.size w wr) (fun _ i _ => n - (intOf i).toNat)
  case atStart => exact ⟨0, Nat.zero_le _, rfl, O0.out, B0.out⟩
  case round =>
    clear O0 B0
    obtain ⟨k, hk, rfl, ho, hb⟩ := hrel
    have HO : Hid (VOwn 22 w.heap.size wr u3 (flV ((shareT l).take k))) := ho
    have HB : Hid (Below w.heap.size w wr) := hb
    by_cases hlt : k < n
    · have hlt' : (k : Int) < (n : Int) := by omega
      obtain ⟨g, off, x, rfl, hcx, hxk⟩ := (show FSl wr _ l from VSl.below HL.out hb).at k hlt
      have HX : Hid (Wd x) := HW.out.at hxk
      have HT' : Hid (∀ W, W = wr → Calls Try.prog 29 #[.slice (some ⟨g, off, none⟩) n cap] W fun e w' => e = .returned (.float .f64 (totT l)) ∧ w' = W) := fun W h => by subst h; exact HT.out _ HB.out
      have HF : Hid (∀ v' w', VOwn 22 w.heap.size w' v' (flV ((shareT l).take k) ++ [Value.float .f64 (partT l x)]) → VOwn 22 w.heap.size w' v' (flV ((shareT l).take (k + 1)))) := fun v' w' h => by rw [shareT_take hxk, ← flV_snoc]; exact h
      have hq := HQ.out x (List.mem_of_getElem? hxk)
      generalize partT l x = q at hq HF
      have hlen : Hid ((flV ((shareT l).take k)).length ≤ 1000000) := by
        show _ ≤ _
        rw [flV_len, List.length_take]; omega
      have G1 : Hid ((wr.alloc (.cells #[Value.float .f64 q] 22)).heap[wr.heap.size]? = some (.cells #[Value.float .f64 q] 22 (0, 0))) := heap_new _ _ _ rfl
      have O1 : Hid (VOwn 22 w.heap.size (wr.alloc (.cells #[Value.float .f64 q] 22)) u3 (flV ((shareT l).take k))) := ho.below ((Below.refl _ _).alloc (Nat.le_refl _) _)
      have B1 : Hid (Below w.heap.size w (wr.alloc (.cells #[Value.float .f64 q] 22))) := hb.alloc hb.size _
      clear ho hb hxk
      by_cases c0 : totT l = 0
      · have hq' := hq.1 c0
        rw [decide_eq_true c0] at hz
        generalize totT l = T at HT' hz
        clear hq c0
        go_wp2_with (first | (go_at_call 29; refine (HT'.out _ rfl).mono ?_; rintro e w' ⟨rfl, hw'⟩; obtain rfl := hw') | (refine wl_build1V scF rfl _ rfl (.float .f64 q) rfl rfl ?_) | (at_builtin; refine of_stopV ?_))
        unfold StopV
        refine wl_app1V scF rfl _ _ rfl w.heap.size u3 (flV ((shareT l).take k)) (.float .f64 q) rfl rfl O1.out _ 1 rfl G1.out hlen.out B1.out.size ?_
        intro v' w2 ho2 hg2 _
        have O2 : Hid (VOwn 22 w.heap.size w2 v' (flV ((shareT l).take (k + 1)))) := HF.out _ _ ho2
        have B2 : Hid (Below w.heap.size w w2) := B1.out.grown hg2 B1.out.size (fun j hj => (O1.out.ge j hj).1)
        clear ho2 hg2
        simp only [Act.put, List.setIfInBounds_toArray, List.set_cons_succ, List.set_cons_zero]
        go_wp2_with fail
        go_roundw
        case rel => exact ⟨k + 1, by omega, by go_num, O2.out, B2.out⟩
        case measure => simp [intOf]; omega
      · have hq' := hq.2 c0
        rw [decide_eq_false c0] at hz
        generalize totT l = T at HT' hz hq'
        clear hq c0
        go_wp2_with (first | (go_at_call 29; refine (HT'.out _ rfl).mono ?_; rintro e w' ⟨rfl, hw'⟩; obtain rfl := hw') | (go_at_call 12; refine (HC.out _ _ HX.out).mono ?_; rintro e w' ⟨rfl, hw'⟩; obtain rfl := hw') | (refine wl_build1V scF rfl _ rfl (.float .f64 q) rfl rfl ?_) | (at_builtin; refine of_stopV ?_))
        unfold StopV
        refine wl_app1V scF rfl _ _ rfl w.heap.size u3 (flV ((shareT l).take k)) (.float .f64 q) rfl rfl O1.out _ 1 rfl G1.out hlen.out B1.out.size ?_
        intro v' w2 ho2 hg2 _
        have O2 : Hid (VOwn 22 w.heap.size w2 v' (flV ((shareT l).take (k + 1)))) := HF.out _ _ ho2
        have B2 : Hid (Below w.heap.size w w2) := B1.out.grown hg2 B1.out.size (fun j hj => (O1.out.ge j hj).1)
        clear ho2 hg2
        simp only [Act.put, List.setIfInBounds_toArray, List.set_cons_succ, List.set_cons_zero]
        go_wp2_with fail
        go_roundw
        case rel => exact ⟨k + 1, by omega, by go_num, O2.out, B2.out⟩
        case measure => simp [intOf]; omega
    · have hlt' : ¬ (k : Int) < (n : Int) := by omega
      obtain rfl : k = n := by omega
      clear ho hb
      go_wp2_with fail
      go_ret
      have h := HO.out
      rw [HN.out, ← shareT_len l, List.take_length] at h
      exact ⟨_, rfl, h, HB.out⟩
end Go.Proofs.Ytnppfibojcgkmaa
