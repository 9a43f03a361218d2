import Derived.Test.YtpbinkmeldkehaaJ13
namespace Go.Proofs.Ytpbinkmeldkehaa
open Go Go.Lib Go.RowKit
set_option maxRecDepth 20000

/-! deal.Deal. -/
def pairsT (out : Nat → Nat × Nat) (n : Nat) : List (Int × Int) := (List.range n).map fun i => (((out i).1 : Int), ((out i).2 : Int))
theorem pairs_len (out : Nat → Nat × Nat) (n : Nat) : (pairsT out n).length = n := by simp [pairsT]
theorem pairs_set (out : Nat → Nat × Nat) (n i : Nat) (a b : Nat) : (pairsT out n).set i ((a : Int), (b : Int)) = pairsT (fun j => if j = i then (a, b) else out j) n := by
  apply List.ext_getElem?
  intro j
  unfold pairsT
  rw [List.getElem?_set]
  by_cases h : i = j
  · subst h
    rw [if_pos rfl]
    by_cases hi : i < n
    · simp [hi]
    · simp [hi]
  · rw [if_neg h]
    by_cases hj : j < n
    · simp [hj, show ¬ j = i from fun e => h e.symm]
    · simp [hj]
theorem own_base13 {w : World} {B B' : Nat} {e : TypeId} {s : Nat} {v : Value} {n : Nat} {xs : List Value} (h : w.ownsRow B e s v n xs) (hB : B' ≤ B) : w.ownsRow B' e s v n xs := by
  obtain ⟨h1, h2 | ⟨g, cap, cur, h3, h4, h5⟩⟩ := h
  · exact ⟨h1, .inl h2⟩
  · exact ⟨h1, .inr ⟨g, cap, cur, h3, Nat.le_trans hB h4, h5⟩⟩
theorem ord_len {K : Nat → Int} {n : Nat} {o : List Nat} (h : IsOrd K n o) : o.length = n := by
  have hnd : o.Nodup := h.2.imp fun {a b} hab e => by subst e; exact ahead_asymm hab hab
  refine Nat.le_antisymm (places_le n o (fun i hi => (h.1 i).1 hi) hnd) ?_
  have := sub_len (List.range n) o List.nodup_range (fun x hx => (h.1 x).2 (List.mem_range.1 hx))
  simpa using this
theorem pairs_zero (n : Nat) : pairsT (fun _ => (0, 0)) n = List.replicate n (0, 0) := by
  unfold pairsT
  rw [List.eq_replicate_iff]
  refine ⟨by simp, fun p hp => ?_⟩
  obtain ⟨i, _, rfl⟩ := List.mem_map.1 hp
  rfl
theorem wl_storeT {ops : Array Oper} {rest : List Oper} {o : Oper} {a : Act} {w : World} {Q : Exit → Act → World → Prop} (hgd : o.guard = none) (x y : Operand) (ho : o.op = .store 81 x y)
    (q g : Nat) (ov : Option Addr) (nv cv : Nat) (room : Int) (hx : a.eval x = .pointer (some ⟨q, 0, none⟩)) (hy : a.eval y = .agg (tabA g (.slice ov nv cv) room)) (old : Array Value) (hg : w.heap[q]? = some (.cells old 81 (0, 0))) (hold : old.size = 3)
    (w' : World) (hw' : w.setRow q (tabA g (.slice ov nv cv) room) = w') (h : wpList Try.prog ops Q rest (a.put o.dst undef) w') : wpList Try.prog ops Q (o :: rest) a w :=
  wpList_store_row hgd 81 x y ho q _ hx hy 81 old hg (by kernel_rfl) (by rw [hold]; rfl) (by simp [tabA, Value.oneCell']) (by rw [hw']; exact h)
/-- What all have stays within the room. -/
def okLd (th : Nat → Bool) (room : Int) (ld : Nat → Int) : Prop := ∀ k, 1 ≤ k → k ≤ 6 → th k = true → 0 ≤ ld k ∧ ld k ≤ max room 0
theorem okLd_up {th : Nat → Bool} {room : Int} {ld : Nat → Int} {wt : Nat → Nat} {s : Int} {but : Nat} (h : okLd th room ld) (hs : 0 ≤ s) : okLd th room (ldUp ld (giveN th ld wt room s but) s) := fun k h1 h2 h3 => by
  obtain ⟨a, b⟩ := h k h1 h2 h3
  unfold ldUp
  split
  · rename_i e
    obtain ⟨e1, e2⟩ := e
    have hg := giveN_in (n := giveN th ld wt room s but) rfl e2
    rw [← e1] at hg
    omega
  · exact ⟨a, b⟩
def dealR (w w' : World) (n : Nat) (r : Option ((Nat → Int) × (Nat → Nat × Nat))) (e : Ending) : Prop :=
  match r with
  | none => e = .returned (.tuple #[.slice none 0 0, .int .i64 15])
  | some st => ∃ v, e = .returned (.tuple #[v, .int .i64 0]) ∧ POwn w.heap.size w' v (pairsT st.2 n)
set_option maxHeartbeats 8000000 in
set_option maxRecDepth 100000 in
theorem deal_any (z live : List Int) (hn : z.length ≤ 1000) (l : List Nat) (hW : AllW l) (room : Int) (hr1 : -9223372036854775808 ≤ room) (hr2 : room ≤ 9223372036854775807) (hz2 : ∀ x ∈ z, x ≤ 9223372036854775807) (vz vl vw : Value) (w : World) (hz : ISl w vz z) (hl : ISl w vl live) (hw : FSl w vw l) :
    Calls Try.prog 35 #[vz, vl, vw, .int .i64 room] w fun e w' => (∃ o, IsOrd (keyZ z) z.length o ∧ dealR w w' z.length (dealF (thT live) (wtT l) room (cntT (thT live)) (fun i => max (z.getD i 0) 0) o (fun _ => 0) (fun _ => (0, 0))) e) ∧ Below w.heap.size w w' := by
  obtain ⟨ow, cw, rfl, _, _⟩ := hw.slice
  obtain ⟨th, hth⟩ : ∃ th, th = thT live := ⟨_, rfl⟩
  obtain ⟨lw, hlw⟩ : ∃ lw, lw = l.length := ⟨_, rfl⟩
  have BG : Hid (∀ W, Below w.heap.size w W → Calls Try.prog 42 #[vl] W fun e w' => ∃ g, e = .returned (.map (some g)) ∧ W.heap.size ≤ g ∧ MapL w' g th (fun _ => 0) ∧ Below W.heap.size W w') := fun W hb => by rw [hth]; exact begin_any live vl W (VSl.below hl hb)
  have FA : Hid (∀ W, Below w.heap.size w W → Calls Try.prog 43 #[vz] W fun e w' => ∃ v' o, e = .returned v' ∧ IsOrd (keyZ z) z.length o ∧ VOwn 3 W.heap.size w' v' (inV o) ∧ Below W.heap.size W w') := fun W hb => falling_any z hn vz W (VSl.below hz hb)
  rw [← hth]
  rw [← hlw] at hw ⊢
  obtain ⟨SS, hSS⟩ : ∃ SS : Nat → Int, SS = fun i => max (z.getD i 0) 0 := ⟨_, rfl⟩
  have HSX : Hid (∀ (i : Nat) (x : Int), z[i]? = some x → SS i = max x 0) := fun i x h => by rw [hSS]; show max (z.getD i 0) 0 = _; rw [List.getD, h]; rfl
  rw [← hSS]
  have GV : Hid (∀ (g : Nat) (ld : Nat → Int) (x : Int) (but : Nat) W, Below w.heap.size w W → MapL W g th ld → okLd th room ld → x ≤ 9223372036854775807 → Calls Try.prog 44 #[.agg (tabA g (.slice ow lw cw) room), .int .i64 x, .int .i64 (but : Int)] W fun e w' => e = .returned (.int .i64 (giveN th ld (wtT l) room (max x 0) but : Nat)) ∧ MapL w' g th (ldUp ld (giveN th ld (wtT l) room (max x 0) but) (max x 0)) ∧ Kept (fun k => k = g) W w') := fun g ld x but W hb hM hok hx => give_any g th ld l hW _ room x but W hM (VSl.below hw hb) hr1 hr2 hx hok
  obtain ⟨oz, cz, rfl, hz3, hz4⟩ := hz.slice
  obtain ⟨n, hn0⟩ : ∃ n, n = z.length := ⟨_, rfl⟩
  have HZX : Hid (∀ x ∈ z, x ≤ 9223372036854775807) := hz2
  rw [← hn0] at hz hz3 hn FA ⊢
  have HZ : Hid (ISl w (.slice oz n cz) z) := hz
  unfold maxLen at hz4
  clear hz hl hw hW hn0 hz2 hth hlw hSS
  go_enter Try.func35, Try.ntmps35
  go_wp2_with (first | (go_at_call 42; refine (BG.out _ (Below.refl _ _)).mono ?_; rintro e w1 ⟨g, rfl, hg, hM1, hb1⟩; refine of_stopT ?_))
  unfold StopT
  obtain ⟨w2, hw2⟩ : ∃ w2, w2 = w1.alloc (.cells (tabA g (.slice ow lw cw) room) 81) := ⟨_, rfl⟩
  obtain ⟨q, hq⟩ : ∃ q, q = w1.heap.size := ⟨_, rfl⟩
  have b12 : Below w1.heap.size w1 w2 := by rw [hw2]; exact (Below.refl _ _).alloc (Nat.le_refl _) _
  have M2 : Hid (MapL w2 g th (fun _ => 0)) := hM1.below b12
  have Q2 : Hid (w2.heap[q]? = some (.cells (tabA g (.slice ow lw cw) room) 81 (0, 0))) := by show _ = _; rw [hw2, hq]; exact heap_new _ _ _ rfl
  have B2 : Hid (Below w.heap.size w w2) := hb1.trans (b12.mono hb1.size)
  have HGW : Hid (w.heap.size ≤ g) := hg
  have hgq : g < q := by rw [hq]; exact hM1.lt
  clear hM1 hb1 b12
  go_wp2_with (first | (refine wl_storeT rfl _ _ rfl w1.heap.size g ow lw cw room rfl rfl _ (heap_new _ _ _ rfl) rfl _ (setRow_new _ _ _ _ _ rfl) ?_; refine of_stopT ?_))
  unfold StopT
  rw [← hw2, ← hq]
  clear hw2 hq
  go_wp2_with (first | (refine wl_makeP rfl _ _ rfl n rfl rfl (by omega) ?_; intro w3 ho3 hb3; refine of_stopT ?_))
  unfold StopT
  obtain ⟨go, hgo⟩ : ∃ go, go = w2.heap.size := ⟨_, rfl⟩
  have M3 : Hid (MapL w3 g th (fun _ => 0)) := M2.out.below hb3
  have Q3 : Hid (w3.heap[q]? = some (.cells (tabA g (.slice ow lw cw) room) 81 (0, 0))) := (hb3.block _ (Array.getElem?_eq_some_iff.1 Q2.out).1).trans Q2.out
  have B3 : Hid (Below w.heap.size w w3) := B2.out.trans (hb3.mono B2.out.size)
  have O3 : Hid (POwn w.heap.size w3 (.slice (some ⟨go, 0, none⟩) n n) (pairsT (fun _ => (0, 0)) n)) := by
    show POwn _ _ _ _
    rw [pairs_zero, hgo]
    unfold POwn at ho3 ⊢
    exact own_base13 ho3 B2.out.size
  have hqo : q < go := by rw [hgo]; exact (Array.getElem?_eq_some_iff.1 Q2.out).1
  have hgo3 : go < w3.heap.size := by have := World.ownsRow.lt O3.out go rfl; exact this.2
  rw [← hgo]
  clear ho3 hb3 M2 Q2 B2 hgo
  go_wp2_with (first | (go_at_call 43; refine (FA.out _ B3.out).mono ?_; rintro e w4 ⟨v4, o, rfl, ho, hv4, hb4⟩; refine of_stopT ?_))
  unfold StopT
  have M4 : Hid (MapL w4 g th (fun _ => 0)) := M3.out.below hb4
  have Q4 : Hid (w4.heap[q]? = some (.cells (tabA g (.slice ow lw cw) room) 81 (0, 0))) := (hb4.block _ (Array.getElem?_eq_some_iff.1 Q3.out).1).trans Q3.out
  have B4 : Hid (Below w.heap.size w w4) := B3.out.trans (hb4.mono B3.out.size)
  have O4 : Hid (POwn w.heap.size w4 (.slice (some ⟨go, 0, none⟩) n n) (pairsT (fun _ => (0, 0)) n)) := gown_below O3.out hb4
  have V4 : Hid (VOwn 3 w3.heap.size w4 v4 (inV o)) := hv4
  have HO : Hid (IsOrd (keyZ z) n o) := ho
  have hol : o.length = n := ord_len ho
  obtain ⟨o4, c4, hv, hc41, hc42⟩ := hv4.sl.slice
  rw [inV_len, hol] at hv hc41
  subst hv
  unfold maxLen at hc42
  have HOL : Hid (o.length = n) := hol
  have hne4 : ∀ j, (Value.slice o4 n c4).ownBlock = some j → w3.heap.size ≤ j := fun j hj => (V4.out.ge j hj).1
  have HN4 : Hid (∀ j, (Value.slice o4 n c4).ownBlock = some j → w3.heap.size ≤ j) := hne4
  obtain ⟨R, hR⟩ : ∃ R, R = dealF th (wtT l) room (cntT th) SS o (fun _ => 0) (fun _ => (0, 0)) := ⟨_, rfl⟩
  have HRR : Hid (R = dealF th (wtT l) room (cntT th) SS o (fun _ => 0) (fun _ => (0, 0))) := hR
  have R0 : Hid (R = dealF th (wtT l) room (cntT th) SS (o.drop 0) (fun _ => 0) (fun _ => (0, 0))) := by show _ = _; rw [List.drop_zero]; exact hR
  have OK0 : Hid (okLd th room (fun _ => 0)) := fun k _ _ _ => ⟨Int.le_refl _, by show (0 : Int) ≤ max room 0; omega⟩
  clear hne4 hol hb4 hv4 M3 Q3 B3 O3 ho hR
  go_wp2_with fail
  go_loopw [27] (fun i wr => ∃ (k : Nat) (ld : Nat → Int) (out : Nat → Nat × Nat), k ≤ n ∧ i = .int .i64 (k : Int) ∧ Hid (MapL wr g th ld) ∧ Hid (okLd th room ld) ∧ Hid (wr.heap[q]? = some (.cells (tabA g (.slice ow lw cw) room) 81 (0, 0))) ∧ Hid (POwn w.heap.size wr (.slice (some ⟨go, 0, none⟩) n n) (pairsT out n)) ∧ Hid (VOwn 3 w3.heap.size wr (.slice o4 n c4) (inV o)) ∧ Hid (R = dealF th (wtT l) room (cntT th) SS (o.drop k) ld out) ∧ Hid (Below w.heap.size w wr)) (fun i _ => n - (intOf i).toNat)
  case atStart => exact ⟨0, _, _, Nat.zero_le _, rfl, M4, OK0, Q4, O4, V4, R0, B4⟩
  case round =>
    clear M4 OK0 Q4 O4 V4 R0 B4
    obtain ⟨k, ld, out, hk, rfl, MX, OX, QX, PX, VX, RX, BX⟩ := hrel
    by_cases hlt : k < n
    · have hlt' : (k : Int) < (n : Int) := by omega
      obtain ⟨g4, off4, c, rfl, ⟨cur4, t4, fr4, hg4, hcc⟩, hoc⟩ := VX.out.sl.row k hlt
      unfold inV at hoc
      rw [List.getElem?_map] at hoc
      obtain ⟨i, hoi⟩ : ∃ i, o[k]? = some i := ⟨_, List.getElem?_eq_getElem (by rw [HOL.out]; exact hlt)⟩
      rw [hoi] at hoc
      obtain rfl : Value.int .i64 (i : Int) = c := Option.some.inj hoc
      have hin : i < n := (HO.out.1 i).1 (List.mem_of_getElem? hoi)
      have hin' : (i : Int) < (n : Int) := by omega
      have hci : wr.cell? ⟨g4, off4 + k, none⟩ = some (.int .i64 (i : Int)) := (cell_of_row _ _ _ _ _ _ hg4).trans hcc
      obtain ⟨gz, offz, x, curz, tz, frz, rfl, hgz, hxz, hzi⟩ := ISl.at HZ.out i hin
      have hgzl := (Array.getElem?_eq_some_iff.1 hgz).1
      have hgz2 := (BX.out.block gz hgzl).trans hgz
      have hx2 : x ≤ 9223372036854775807 := HZX.out x (List.mem_of_getElem? hzi)
      have hgw : w.heap.size ≤ g := HGW.out
      have hdr : o.drop k = i :: o.drop (k + 1) := by
        obtain ⟨h1, h2⟩ := List.getElem?_eq_some_iff.1 hoi
        rw [List.drop_eq_getElem_cons h1, h2]
      have hzx : SS i = max x 0 := HSX.out i x hzi
      obtain ⟨s, hs⟩ : ∃ s, s = max x 0 := ⟨_, rfl⟩
      have hs0 : 0 ≤ s := by omega
      have RS : Hid (R = if badG th (wtT l) room (cntT th) ld s then none else dealF th (wtT l) room (cntT th) SS (o.drop (k + 1)) (nextL th (wtT l) room ld s) (fun j => if j = i then (oneOf th (wtT l) room ld s, twoOf th (wtT l) room ld s) else out j)) := by
        show _ = _
        rw [RX.out, hdr, dealF, hzx, ← hs]
      have G1 := fun W (hb : Below wr.heap.size wr W) => GV.out g ld x 0 W (BX.out.trans (hb.mono BX.out.size)) (MX.out.below hb) OX.out hx2
      have OK1 : okLd th room (ldUp ld (giveN th ld (wtT l) room s 0) s) := okLd_up OX.out hs0
      have G2 := fun W (hb : Below w.heap.size w W) (hM : MapL W g th (ldUp ld (giveN th ld (wtT l) room s 0) s)) => GV.out g _ x (giveN th ld (wtT l) room s 0) W hb hM OK1 hx2
      have OK2 := okLd_up (wt := wtT l) (but := giveN th ld (wtT l) room s 0) OK1 hs0
      rw [← hs] at G1 G2
      unfold badG nextL twoOf oneOf at RS
      generalize giveN th ld (wtT l) room s 0 = one at G1 G2 OK1 OK2 RS
      generalize giveN th (ldUp ld one s) (wtT l) room s one = two at G2 OK2 RS
      have OKN : Hid (okLd th room (ldUp (ldUp ld one s) two s)) := OK2
      clear hg4 hcc hoc hoi hdr hzx hzi hgz hs RX OX
      go_wp2_with fail
      refine d6_region (by first | simp | exact Nat.le_of_ble_eq_true rfl) g q (.slice ow lw cw) room i gz offz n cz x 0 one th (ldUp ld one s) rfl rfl rfl rfl hin QX.out curz tz frz hgz2 hxz (by omega) (by omega) G1 ?_
      intro y6 w5 hy14 hM5 hk5
      have B5 : Hid (Below w.heap.size w w5) := BX.out.trans (hk5.below (fun j hj => by omega) BX.out.size)
      have Q5 : Hid (w5.heap[q]? = some (.cells (tabA g (.slice ow lw cw) room) 81 (0, 0))) := hk5.heap QX.out (by omega)
      have P5 : Hid (POwn w.heap.size w5 (.slice (some ⟨go, 0, none⟩) n n) (pairsT out n)) := hk5.own PX.out (fun j hj => by simp only [Value.ownBlock, Option.some.injEq] at hj; omega)
      have V5 : Hid (VOwn 3 w3.heap.size w5 (.slice (some ⟨g4, off4, none⟩) n c4) (inV o)) := hk5.own VX.out (fun j hj => by have := HN4.out j hj; omega)
      have hgz5 := hk5.heap hgz2 (by omega)
      simp only [putsD, d6_D, List.foldl_cons, List.foldl_nil, Act.put, List.setIfInBounds_toArray, List.set_cons_succ, List.set_cons_zero, hy14]
      clear hy14 MX QX PX VX BX hci hgz2 G1
      go_wp2_with fail
      refine d7_region (by first | simp | exact Nat.le_of_ble_eq_true rfl) g q (.slice ow lw cw) room i gz offz n cz x one two th (ldUp (ldUp ld one s) two s) rfl rfl rfl rfl hin Q5.out curz tz frz hgz5 hxz (by omega) (by omega) (fun W hb => G2 W (B5.out.trans (hb.mono B5.out.size)) (hM5.below hb)) ?_
      intro y7 w6 hy15 hM6 hk6
      have B6 : Hid (Below w.heap.size w w6) := B5.out.trans (hk6.below (fun j hj => by omega) B5.out.size)
      have Q6 : Hid (w6.heap[q]? = some (.cells (tabA g (.slice ow lw cw) room) 81 (0, 0))) := hk6.heap Q5.out (by omega)
      have P6 : Hid (POwn w.heap.size w6 (.slice (some ⟨go, 0, none⟩) n n) (pairsT out n)) := hk6.own P5.out (fun j hj => by simp only [Value.ownBlock, Option.some.injEq] at hj; omega)
      have V6 : Hid (VOwn 3 w3.heap.size w6 (.slice (some ⟨g4, off4, none⟩) n c4) (inV o)) := hk6.own V5.out (fun j hj => by have := HN4.out j hj; omega)
      have M6 : Hid (MapL w6 g th (ldUp (ldUp ld one s) two s)) := hM6
      simp only [putsD, d7_D, List.foldl_cons, List.foldl_nil, Act.put, List.setIfInBounds_toArray, List.set_cons_succ, List.set_cons_zero, hy15]
      clear hy15 Q5 P5 V5 B5 hgz5 hk5 hk6 hM5 hM6 G2
      have hlen := fun ty => M6.out.len ty
      have r0 : w6.cell? ⟨q, 0, none⟩ = some (.map (some g)) := by rw [cell_of_row _ _ _ _ _ _ Q6.out]; rfl
      by_cases h1 : one = 0
      · have h1' : ((one : Int) == 0) = true := by simp [h1]
        have RE : Hid (R = none) := by show _ = _; rw [RS.out, if_pos (by simp [h1])]
        clear h1 hlen
        go_wp2_with fail
        go_ret2
        refine ⟨⟨o, HO.out, ?_⟩, B6.out⟩
        rw [← HRR.out, RE.out]
        rfl
      · have h1' : ((one : Int) == 0) = false := by simp; omega
        by_cases h2 : two = 0
        · have h2' : ((two : Int) == 0) = true := by simp [h2]
          by_cases h3 : 1 < cntT th
          · have h3' : decide ((1 : Int) < (cntT th : Int)) = true := by simp; omega
            have h3'' : decide (1 < cntT th) = true := by simpa using h3
            have RE : Hid (R = none) := by show _ = _; rw [RS.out, if_pos (by simp [h2, h3])]
            clear h1 h2 h3
            go_wp2_with fail
            go_ret2
            refine ⟨⟨o, HO.out, ?_⟩, B6.out⟩
            rw [← HRR.out, RE.out]
            rfl
          · have h3' : decide ((1 : Int) < (cntT th : Int)) = false := by simp; omega
            have h3'' : decide (1 < cntT th) = false := by simpa using h3
            have RN : Hid (R = dealF th (wtT l) room (cntT th) SS (o.drop (k + 1)) (ldUp (ldUp ld one s) two s) (fun j => if j = i then (one, two) else out j)) := by show _ = _; rw [RS.out, if_neg (by simp [h1, h3])]
            clear h1 h2 h3 RS
            obtain ⟨p0, hp0, cA, cB, hfr⟩ := P6.out.cell i hin
            obtain ⟨hP7, hgr7⟩ := P6.out.set (by rw [pairs_len]) i hin (one : Int) (two : Int)
            rw [pairs_set] at hP7
            have fA := hfr (i * 2)
            have fB := hfr (i * 2 + 1)
            have P7 : Hid (POwn w.heap.size ((w6.setCell ⟨go, i * 2, none⟩ (.int .i64 (one : Int))).setCell ⟨go, i * 2 + 1, none⟩ (.int .i64 (two : Int))) (.slice (some ⟨go, 0, none⟩) n n) (pairsT (fun j => if j = i then (one, two) else out j) n)) := hP7
            have K7 : Kept (fun j => j = go) w6 ((w6.setCell ⟨go, i * 2, none⟩ (.int .i64 (one : Int))).setCell ⟨go, i * 2 + 1, none⟩ (.int .i64 (two : Int))) := Kept.of_grown hgr7 (fun j hj => by cases hj; rfl)
            have M7 : Hid (MapL ((w6.setCell ⟨go, i * 2, none⟩ (.int .i64 (one : Int))).setCell ⟨go, i * 2 + 1, none⟩ (.int .i64 (two : Int))) g th (ldUp (ldUp ld one s) two s)) := K7.map M6.out (by omega)
            have Q7 : Hid (((w6.setCell ⟨go, i * 2, none⟩ (.int .i64 (one : Int))).setCell ⟨go, i * 2 + 1, none⟩ (.int .i64 (two : Int))).heap[q]? = some (.cells (tabA g (.slice ow lw cw) room) 81 (0, 0))) := K7.heap Q6.out (by omega)
            have V7 : Hid (VOwn 3 w3.heap.size ((w6.setCell ⟨go, i * 2, none⟩ (.int .i64 (one : Int))).setCell ⟨go, i * 2 + 1, none⟩ (.int .i64 (two : Int))) (.slice (some ⟨g4, off4, none⟩) n c4) (inV o)) := K7.own V6.out (fun j hj => by have := HN4.out j hj; omega)
            have B7 : Hid (Below w.heap.size w ((w6.setCell ⟨go, i * 2, none⟩ (.int .i64 (one : Int))).setCell ⟨go, i * 2 + 1, none⟩ (.int .i64 (two : Int)))) := B6.out.trans (K7.below (fun j hj => by omega) B6.out.size)
            clear hP7 hgr7 K7 hfr hp0 M6 Q6 P6 V6 B6
            go_wp2_with fail
            go_roundw
            case rel => exact ⟨k + 1, _, _, by omega, by go_num, M7, OKN, Q7, P7, V7, RN, B7⟩
            case measure => simp [intOf]; omega
        · have h2' : ((two : Int) == 0) = false := by simp; omega
          have RN : Hid (R = dealF th (wtT l) room (cntT th) SS (o.drop (k + 1)) (ldUp (ldUp ld one s) two s) (fun j => if j = i then (one, two) else out j)) := by show _ = _; rw [RS.out, if_neg (by simp [h1, h2])]
          clear h1 h2 RS
          obtain ⟨p0, hp0, cA, cB, hfr⟩ := P6.out.cell i hin
          obtain ⟨hP7, hgr7⟩ := P6.out.set (by rw [pairs_len]) i hin (one : Int) (two : Int)
          rw [pairs_set] at hP7
          have fA := hfr (i * 2)
          have fB := hfr (i * 2 + 1)
          have P7 : Hid (POwn w.heap.size ((w6.setCell ⟨go, i * 2, none⟩ (.int .i64 (one : Int))).setCell ⟨go, i * 2 + 1, none⟩ (.int .i64 (two : Int))) (.slice (some ⟨go, 0, none⟩) n n) (pairsT (fun j => if j = i then (one, two) else out j) n)) := hP7
          have K7 : Kept (fun j => j = go) w6 ((w6.setCell ⟨go, i * 2, none⟩ (.int .i64 (one : Int))).setCell ⟨go, i * 2 + 1, none⟩ (.int .i64 (two : Int))) := Kept.of_grown hgr7 (fun j hj => by cases hj; rfl)
          have M7 : Hid (MapL ((w6.setCell ⟨go, i * 2, none⟩ (.int .i64 (one : Int))).setCell ⟨go, i * 2 + 1, none⟩ (.int .i64 (two : Int))) g th (ldUp (ldUp ld one s) two s)) := K7.map M6.out (by omega)
          have Q7 : Hid (((w6.setCell ⟨go, i * 2, none⟩ (.int .i64 (one : Int))).setCell ⟨go, i * 2 + 1, none⟩ (.int .i64 (two : Int))).heap[q]? = some (.cells (tabA g (.slice ow lw cw) room) 81 (0, 0))) := K7.heap Q6.out (by omega)
          have V7 : Hid (VOwn 3 w3.heap.size ((w6.setCell ⟨go, i * 2, none⟩ (.int .i64 (one : Int))).setCell ⟨go, i * 2 + 1, none⟩ (.int .i64 (two : Int))) (.slice (some ⟨g4, off4, none⟩) n c4) (inV o)) := K7.own V6.out (fun j hj => by have := HN4.out j hj; omega)
          have B7 : Hid (Below w.heap.size w ((w6.setCell ⟨go, i * 2, none⟩ (.int .i64 (one : Int))).setCell ⟨go, i * 2 + 1, none⟩ (.int .i64 (two : Int)))) := B6.out.trans (K7.below (fun j hj => by omega) B6.out.size)
          clear hP7 hgr7 K7 hfr hp0 M6 Q6 P6 V6 B6
          go_wp2_with fail
          go_roundw
          case rel => exact ⟨k + 1, _, _, by omega, by go_num, M7, OKN, Q7, P7, V7, RN, B7⟩
          case measure => simp [intOf]; omega
    · have hlt' : ¬ (k : Int) < (n : Int) := by omega
      have RE : Hid (R = some (ld, out)) := by
        show _ = _
        rw [RX.out, List.drop_of_length_le (by rw [HOL.out]; omega)]
        rfl
      go_wp2_with fail
      go_ret2
      refine ⟨⟨o, HO.out, ?_⟩, BX.out⟩
      rw [← HRR.out, RE.out]
      exact ⟨_, rfl, PX.out⟩
end Go.Proofs.Ytpbinkmeldkehaa
namespace Go.Proofs.Ytpbinkmeldkehaa
open Go Go.Lib Go.RowKit
set_option maxRecDepth 20000

/-! The reference's Size and Give. -/
theorem size_any (x : Int) (w : World) : Calls Try.prog 51 #[.int .i64 x] w fun e w' => e = .returned (.int .i64 (max x 0)) ∧ w' = w := by
  by_cases h : x < 0
  · have h' : decide (x < 0) = true := by simpa using h
    have hm : max x 0 = 0 := by omega
    rw [hm]
    go_enter Try.func51, Try.ntmps51
    go_wp2_with fail
    go_ret
    exact ⟨rfl, rfl⟩
  · have h' : decide (x < 0) = false := by simpa using h
    have hm : max x 0 = x := by omega
    rw [hm]
    go_enter Try.func51, Try.ntmps51
    go_wp2_with fail
    go_ret
    exact ⟨rfl, rfl⟩
def lV (ld : Nat → Int) : List Value := (List.range 7).map fun i => Value.int .i64 (ld i)
def tV (th : Nat → Bool) : List Value := (List.range 7).map fun i => Value.bool (if i = 0 then false else th i)
theorem lV_at (ld : Nat → Int) {n : Nat} (h : n < 7) : (lV ld)[n]? = some (.int .i64 (ld n)) := by unfold lV; rw [List.getElem?_map, List.getElem?_range h]; rfl
theorem tV_at (th : Nat → Bool) {n : Nat} (h1 : 1 ≤ n) (h : n < 7) : (tV th)[n]? = some (.bool (th n)) := by unfold tV; rw [List.getElem?_map, List.getElem?_range h, Option.map_some, if_neg (by omega)]
theorem lV_set (ld : Nat → Int) {m : Nat} (h : m < 7) (hm : m ≠ 0) (s : Int) : (lV ld).set m (.int .i64 (ld m + s)) = lV (ldUp ld m s) := by
  apply List.ext_getElem?
  intro j
  unfold lV ldUp
  rw [List.getElem?_set]
  by_cases e : m = j
  · subst e
    rw [if_pos rfl]
    simp [h, hm]
  · rw [if_neg e]
    by_cases hj : j < 7
    · simp [hj, show ¬ j = m from fun x => e x.symm]
    · simp [hj]
set_option maxHeartbeats 8000000 in
theorem rgive_any (th : Nat → Bool) (ld : Nat → Int) (l : List Nat) (hW : AllW l) (vw vt : Value) (room s : Int) (but : Nat) (gl B : Nat) (w : World) (hO : VOwn 3 B w (.slice (some ⟨gl, 0, none⟩) 7 7) (lV ld)) (hT : VSl w vt (tV th)) (hL : FSl w vw l)
    (hr1 : -9223372036854775808 ≤ room) (hr2 : room ≤ 9223372036854775807) (hs0 : 0 ≤ s) (hs3 : s ≤ 9223372036854775807) (hld : okLd th room ld) :
    Calls Try.prog 52 #[.slice (some ⟨gl, 0, none⟩) 7 7, vt, vw, .int .i64 room, .int .i64 s, .int .i64 (but : Int)] w fun e w' => e = .returned (.int .i64 (giveN th ld (wtT l) room s but : Nat)) ∧ VOwn 3 B w' (.slice (some ⟨gl, 0, none⟩) 7 7) (lV (ldUp ld (giveN th ld (wtT l) room s but) s)) ∧ Kept (fun k => k = gl) w w' := by
  obtain ⟨GG, hGG⟩ : ∃ GG : Nat → Option (Nat × Nat), GG = giveGo th ld (wtT l) room s but := ⟨_, rfl⟩
  have STEP : Hid (∀ n : Nat, 1 ≤ n → GG n = if mayG th ld room s but n then
      (match GG (n - 1) with
      | none => some (n, costT (ld n + s) (wtT l n))
      | some (m, y) => if placeT (costT (ld n + s) (wtT l n)) < placeT y then some (n, costT (ld n + s) (wtT l n)) else some (m, y))
    else GG (n - 1)) := fun n h => by rw [hGG]; exact give_step h
  have G0 : Hid (GG 0 = none) := by show _ = _; rw [hGG, giveGo]
  have GIN : Hid (∀ k n x : Nat, GG k = some (n, x) → 1 ≤ n ∧ n ≤ k ∧ mayG th ld room s but n = true ∧ Wd x) := fun k n x h => by
    rw [hGG] at h
    obtain ⟨h1, h2, h3, h4⟩ := giveGo_in h
    exact ⟨h1, h2, h3, by rw [h4]; exact costT_wd _ _⟩
  have RES : Hid (giveN th ld (wtT l) room s but = gI (GG 6)) := by show _ = _; rw [hGG, giveN]
  have CO : Hid (∀ (v : Nat) W (a : Int), Wd v → a ≤ 9223372036854775807 → Calls Try.prog 74 #[.int .i64 a, .float .f64 v] W fun e w' => e = .returned (.float .f64 (costT a v)) ∧ w' = W) := fun v W a hv ha => rcost_any a v ha hv W
  have LS : Hid (∀ (x y : Nat) W, Wd x → Wd y → Calls Try.prog 71 #[.float .f64 x, .float .f64 y] W fun e w' => e = .returned (.bool (decide (placeT x < placeT y))) ∧ w' = W) := fun x y W h1 h2 => rless_any x y h1 h2 W
  have WW : Hid (∀ n, Wd (wtT l n)) := fun n => wt_wd hW n
  obtain ⟨ow, cw, rfl, hw1, hw2⟩ := hL.slice
  obtain ⟨ot, ct, rfl, ht1, ht2⟩ := VSl.slice hT
  have htl : (tV th).length = 7 := by simp [tV]
  rw [htl] at hT ht1 ⊢
  unfold maxLen at hw2 ht2
  obtain ⟨lw, hlw⟩ : ∃ lw, lw = l.length := ⟨_, rfl⟩
  have HLW : Hid (lw = l.length) := hlw
  rw [← hlw] at hL hw1 ⊢
  have HLD : Hid (okLd th room ld) := hld
  have HO : Hid (VOwn 3 B w (.slice (some ⟨gl, 0, none⟩) 7 7) (lV ld)) := hO
  have HT : Hid (VSl w (.slice ot 7 ct) (tV th)) := hT
  have HL : Hid (FSl w (.slice ow lw cw) l) := hL
  rw [RES.out]
  clear hGG hO hT hL hld RES hW hlw htl
  go_enter Try.func52, Try.ntmps52
  go_wp2_with fail
  go_loopw [13, 14, 15] (fun v7 v8 v9 wr => ∃ n : Nat, 1 ≤ n ∧ n ≤ 7 ∧ v9 = .int .i64 (n : Int) ∧ v7 = .int .i64 (gI (GG (n - 1)) : Nat) ∧ v8 = .float .f64 (gX (GG (n - 1))) ∧ wr = w) (fun _ _ v9 _ => 7 - (intOf v9).toNat)
  case atStart => exact ⟨1, by omega, by omega, rfl, by rw [show (1 : Nat) - 1 = 0 from rfl, G0.out]; rfl, by rw [show (1 : Nat) - 1 = 0 from rfl, G0.out]; rfl, rfl⟩
  case round =>
    obtain ⟨n, hn1, hn7, rfl, rfl, rfl, rfl⟩ := hrel
    by_cases hle : n ≤ 6
    · have hle' : (n : Int) ≤ 6 := by omega
      have hn7' : (n : Int) < 7 := by omega
      have hnn : n + 1 - 1 = n := by omega
      obtain ⟨gt, offt, c, rfl, hct, htn⟩ := HT.out.at n (by omega)
      rw [tV_at th hn1 (by omega)] at htn
      obtain rfl : Value.bool (th n) = c := Option.some.inj htn
      obtain ⟨c2, hcl, hln, _⟩ := HO.out.cell n (by omega)
      rw [lV_at ld (by omega)] at hln
      obtain rfl : Value.int .i64 (ld n) = c2 := Option.some.inj hln
      clear htn hln
      cases hth : th n with
      | false =>
        rw [hth] at hct
        have HE : Hid (GG (n + 1 - 1) = GG (n - 1)) := by
          show _ = _
          rw [hnn, STEP.out n hn1, if_neg (by unfold mayG; rw [hth]; simp)]
        clear hth
        go_wp2_with fail
        go_roundw
        case rel => exact ⟨n + 1, by omega, by omega, by go_num, by rw [HE.out], by rw [HE.out], trivial⟩
        case measure => simp [intOf]; omega
      | true =>
        rw [hth] at hct
        obtain ⟨hx0, hx1⟩ := HLD.out n hn1 hle hth
        by_cases hbut : n = but
        · have hb1 : ((n : Int) == (but : Int)) = true := by simp; omega
          have HE : Hid (GG (n + 1 - 1) = GG (n - 1)) := by
            show _ = _
            rw [hnn, STEP.out n hn1, if_neg (by unfold mayG; simp [hbut])]
          generalize ld n = x at *
          clear hth hbut
          go_wp2_with fail
          go_roundw
          case rel => exact ⟨n + 1, by omega, by omega, by go_num, by rw [HE.out], by rw [HE.out], trivial⟩
          case measure => simp [intOf]; omega
        · have hb1 : ((n : Int) == (but : Int)) = false := by simp; omega
          by_cases hr : room < 0
          · have hr' : decide (room < 0) = true := by simpa using hr
            have HE : Hid (GG (n + 1 - 1) = GG (n - 1)) := by
              show _ = _
              rw [hnn, STEP.out n hn1, if_neg (by unfold mayG; simp [show room - ld n < s by omega])]
            generalize ld n = x at *
            clear hth hbut
            go_wp2_with fail
            go_roundw
            case rel => exact ⟨n + 1, by omega, by omega, by go_num, by rw [HE.out], by rw [HE.out], trivial⟩
            case measure => simp [intOf]; omega
          · have hr' : decide (room < 0) = false := by simpa using hr
            by_cases hfit : room - ld n < s
            · have hf1 : decide (room - ld n < s) = true := by simpa using hfit
              have HE : Hid (GG (n + 1 - 1) = GG (n - 1)) := by
                show _ = _
                rw [hnn, STEP.out n hn1, if_neg (by unfold mayG; simp [hfit])]
              have hr3 : -9223372036854775808 ≤ room - ld n := by omega
              have hr4 : room - ld n ≤ 9223372036854775807 := by omega
              generalize ld n = x at *
              clear hth hbut
              go_wp2_with fail
              go_roundw
              case rel => exact ⟨n + 1, by omega, by omega, by go_num, by rw [HE.out], by rw [HE.out], trivial⟩
              case measure => simp [intOf]; omega
            · have hf1 : decide (room - ld n < s) = false := by simpa using hfit
              have HG : Hid (GG n = (match GG (n - 1) with
                | none => some (n, costT (ld n + s) (wtT l n))
                | some (m, y) => if placeT (costT (ld n + s) (wtT l n)) < placeT y then some (n, costT (ld n + s) (wtT l n)) else some (m, y))) := by
                show _ = _
                rw [STEP.out n hn1, if_pos (by unfold mayG; simp [hfit, hth, hbut])]
              have hr3 : -9223372036854775808 ≤ room - ld n := by omega
              have hr4 : room - ld n ≤ 9223372036854775807 := by omega
              have hr5 : ld n + s ≤ 9223372036854775807 := by omega
              have hr6 : -9223372036854775808 ≤ ld n + s := by omega
              have co := fun W => CO.out (wtT l n) W (ld n + s) (WW.out n) hr5
              have cw2 : Wd (costT (ld n + s) (wtT l n)) := costT_wd _ _
              by_cases hwl : (n : Int) ≤ (lw : Int)
              · have hwl' : decide ((n : Int) ≤ (lw : Int)) = true := by simpa using hwl
                have hwl'' : decide (n ≤ lw) = true := by simp; omega
                obtain ⟨k, hkn⟩ : ∃ k, n = k + 1 := ⟨n - 1, by omega⟩
                obtain ⟨bw, offw, xw, rfl, hxw, hxi⟩ := HL.out.at k (by omega)
                have hwt : wtT l n = xw := by unfold wtT; rw [hkn, Nat.add_sub_cancel, List.getD, hxi]; rfl
                rw [hwt] at co cw2 HG
                have hk1 : (n : Int) - 1 = (k : Int) := by omega
                have hkl : (k : Int) < (lw : Int) := by omega
                generalize costT (ld n + s) xw = cx at co cw2 HG
                have cw := cw2
                generalize ld n = x at *
                clear hth hbut hwt hxi hkn cw2
                cases hp : GG (n - 1) with
                | none =>
                  have HE : Hid (GG (n + 1 - 1) = some (n, cx)) := by show _ = _; rw [hnn, HG.out, hp]
                  have hg0 : gI none = 0 := rfl
                  rw [hg0]
                  clear hp HG
                  go_wp2_with (first | (go_at_call 74; refine (co _).mono ?_; rintro e w3 ⟨rfl, hw3⟩; rw [hw3]; clear hw3 w3))
                  go_roundw
                  case rel => exact ⟨n + 1, by omega, by omega, by go_num, by rw [HE.out]; rfl, by rw [HE.out]; rfl, trivial⟩
                  case measure => simp [intOf]; omega
                | some pq =>
                  obtain ⟨m, y⟩ := pq
                  obtain ⟨hm1, _, _, hyw⟩ := GIN.out _ _ _ hp
                  have hgm : gI (some (m, y)) = m := rfl
                  have hgy : gX (some (m, y)) = y := rfl
                  rw [hgm, hgy]
                  have hm0 : ((m : Int) == 0) = false := by simp; omega
                  have ls := fun W => LS.out cx y W cw hyw
                  by_cases hless : placeT cx < placeT y
                  · have HE : Hid (GG (n + 1 - 1) = some (n, cx)) := by show _ = _; rw [hnn, HG.out, hp]; dsimp only; rw [if_pos hless]
                    have hl : decide (placeT cx < placeT y) = true := by simpa using hless
                    rw [hl] at ls
                    clear hp HG hless hl hgm hgy
                    go_wp2_with (first | (go_at_call 74; refine (co _).mono ?_; rintro e w3 ⟨rfl, hw3⟩; rw [hw3]; clear hw3 w3) | (go_at_call 71; refine (ls _).mono ?_; rintro e w3 ⟨rfl, hw3⟩; rw [hw3]; clear hw3 w3))
                    go_roundw
                    case rel => exact ⟨n + 1, by omega, by omega, by go_num, by rw [HE.out]; rfl, by rw [HE.out]; rfl, trivial⟩
                    case measure => simp [intOf]; omega
                  · have HE : Hid (GG (n + 1 - 1) = some (m, y)) := by show _ = _; rw [hnn, HG.out, hp]; dsimp only; rw [if_neg hless]
                    have hl : decide (placeT cx < placeT y) = false := by simpa using hless
                    rw [hl] at ls
                    clear hp HG hless hl hgm hgy
                    go_wp2_with (first | (go_at_call 74; refine (co _).mono ?_; rintro e w3 ⟨rfl, hw3⟩; rw [hw3]; clear hw3 w3) | (go_at_call 71; refine (ls _).mono ?_; rintro e w3 ⟨rfl, hw3⟩; rw [hw3]; clear hw3 w3))
                    go_roundw
                    case rel => exact ⟨n + 1, by omega, by omega, by go_num, by rw [HE.out]; rfl, by rw [HE.out]; rfl, trivial⟩
                    case measure => simp [intOf]; omega
              · have hwl' : decide ((n : Int) ≤ (lw : Int)) = false := by simpa using hwl
                have hwl'' : decide (n ≤ lw) = false := by simp; omega
                have hwt : wtT l n = 0 := by unfold wtT; rw [List.getD, List.getElem?_eq_none (by have := HLW.out; omega)]; rfl
                rw [hwt] at co cw2 HG
                generalize costT (ld n + s) 0 = cx at co cw2 HG
                have cw := cw2
                generalize ld n = x at *
                clear hth hbut hwt cw2
                cases hp : GG (n - 1) with
                | none =>
                  have HE : Hid (GG (n + 1 - 1) = some (n, cx)) := by show _ = _; rw [hnn, HG.out, hp]
                  have hg0 : gI none = 0 := rfl
                  rw [hg0]
                  clear hp HG
                  go_wp2_with (first | (go_at_call 74; refine (co _).mono ?_; rintro e w3 ⟨rfl, hw3⟩; rw [hw3]; clear hw3 w3))
                  go_roundw
                  case rel => exact ⟨n + 1, by omega, by omega, by go_num, by rw [HE.out]; rfl, by rw [HE.out]; rfl, trivial⟩
                  case measure => simp [intOf]; omega
                | some pq =>
                  obtain ⟨m, y⟩ := pq
                  obtain ⟨hm1, _, _, hyw⟩ := GIN.out _ _ _ hp
                  have hgm : gI (some (m, y)) = m := rfl
                  have hgy : gX (some (m, y)) = y := rfl
                  rw [hgm, hgy]
                  have hm0 : ((m : Int) == 0) = false := by simp; omega
                  have ls := fun W => LS.out cx y W cw hyw
                  by_cases hless : placeT cx < placeT y
                  · have HE : Hid (GG (n + 1 - 1) = some (n, cx)) := by show _ = _; rw [hnn, HG.out, hp]; dsimp only; rw [if_pos hless]
                    have hl : decide (placeT cx < placeT y) = true := by simpa using hless
                    rw [hl] at ls
                    clear hp HG hless hl hgm hgy
                    go_wp2_with (first | (go_at_call 74; refine (co _).mono ?_; rintro e w3 ⟨rfl, hw3⟩; rw [hw3]; clear hw3 w3) | (go_at_call 71; refine (ls _).mono ?_; rintro e w3 ⟨rfl, hw3⟩; rw [hw3]; clear hw3 w3))
                    go_roundw
                    case rel => exact ⟨n + 1, by omega, by omega, by go_num, by rw [HE.out]; rfl, by rw [HE.out]; rfl, trivial⟩
                    case measure => simp [intOf]; omega
                  · have HE : Hid (GG (n + 1 - 1) = some (m, y)) := by show _ = _; rw [hnn, HG.out, hp]; dsimp only; rw [if_neg hless]
                    have hl : decide (placeT cx < placeT y) = false := by simpa using hless
                    rw [hl] at ls
                    clear hp HG hless hl hgm hgy
                    go_wp2_with (first | (go_at_call 74; refine (co _).mono ?_; rintro e w3 ⟨rfl, hw3⟩; rw [hw3]; clear hw3 w3) | (go_at_call 71; refine (ls _).mono ?_; rintro e w3 ⟨rfl, hw3⟩; rw [hw3]; clear hw3 w3))
                    go_roundw
                    case rel => exact ⟨n + 1, by omega, by omega, by go_num, by rw [HE.out]; rfl, by rw [HE.out]; rfl, trivial⟩
                    case measure => simp [intOf]; omega
    · have hle' : ¬ (n : Int) ≤ 6 := by omega
      obtain rfl : n = 7 := by omega
      cases hp : GG (7 - 1) with
      | none =>
        have H6 : Hid (GG 6 = none) := hp
        have hg0 : gI none = 0 := rfl
        rw [hg0]
        clear hp
        go_wp2_with fail
        go_ret
        refine ⟨by rw [H6.out]; rfl, ?_, Kept.refl _ _⟩
        rw [H6.out]
        have e : ldUp ld (gI none) s = ld := by funext j; unfold ldUp; rw [if_neg (by intro h; exact h.2 rfl)]
        rw [e]
        exact HO.out
      | some pq =>
        obtain ⟨m, y⟩ := pq
        have H6 : Hid (GG 6 = some (m, y)) := hp
        obtain ⟨hm1, hm6, hmay, _⟩ := GIN.out _ _ _ H6.out
        have hgm : gI (some (m, y)) = m := rfl
        rw [hgm]
        have hth : th m = true ∧ ld m + s ≤ room := by
          unfold mayG at hmay
          simp only [Bool.and_eq_true, Bool.not_eq_true', decide_eq_false_iff_not] at hmay
          exact ⟨hmay.1.1, by omega⟩
        obtain ⟨hx0, hx1⟩ := HLD.out m hm1 hm6 hth.1
        obtain ⟨c2, hcl, hln, hfr⟩ := HO.out.cell m (by omega)
        rw [lV_at ld (by omega)] at hln
        obtain rfl : Value.int .i64 (ld m) = c2 := Option.some.inj hln
        have N2 : Hid (VOwn 3 B (wr.setCell ⟨gl, m, none⟩ (.int .i64 (ld m + s))) (.slice (some ⟨gl, 0, none⟩) 7 7) (lV (ldUp ld m s))) := by
          show VOwn _ _ _ _ _
          rw [← lV_set ld (by omega) (by omega) s]
          exact HO.out.set m _
        have K2 : Hid (Kept (fun k => k = gl) wr (wr.setCell ⟨gl, m, none⟩ (.int .i64 (ld m + s)))) := Kept.of_grown (HO.out.setBelow m _) (fun k hk => by cases hk; rfl)
        have hm0 : decide ((0 : Int) < (m : Int)) = true := by simp; omega
        have hm0' : decide (0 < m) = true := by simp; omega
        have hm7 : (m : Int) < 7 := by omega
        have hr5 : ld m + s ≤ 9223372036854775807 := by omega
        have hr6 : -9223372036854775808 ≤ ld m + s := by omega
        clear hp hmay hth hgm hln
        generalize ld m = x at *
        go_wp2_with fail
        go_ret
        exact ⟨by rw [H6.out]; rfl, by rw [H6.out]; exact N2.out, K2.out⟩
end Go.Proofs.Ytpbinkmeldkehaa
