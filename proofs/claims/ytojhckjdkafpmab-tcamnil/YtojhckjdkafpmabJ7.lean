import Derived.Test.YtojhckjdkafpmabJ6
import Derived.Laws.Cover3
namespace Go.Proofs.Ytojhckjdkafpmab
open Go Go.RowKit
set_option maxRecDepth 20000

/-- One element appended where there is room. -/
theorem wl_appendRoom {E : El} (H : E.Ok) {ops : Array Oper} {rest : List Oper} {o : Oper} {a : Act} {w : World} {Q : Exit → Act → World → Prop} (hgd : o.guard = none) (s x : Operand) (ho : o.op = .call { callee := .builtin .append, args := #[s, x], argTypes := #[E.slice, E.slice] })
    (g n cap : Nat) (hs : a.eval s = .slice (some ⟨g, 0, none⟩) n cap) (cur : Array Value) (hg : w.heap[g]? = some (.cells cur E.elem (0, 0))) (gx capx : Nat) (cs : Array Value) (hf : Fits E cs) (hx : a.eval x = .slice (some ⟨gx, 0, none⟩) 1 capx) (hgx : w.heap[gx]? = some (.cells cs E.elem (0, 0)))
    (hroom : n + 1 ≤ cap) (hfit : n * E.size + E.size ≤ cur.size)
    (h : wpList Try.prog ops Q rest (a.put o.dst (.slice (some ⟨g, 0, none⟩) (n + 1) cap)) (w.setRow g (cur.toList.take (n * E.size) ++ cs.toList ++ cur.toList.drop (n * E.size + E.size)).toArray)) : wpList Try.prog ops Q (o :: rest) a w := by
  obtain ⟨i0, hi, hz0, hz1, hz2⟩ := H.info
  have hl : cs.toList.length = 1 * i0.size := by rw [Array.length_toList, hf.1, hz1, Nat.one_mul]
  have hcs : cs.toList.length = E.size := by rw [Array.length_toList, hf.1]
  refine wpList_plain hgd fun K hK => ?_
  have hr := run_append_room (P := Try.prog) w E.slice o.type E.elem i0 H.hs hi g n cap cur hg ⟨gx, 0, none⟩ 1 capx cs.toList hl (fun j y hy => by
      have hadd : (⟨gx, 0, none⟩ : Addr).add j = ⟨gx, j, none⟩ := by unfold Addr.add; split <;> simp_all
      rw [hadd, cell_of_row w gx j _ _ _ hgx, ← hy]
      simp) (fun u hu => (Array.all_eq_true_iff_forall_mem.1 hf.2) u (by simpa using hu)) hroom (by rw [hz1, hcs]; exact hfit)
  rw [hz1, hcs] at hr
  unfold Oper.wp execOp
  simp only [ho, resolve, invoke, builtin, Sem.run_bind, Sem.run_pure, Result.andThen_ok, List.map_toArray, List.map_cons, List.map_nil, hs, hx, hr]
  exact hK _ _ h
/-- The row behind it. -/
theorem room_row {cur cs : Array Value} {n s : Nat} (hcs : cs.size = s) (hfit : n * s + s ≤ cur.size) :
    (cur.toList.take (n * s) ++ cs.toList ++ cur.toList.drop (n * s + s)).toArray.size = cur.size ∧
    (cur.toList.take (n * s) ++ cs.toList ++ cur.toList.drop (n * s + s)).toArray.toList.take ((n + 1) * s) = cur.toList.take (n * s) ++ cs.toList ∧
    ∀ j, (n + 1) * s ≤ j → (cur.toList.take (n * s) ++ cs.toList ++ cur.toList.drop (n * s + s)).toArray[j]? = cur[j]? := by
  have e : (n + 1) * s = n * s + s := by rw [Nat.add_mul, Nat.one_mul]
  have hl : (cur.toList.take (n * s) ++ cs.toList).length = n * s + s := by
    rw [List.length_append, List.length_take, Array.length_toList, Array.length_toList, hcs]; omega
  refine ⟨?_, ?_, fun j hj => ?_⟩
  · rw [List.size_toArray, List.length_append, hl, List.length_drop, Array.length_toList]; omega
  · rw [e, ← hl]; exact List.take_left
  · rw [List.getElem?_toArray, List.getElem?_append_right (by rw [hl]; omega), hl, List.getElem?_drop, Array.getElem?_toList]
    congr 1
    omega
theorem wl_build1S {ops : Array Oper} {rest : List Oper} {o : Oper} {a : Act} {w : World} {Q : Exit → Act → World → Prop} (hg : o.guard = none) (x : Operand) (ho : o.op = .buildSlice 39 1 #[(0, x)]) (s : Slt) (hx : a.eval x = .agg (slotV s))
    (h : wpList Try.prog ops Q rest (a.put o.dst (.slice (some ⟨w.heap.size, 0, none⟩) 1 1)) (w.alloc (.cells (slotV s) 27))) : wpList Try.prog ops Q (o :: rest) a w :=
  wl_buildE (E := SlotE) SlotOk hg x ho (slotV s) (slotV_size s) hx h
theorem wl_appendS {ops : Array Oper} {rest : List Oper} {o : Oper} {a : Act} {w : World} {Q : Exit → Act → World → Prop} (hgd : o.guard = none) (s x : Operand) (ho : o.op = .call { callee := .builtin .append, args := #[s, x], argTypes := #[39, 39] })
    (B : Nat) (v : Value) (C : List Slt) (c : Slt) (hs : a.eval s = v) (hown : SlotsAt B w v C) (g cap : Nat) (hx : a.eval x = .slice (some ⟨g, 0, none⟩) 1 cap) (hg : w.heap[g]? = some (.cells (slotV c) 27 (0, 0)))
    (hn : C.length ≤ 1000000) (hB : B ≤ w.heap.size)
    (h : ∀ v' w', SlotsAt B w' v' (C ++ [c]) → w.grownBy w' v.ownBlock → (v'.ownBlock = v.ownBlock ∨ v'.ownBlock = some w.heap.size) → wpList Try.prog ops Q rest (a.put o.dst v') w') : wpList Try.prog ops Q (o :: rest) a w :=
  wl_appendE (E := SlotE) SlotOk slotV hgd s x ho B v C c (slot_fits _) hs hown g cap hx hg hn hB h
theorem wl_appendRoomS {ops : Array Oper} {rest : List Oper} {o : Oper} {a : Act} {w : World} {Q : Exit → Act → World → Prop} (hgd : o.guard = none) (s x : Operand) (ho : o.op = .call { callee := .builtin .append, args := #[s, x], argTypes := #[39, 39] })
    (g n cap : Nat) (hs : a.eval s = .slice (some ⟨g, 0, none⟩) n cap) (cur : Array Value) (hg : w.heap[g]? = some (.cells cur 27 (0, 0))) (gx capx : Nat) (c : Slt) (hx : a.eval x = .slice (some ⟨gx, 0, none⟩) 1 capx) (hgx : w.heap[gx]? = some (.cells (slotV c) 27 (0, 0)))
    (hroom : n + 1 ≤ cap) (hfit : n * 36 + 36 ≤ cur.size) (w3 : World) (hw3 : w.setRow g (cur.toList.take (n * 36) ++ (slotV c).toList ++ cur.toList.drop (n * 36 + 36)).toArray = w3)
    (h : wpList Try.prog ops Q rest (a.put o.dst (.slice (some ⟨g, 0, none⟩) (n + 1) cap)) w3) : wpList Try.prog ops Q (o :: rest) a w := by
  subst hw3
  exact wl_appendRoom (E := SlotE) SlotOk hgd s x ho g n cap hs cur hg gx capx (slotV c) (slot_fits _) hx hgx hroom hfit h
theorem filt_yes {l : List Slt} {k : Nat} {x : Slt} {q : Slt → Bool} (h : l[k]? = some x) (hq : q x = true) : (l.take (k + 1)).filter q = (l.take k).filter q ++ [x] := by
  rw [List.take_add_one, h, List.filter_append]
  simp [hq]
theorem filt_no {l : List Slt} {k : Nat} {x : Slt} {q : Slt → Bool} (h : l[k]? = some x) (hq : q x = false) : (l.take (k + 1)).filter q = (l.take k).filter q := by
  rw [List.take_add_one, h, List.filter_append]
  simp [hq]
theorem filt_len {l : List Slt} (k : Nat) (q : Slt → Bool) : ((l.take k).filter q).length ≤ k := Nat.le_trans (List.length_filter_le _ _) (by rw [List.length_take]; omega)
def isB (g : Nat) (k : Nat) : Prop := k = g
def StopS (p : Prop) : Prop := p
theorem of_stopS {p : Prop} (h : StopS p) : p := h
/-- The row while it is parted. -/
structure PartS (g n cap : Nat) (w wr : World) (C : List Slt) (p : Slt → Bool) (cur : Array Value) (k m : Nat) (vg : Value) : Prop where
  hm : m = ((C.take k).filter fun x => !(p x)).length
  row : ∃ cur', wr.heap[g]? = some (.cells cur' 27 (0, 0)) ∧ cur'.size = cur.size ∧ cur'.toList.take (m * 36) = gcells slotV ((C.take k).filter fun x => !(p x)) ∧ ∀ j, k * 36 ≤ j → cur'[j]? = cur[j]?
  gone : SlotsAt w.heap.size wr vg ((C.take k).filter p)
  kept : Kept (isB g) w wr
set_option maxHeartbeats 16000000 in
theorem partN_any (B g n cap : Nat) (C : List Slt) (w : World) (cur : Array Value) (hn0 : n = C.length) (hB : B ≤ g) (hg : w.heap[g]? = some (.cells cur 27 (0, 0))) (hcap : n ≤ cap) (hcm : cap ≤ maxLen) (hsz : cur.size = cap * 36) (htk : cur.toList.take (n * 36) = gcells slotV C) (hn : n ≤ 1000000)
    (f : Nat) (cb : Array Value) (p : Slt → Bool) (eg : ∀ args w, (callFunc f args).run Try.prog w = .ok (.enter f args) w) (hc : ClosB (fun W => Kept (isB g) w W) f cb p) :
    Calls Try.prog 44 #[.slice (some ⟨g, 0, none⟩) n cap, .func (.func f) #[] cb] w fun e w' => ∃ v1 v2, e = .returned (.tuple #[v1, v2]) ∧ SlotsAt B w' v1 (C.filter fun x => !(p x)) ∧ v1.ownBlock = some g ∧ SlotsAt w.heap.size w' v2 (C.filter p) ∧ Kept (isB g) w w' := by
  have hglt : g < w.heap.size := (Array.getElem?_eq_some_iff.1 hg).1
  have HC : Hid (ClosB (fun W => Kept (isB g) w W) f cb p) := hc
  have HN : Hid (n = C.length) := hn0
  have HAT : Hid (∀ (k : Nat) (x : Slt) (cur' : Array Value), C[k]? = some x → (∀ j, k * 36 ≤ j → cur'[j]? = cur[j]?) → ∀ j, j < 36 → cur'[k * 36 + j]? = (slotV x)[j]?) := fun k x cur' hx hj j hj36 => by
    have hk : k < C.length := (List.getElem?_eq_some_iff.1 hx).1
    rw [hj _ (by omega)]
    have h1 := gcells_at slotV 36 C (fun c _ => slotV_size c) k hk j hj36
    rw [← htk, List.getElem?_take_of_lt (by have := Nat.mul_le_mul_right 36 (show k + 1 ≤ n by omega); omega), Array.getElem?_toList] at h1
    rw [Nat.mul_comm k 36, h1, (List.getElem?_eq_some_iff.1 hx).2]
  have H0 : Hid (PartS g n cap w w C p cur 0 0 (.slice none 0 0)) := ⟨by simp, ⟨cur, hg, rfl, by simp [gcells], fun j _ => rfl⟩, by simpa using SlotsAt.nil _ _, Kept.refl _ _⟩
  have HE : Hid (∀ wr m vg, PartS g n cap w wr C p cur n m vg → ∃ v1 v2, Ending.returned (.tuple #[.slice (some ⟨g, 0, none⟩) m cap, vg]) = .returned (.tuple #[v1, v2]) ∧ SlotsAt B wr v1 (C.filter fun x => !(p x)) ∧ v1.ownBlock = some g ∧ SlotsAt w.heap.size wr v2 (C.filter p) ∧ Kept (isB g) w wr) := fun wr m vg h => by
    obtain ⟨h1, ⟨cur', h2, h3, h4, _⟩, h5, h6⟩ := h
    rw [hn0, List.take_length] at h1 h4 h5
    subst h1
    refine ⟨_, _, rfl, ?_, rfl, h5, h6⟩
    refine ⟨gcells_len slotV_size _, .inr ⟨g, cap, cur', rfl, hB, h2, Nat.le_trans (List.length_filter_le _ _) (by omega), hcm, by rw [h3, hsz], h4⟩⟩
  unfold maxLen at hcm
  have HSZ : Hid (cur.size = cap * 36) := hsz
  clear hc hg htk hB hn0 hsz
  go_enter Try.func44, Try.ntmps44
  go_wp2_with fail
  go_loopw [6, 7, 14] (fun s6 s7 i wr => ∃ (k m : Nat), k ≤ n ∧ i = .int .i64 (k : Int) ∧ s6 = .slice (some ⟨g, 0, none⟩) m cap ∧ Hid (PartS g n cap w wr C p cur k m s7)) (fun _ _ i _ => n - (intOf i).toNat)
  case atStart => exact ⟨0, 0, Nat.zero_le _, rfl, rfl, H0.out⟩
  case round =>
    obtain ⟨k, m, hk, rfl, rfl, HS⟩ := hrel
    by_cases hlt : k < n
    · have hlt' : (k : Int) < (n : Int) := by omega
      obtain ⟨x, hx⟩ : ∃ x, C[k]? = some x := ⟨_, List.getElem?_eq_getElem (show k < C.length by have := HN.out; omega)⟩
      have HX : Hid (C[k]? = some x) := hx
      obtain ⟨cur', hr1, hr2, hr3, hr4⟩ := HS.out.row
      have K1 : Hid (wr.heap[g]? = some (.cells cur' 27 (0, 0))) := hr1
      have K1s : Hid (cur'.size = cap * 36) := hr2.trans HSZ.out
      have H1 : Hid (∀ j, j < 36 → cur'[k * 36 + j]? = (slotV x)[j]?) := HAT.out k x cur' hx hr4
      have HM : Hid (m ≤ k) := by show _ ≤ _; rw [HS.out.hm]; exact filt_len _ _
      have R3 : Hid (cur'.toList.take (m * 36) = gcells slotV ((C.take k).filter fun x => !(p x))) := hr3
      have R4 : Hid (∀ j, k * 36 ≤ j → cur'[j]? = cur[j]?) := hr4
      have KN : Hid ((wr.alloc (.cells (slotV x) 27)).heap[wr.heap.size]? = some (.cells (slotV x) 27 (0, 0))) := heap_new _ _ _ rfl
      have KB : Hid (Below wr.heap.size wr (wr.alloc (.cells (slotV x) 27))) := (Below.refl _ _).alloc (Nat.le_refl _) _
      have KG : Hid (Kept (isB g) w (wr.alloc (.cells (slotV x) 27))) := HS.out.kept.add KB.out
      have hcall := HC.out x _ KG.out
      have ML : Hid (((C.take k).filter p).length ≤ 1000000) := by show _ ≤ _; have := filt_len (l := C) k p; omega
      clear hr1 hr2 hr3 hr4 hx
      cases hp : p x with
      | true =>
        rw [hp] at hcall
        have HPX : Hid (p x = true) := hp
        clear hp
        go_wp2_with (first
          | (refine wl_loadS rfl _ rfl g (k * 36) rfl x (ld_row K1.out H1.out) ?_)
          | (refine wl_allocS rfl rfl ?_)
          | (refine wl_storeS rfl _ _ rfl wr.heap.size x zeroS rfl rfl (heap_new _ _ _ rfl) _ (setRow_new _ _ _ _ _ rfl) ?_; refine of_stopS ?_))
        unfold StopS
        go_wp2_with (refine wl_loadS rfl _ rfl wr.heap.size 0 rfl x (ld_own KN.out) ?_)
        refine hcall.mono ?_
        rintro e w1 ⟨rfl, hb1⟩
        have B1 : Hid (Below wr.heap.size wr w1) := below_step KB.out KB.out.size hb1
        have KN1 : Hid (w1.heap[wr.heap.size]? = some (.cells (slotV x) 27 (0, 0))) := (hb1.block _ (by simp)).trans KN.out
        have GO : Hid (SlotsAt w.heap.size (w1.alloc (.cells (slotV x) 27)) u7 ((C.take k).filter p)) := (HS.out.gone.below B1.out).below ((Below.refl _ _).alloc (Nat.le_refl _) _)
        have B2 : Hid (Below wr.heap.size wr (w1.alloc (.cells (slotV x) 27))) := B1.out.alloc B1.out.size _
        clear hcall hb1
        go_wp2_with (first
          | (refine wl_loadS rfl _ rfl wr.heap.size 0 rfl x (ld_own KN1.out) ?_)
          | (refine wl_build1S rfl _ rfl x rfl ?_)
          | (at_builtin; refine of_stopS ?_))
        unfold StopS
        refine wl_appendS rfl _ _ rfl w.heap.size u7 ((C.take k).filter p) x rfl GO.out w1.heap.size 1 rfl (heap_new _ _ _ rfl) ML.out (by have h1 := HS.out.kept.size; have h2 := B2.out.size; omega) ?_
        intro v' w3 hown3 hgr3 hv'
        have B3 : Hid (PartS g n cap w w3 C p cur (k + 1) m v') := by
          have hne : u7.ownBlock ≠ some g := fun e => by have := (HS.out.gone.lt g e).1; omega
          have hgr : g < wr.heap.size := (Array.getElem?_eq_some_iff.1 K1.out).1
          refine ⟨?_, ⟨cur', ?_, K1s.out.trans HSZ.out.symm, ?_, fun j hj => R4.out j (by omega)⟩, ?_, ?_⟩
          · rw [filt_no HX.out (by rw [HPX.out]; rfl)]; exact HS.out.hm
          · rw [hgr3.block g (by have := B2.out.size; omega) (fun e => hne e.symm), B2.out.block g hgr]; exact K1.out
          · rw [filt_no HX.out (by rw [HPX.out]; rfl)]; exact R3.out
          · rw [filt_yes HX.out HPX.out]; exact hown3
          · exact (HS.out.kept.add B2.out).trans (Kept.of_grown (X := fun j => w.heap.size ≤ j) hgr3 fun j hj => (HS.out.gone.lt j hj).1) fun j hj => .inr hj
        clear hown3 hgr3 hv'
        simp only [Act.put, List.setIfInBounds_toArray, List.set_cons_succ, List.set_cons_zero]
        go_wp2_with fail
        go_roundw
        case rel => exact ⟨k + 1, m, by omega, by go_num, rfl, B3.out⟩
        case measure => simp [intOf]; omega
      | false =>
        rw [hp] at hcall
        have HPX : Hid (p x = false) := hp
        clear hp
        go_wp2_with (first
          | (refine wl_loadS rfl _ rfl g (k * 36) rfl x (ld_row K1.out H1.out) ?_)
          | (refine wl_allocS rfl rfl ?_)
          | (refine wl_storeS rfl _ _ rfl wr.heap.size x zeroS rfl rfl (heap_new _ _ _ rfl) _ (setRow_new _ _ _ _ _ rfl) ?_; refine of_stopS ?_))
        unfold StopS
        go_wp2_with (refine wl_loadS rfl _ rfl wr.heap.size 0 rfl x (ld_own KN.out) ?_)
        refine hcall.mono ?_
        rintro e w1 ⟨rfl, hb1⟩
        have B1 : Hid (Below wr.heap.size wr w1) := below_step KB.out KB.out.size hb1
        have KN1 : Hid (w1.heap[wr.heap.size]? = some (.cells (slotV x) 27 (0, 0))) := (hb1.block _ (by simp)).trans KN.out
        have B2 : Hid (Below wr.heap.size wr (w1.alloc (.cells (slotV x) 27))) := B1.out.alloc B1.out.size _
        have KR : Hid ((w1.alloc (.cells (slotV x) 27)).heap[g]? = some (.cells cur' 27 (0, 0))) := (B2.out.block g (Array.getElem?_eq_some_iff.1 K1.out).1).trans K1.out
        have hfit : m * 36 + 36 ≤ cur'.size := by have h1 := K1s.out; have h2 := HM.out; omega
        have hroom : m + 1 ≤ cap := by have h2 := HM.out; omega
        clear hcall hb1
        go_wp2_with (first
          | (refine wl_loadS rfl _ rfl wr.heap.size 0 rfl x (ld_own KN1.out) ?_)
          | (refine wl_build1S rfl _ rfl x rfl ?_)
          | (at_builtin; refine of_stopS ?_))
        unfold StopS
        obtain ⟨w3, hw3⟩ : ∃ w3, (w1.alloc (.cells (slotV x) 27)).setRow g (cur'.toList.take (m * 36) ++ (slotV x).toList ++ cur'.toList.drop (m * 36 + 36)).toArray = w3 := ⟨_, rfl⟩
        refine wl_appendRoomS rfl _ _ rfl g m cap rfl cur' KR.out w1.heap.size 1 x rfl (heap_new _ _ _ rfl) hroom hfit w3 hw3 ?_
        have B3 : Hid (PartS g n cap w w3 C p cur (k + 1) (m + 1) u7) := by
          obtain ⟨q1, q2, q3⟩ := room_row (n := m) (slotV_size x) hfit
          have hgw : w3.heap[g]? = some (.cells (cur'.toList.take (m * 36) ++ (slotV x).toList ++ cur'.toList.drop (m * 36 + 36)).toArray 27 (0, 0)) := by rw [← hw3]; exact setRow_heap _ _ _ _ _ _ KR.out
          have hot : ∀ j, j ≠ g → w3.heap[j]? = (w1.alloc (.cells (slotV x) 27)).heap[j]? := fun j hj => by rw [← hw3]; exact setRow_other _ g j _ hj
          have hks : Kept (isB g) (w1.alloc (.cells (slotV x) 27)) w3 := by
            rw [← hw3]
            exact ⟨rfl, rfl, rfl, by simp, fun j _ hj => setRow_other _ g j _ hj⟩
          have hhm := HS.out.hm
          refine ⟨?_, ⟨_, hgw, q1.trans (K1s.out.trans HSZ.out.symm), ?_, fun j hj => ?_⟩, ?_, ?_⟩
          · rw [filt_yes HX.out (by rw [HPX.out]; rfl), List.length_append, ← hhm]; rfl
          · rw [q2, R3.out, filt_yes HX.out (by rw [HPX.out]; rfl), gcells_append, gcells_one]
          · rw [q3 j (by have := HM.out; omega)]; exact R4.out j (by omega)
          · rw [filt_no HX.out HPX.out]
            exact ((HS.out.gone.below B1.out).below ((Below.refl _ _).alloc (Nat.le_refl _) _)).kept hks fun j hj e => by have := (HS.out.gone.lt j hj).1; unfold isB at e; omega
          · exact (HS.out.kept.add B2.out).trans hks fun j hj => .inl hj
        clear hw3
        simp only [Act.put, List.setIfInBounds_toArray, List.set_cons_succ, List.set_cons_zero]
        go_wp2_with fail
        go_roundw
        case rel => exact ⟨k + 1, m + 1, by omega, by go_num, rfl, B3.out⟩
        case measure => simp [intOf]; omega
    · have hlt' : ¬ (k : Int) < (n : Int) := by omega
      obtain rfl : k = n := by omega
      go_wp2_with fail
      go_ret2
      exact HE.out _ _ _ HS.out
end Go.Proofs.Ytojhckjdkafpmab
namespace Go.Proofs.Ytojhckjdkafpmab
open Go Go.RowKit
set_option maxRecDepth 20000

def rowX (v : Value) (k : Nat) : Prop := v.ownBlock = some k
set_option maxHeartbeats 4000000 in
theorem part_nil (w : World) (fv : Value) : Calls Try.prog 44 #[.slice none 0 0, fv] w fun e w' => e = .returned (.tuple #[.slice none 0 0, .slice none 0 0]) ∧ w' = w := by
  go_enter Try.func44, Try.ntmps44
  go_wp2_with fail
  go_loopw [6, 7, 14] (fun s6 s7 i wr => i = .int .i64 0 ∧ s6 = .slice none 0 0 ∧ s7 = .slice none 0 0 ∧ wr = w) (fun _ _ _ _ => 0)
  case atStart => exact ⟨rfl, rfl, rfl, rfl⟩
  case round =>
    obtain ⟨rfl, rfl, rfl, rfl⟩ := hrel
    go_wp2_with fail
    go_ret2
    exact ⟨rfl, rfl⟩
theorem part_any (B : Nat) (C : List Slt) (v : Value) (w : World) (hv : SlotsAt B w v C) (hn : C.length ≤ 1000000)
    (f : Nat) (cb : Array Value) (p : Slt → Bool) (eg : ∀ args w, (callFunc f args).run Try.prog w = .ok (.enter f args) w) (hc : ClosB (fun W => Kept (rowX v) w W) f cb p) :
    Calls Try.prog 44 #[v, .func (.func f) #[] cb] w fun e w' => ∃ v1 v2, e = .returned (.tuple #[v1, v2]) ∧ SlotsAt B w' v1 (C.filter fun x => !(p x)) ∧ v1.ownBlock = v.ownBlock ∧ SlotsAt w.heap.size w' v2 (C.filter p) ∧ Kept (rowX v) w w' := by
  obtain ⟨h1, ⟨rfl, h2⟩ | ⟨g, cap, cur, rfl, hB, hcur, h3, h4, h5, h6⟩⟩ := hv
  · have hC : C = [] := List.eq_nil_of_length_eq_zero h2
    subst hC
    refine (part_nil w _).mono ?_
    rintro e w' ⟨rfl, rfl⟩
    exact ⟨_, _, rfl, SlotsAt.nil _ _, rfl, SlotsAt.nil _ _, Kept.refl _ _⟩
  · have key : ∀ W, Kept (isB g) w W ↔ Kept (rowX (.slice (some ⟨g, 0, none⟩) C.length cap)) w W := fun W =>
      ⟨fun h => h.mono fun k _ e => by unfold isB at e; unfold rowX Value.ownBlock; rw [e], fun h => h.mono fun k _ e => by unfold rowX Value.ownBlock at e; simp only [Option.some.injEq] at e; exact e.symm⟩
    refine (partN_any B g C.length cap C w cur rfl hB hcur h3 h4 h5 h6 hn f cb p eg (fun x W hW => hc x W ((key W).1 hW))).mono ?_
    rintro e w' ⟨v1, v2, rfl, q1, q2, q3, q4⟩
    exact ⟨v1, v2, rfl, q1, q2, q3, (key w').1 q4⟩
def setV (v1 v2 v3 : Value) (b : Nat) (u : Value) : Value × Value × Value := if b = 1 then (u, v2, v3) else if b = 2 then (v1, u, v3) else if b = 3 then (v1, v2, u) else (v1, v2, v3)
def setL (S : Bks) (b : Nat) (l : List Slt) : Bks := if b = 1 then { S with c := l } else if b = 2 then { S with a := l } else if b = 3 then { S with p := l } else S
/-- A bank's row is put back into the table. -/
theorem TabV.put {B : Nat} {w w' : World} {g : Nat} {R : Rm} {S : Bks} {v1 v2 v3 : Value} (h : TabV B w g R S v1 v2 v3) (b : Nat) (hb : b < 4) (u : Value) (l : List Slt) (hk : Kept (rowX (bankV v1 v2 v3 b)) w w') (hu : SlotsAt B w' u l) (ho : u.ownBlock = (bankV v1 v2 v3 b).ownBlock ∨ ∀ k, u.ownBlock = some k → w.heap.size ≤ k) (hz : b = 0 → u = .slice none 0 0) :
    TabV B (w'.setCell ⟨g, 4 + b, none⟩ u) g R (setL S b l) (setV v1 v2 v3 b u).1 (setV v1 v2 v3 b u).2.1 (setV v1 v2 v3 b u).2.2 ∧ Kept (footT g v1 v2 v3) w (w'.setCell ⟨g, 4 + b, none⟩ u) ∧ ∀ k, footT g (setV v1 v2 v3 b u).1 (setV v1 v2 v3 b u).2.1 (setV v1 v2 v3 b u).2.2 k → footT g v1 v2 v3 k ∨ w.heap.size ≤ k := by
  have hgx : ¬ rowX (bankV v1 v2 v3 b) g := (h.bank b).ty h.blk (by decide)
  have hbk := hk.heap h.blk hgx
  have hset : (w'.setCell ⟨g, 4 + b, none⟩ u).heap[g]? = some (.cells ((tabV R v1 v2 v3).setIfInBounds (4 + b) u) 52 (0, 0)) := heap_setCell_same w' g (4 + b) _ _ _ hbk
  have hoth : ∀ k, k ≠ g → (w'.setCell ⟨g, 4 + b, none⟩ u).heap[k]? = w'.heap[k]? := fun k hkg => heap_setCell_other w' ⟨g, 4 + b, none⟩ k _ (by simpa using hkg)
  have hK2 : Kept (isB g) w' (w'.setCell ⟨g, 4 + b, none⟩ u) := ⟨rfl, rfl, rfl, by simp [World.setCell], fun k _ e => hoth k e⟩
  have hug : ∀ k, u.ownBlock = some k → ¬ isB g k := fun k e1 e2 => by unfold isB at e2; subst e2; exact hu.ty hbk (by decide) e1
  have old : ∀ (v : Value) (C : List Slt), SlotsAt B w v C → ApartR v.ownBlock (bankV v1 v2 v3 b).ownBlock → SlotsAt B (w'.setCell ⟨g, 4 + b, none⟩ u) v C := fun v C hv ha =>
    (hv.kept hk fun k e e' => ha.ne k e e').kept hK2 fun k e e' => by unfold isB at e'; subst e'; exact hv.ty h.blk (by decide) e
  have hu' : SlotsAt B (w'.setCell ⟨g, 4 + b, none⟩ u) u l := hu.kept hK2 hug
  have ap : ∀ v : Value, (∃ C, SlotsAt B w v C) → ApartR v.ownBlock (bankV v1 v2 v3 b).ownBlock → ApartR v.ownBlock u.ownBlock := fun v ⟨C, hv⟩ ha => by
    rcases ho with e | e
    · rw [e]; exact ha
    · cases hvb : v.ownBlock with
      | none => exact .inl rfl
      | some k =>
        refine .inr (.inr fun e' => ?_)
        have := (hv.lt k hvb).2
        have := e k e'.symm
        omega
  have hKf : Kept (footT g v1 v2 v3) w (w'.setCell ⟨g, 4 + b, none⟩ u) := by
    refine (hk.mono (Y := footT g v1 v2 v3) fun k _ e => ?_).trans hK2 fun k e => .inl (.inl e)
    unfold rowX bankV at e
    split at e
    · exact .inr (.inl e)
    · split at e
      · exact .inr (.inr (.inl e))
      · split at e
        · exact .inr (.inr (.inr e))
        · cases e
  have ho' : ∀ k, u.ownBlock = some k → (bankV v1 v2 v3 b).ownBlock = some k ∨ w.heap.size ≤ k := fun k e => by
    rcases ho with e' | e'
    · rw [e'] at e; exact .inl e
    · exact .inr (e' k e)
  rcases (show b = 0 ∨ b = 1 ∨ b = 2 ∨ b = 3 by omega) with rfl | rfl | rfl | rfl
  · have hu0 := hz rfl
    subst hu0
    exact ⟨⟨hset, old _ _ h.o1 (.inr (.inl rfl)), old _ _ h.o2 (.inr (.inl rfl)), old _ _ h.o3 (.inr (.inl rfl)), h.a12, h.a13, h.a23, h.hB⟩, hKf, fun k hk => .inl hk⟩
  · refine ⟨⟨hset, hu', old _ _ h.o2 h.a12.symm, old _ _ h.o3 h.a13.symm, (ap _ ⟨_, h.o2⟩ h.a12.symm).symm, (ap _ ⟨_, h.o3⟩ h.a13.symm).symm, h.a23, h.hB⟩, hKf, fun k hk => ?_⟩
    rcases hk with e | e | e | e
    · exact .inl (.inl e)
    · rcases ho' k e with e' | e'
      · exact .inl (.inr (.inl e'))
      · exact .inr e'
    · exact .inl (.inr (.inr (.inl e)))
    · exact .inl (.inr (.inr (.inr e)))
  · refine ⟨⟨hset, old _ _ h.o1 h.a12, hu', old _ _ h.o3 h.a23.symm, ap _ ⟨_, h.o1⟩ h.a12, h.a13, (ap _ ⟨_, h.o3⟩ h.a23.symm).symm, h.hB⟩, hKf, fun k hk => ?_⟩
    rcases hk with e | e | e | e
    · exact .inl (.inl e)
    · exact .inl (.inr (.inl e))
    · rcases ho' k e with e' | e'
      · exact .inl (.inr (.inr (.inl e')))
      · exact .inr e'
    · exact .inl (.inr (.inr (.inr e)))
  · refine ⟨⟨hset, old _ _ h.o1 h.a13, old _ _ h.o2 h.a23, hu', h.a12, ap _ ⟨_, h.o1⟩ h.a13, ap _ ⟨_, h.o2⟩ h.a23, h.hB⟩, hKf, fun k hk => ?_⟩
    rcases hk with e | e | e | e
    · exact .inl (.inl e)
    · exact .inl (.inr (.inl e))
    · exact .inl (.inr (.inr (.inl e)))
    · rcases ho' k e with e' | e'
      · exact .inl (.inr (.inr (.inr e')))
      · exact .inr e'
/-- What a call that changes the table leaves. -/
def TabTo (B : Nat) (w w' : World) (g : Nat) (R : Rm) (S' : Bks) (v1 v2 v3 : Value) : Prop := ∃ u1 u2 u3, TabV B w' g R S' u1 u2 u3 ∧ Kept (footT g v1 v2 v3) w w' ∧ ∀ k, footT g u1 u2 u3 k → footT g v1 v2 v3 k ∨ w.heap.size ≤ k
set_option maxHeartbeats 4000000 in
theorem drop_any (B : Nat) (w : World) (g : Nat) (R : Rm) (S : Bks) (v1 v2 v3 : Value) (h : TabV B w g R S v1 v2 v3) (b : Nat) (hb : b < 4) (hn : (bankL S b).length ≤ 1000000)
    (f : Nat) (cb : Array Value) (p : Slt → Bool) (eg : ∀ args w, (callFunc f args).run Try.prog w = .ok (.enter f args) w) (hc : ClosB (fun W => Kept (rowX (bankV v1 v2 v3 b)) w W) f cb p) :
    Calls Try.prog 29 #[.pointer (some ⟨g, 0, none⟩), .int .i64 (b : Int), .func (.func f) #[] cb] w fun e w' => ∃ u, e = .returned u ∧ SlotsAt w.heap.size w' u ((bankL S b).filter p) ∧ TabTo B w w' g R (setL S b ((bankL S b).filter fun x => !(p x))) v1 v2 v3 := by
  obtain ⟨vb, hvb⟩ : ∃ vb, vb = bankV v1 v2 v3 b := ⟨_, rfl⟩
  have hpt := part_any B _ _ w (h.bank b) hn f cb p eg hc
  have c1 := h.f.bankCell b hb
  rw [← hvb] at hpt c1
  have HP : Hid (∀ fv W, W = w → fv = Value.func (.func f) #[] cb → Calls Try.prog 44 #[vb, fv] W fun e w' => ∃ v1 v2, e = .returned (.tuple #[v1, v2]) ∧ SlotsAt B w' v1 ((bankL S b).filter fun x => !(p x)) ∧ v1.ownBlock = vb.ownBlock ∧ SlotsAt w.heap.size w' v2 ((bankL S b).filter p) ∧ Kept (rowX vb) w w') := fun fv W hW hf => by subst hW; subst hf; exact hpt
  have HSL : Hid (∀ w' u1 u2, SlotsAt B w' u1 ((bankL S b).filter fun x => !(p x)) → SlotsAt w.heap.size w' u2 ((bankL S b).filter p) → (∃ o n c, u1 = .slice o n c) ∧ ∃ o n c, u2 = .slice o n c) := fun w' u1 u2 h1 h2 => by
    obtain ⟨o, c, e, _⟩ := h1.slice
    obtain ⟨o', c', e', _⟩ := h2.slice
    exact ⟨⟨o, _, c, e⟩, ⟨o', _, c', e'⟩⟩
  have HF : Hid (∀ w' u1 u2, SlotsAt B w' u1 ((bankL S b).filter fun x => !(p x)) → u1.ownBlock = vb.ownBlock → SlotsAt w.heap.size w' u2 ((bankL S b).filter p) → Kept (rowX vb) w w' → (∀ k, w'.frozen? ⟨g, k, none⟩ = false) ∧ w'.cell? ⟨g, 4 + b, none⟩ = some vb ∧ SlotsAt w.heap.size (w'.setCell ⟨g, 4 + b, none⟩ u1) u2 ((bankL S b).filter p) ∧ TabTo B w (w'.setCell ⟨g, 4 + b, none⟩ u1) g R (setL S b ((bankL S b).filter fun x => !(p x))) v1 v2 v3) := fun w' u1 u2 q1 q2 q3 q4 => by
    have hgx : ¬ rowX vb g := by rw [hvb]; exact (h.bank b).ty h.blk (by decide)
    have hbk := q4.heap h.blk hgx
    have hK2 : Kept (isB g) w' (w'.setCell ⟨g, 4 + b, none⟩ u1) := ⟨rfl, rfl, rfl, by simp [World.setCell], fun k _ e => heap_setCell_other w' ⟨g, 4 + b, none⟩ k _ e⟩
    obtain ⟨r1, r2, r3⟩ := h.put b hb u1 _ (by rw [← hvb]; exact q4) q1 (.inl (by rw [← hvb]; exact q2)) (fun h0 => by
      subst h0
      have e0 : vb.ownBlock = none := by rw [hvb]; rfl
      obtain ⟨_, ⟨rfl, _⟩ | ⟨g', cap, cur, rfl, _⟩⟩ := q1
      · rfl
      · rw [e0] at q2; cases q2)
    refine ⟨fun k => by simp [World.frozen?, hbk], by rw [hvb]; exact (tabf_of hbk).bankCell b hb, q3.kept hK2 fun k e e' => ?_, _, _, _, r1, r2, r3⟩
    have h1 := (q3.lt k e).1
    have h2 := (Array.getElem?_eq_some_iff.1 h.blk).1
    unfold isB at e'
    omega
  have hb4 : (b : Int) < 4 := by omega
  obtain ⟨fv, hfv⟩ : ∃ fv, fv = Value.func (.func f) #[] cb := ⟨_, rfl⟩
  have HFV : Hid (fv = Value.func (.func f) #[] cb) := hfv
  rw [← hfv]
  clear hfv hpt hc h hvb
  go_enter Try.func29, Try.ntmps29
  go_wp2_with (go_at_call 44; refine (HP.out _ _ rfl HFV.out).mono ?_; rintro e w1 ⟨u1, u2, rfl, q1, q2, q3, q4⟩; obtain ⟨⟨o1, n1, p1, rfl⟩, o2, n2, p2, rfl⟩ := HSL.out w1 u1 u2 q1 q3; obtain ⟨f1, f2, f3, f4⟩ := HF.out w1 _ _ q1 q2 q3 q4; have f1' := f1 (4 + b); have F3 : Hid _ := f3; have F4 : Hid _ := f4; clear q1 q2 q3 q4 f3 f4 f1)
  go_ret
  exact ⟨_, rfl, F3.out, F4.out⟩
end Go.Proofs.Ytojhckjdkafpmab
namespace Go.Proofs.Ytojhckjdkafpmab
open Go Go.RowKit
set_option maxRecDepth 20000

/-- A struct slice of nothing. -/
theorem wl_build0S {ops : Array Oper} {rest : List Oper} {o : Oper} {a : Act} {w : World} {Q : Exit → Act → World → Prop} (hg : o.guard = none) (ho : o.op = .buildSlice 39 0 #[])
    (h : wpList Try.prog ops Q rest (a.put o.dst (.slice (some ⟨w.heap.size, 0, none⟩) 0 0)) (w.alloc (.cells #[] 27))) : wpList Try.prog ops Q (o :: rest) a w := by
  obtain ⟨ie, hie, hz, hs, _⟩ := SlotOk.info
  refine wpList_plain hg fun _ hK => ?_
  unfold Oper.wp execOp
  have hrun : (Instr.buildSlice 39 0 #[]).run Try.prog w = .ok (.slice (some ⟨w.heap.size, 0, none⟩) 0 0) (w.alloc (.cells #[] 27)) := by
    have h0 : Array.range 0 = #[] := Array.eq_empty_of_size_eq_zero (by simp)
    have hie' : Try.prog.info? 27 = some ie := hie
    simp [Instr.buildSlice, run_underlying Try.underlying39, sizeOf, typeInfo, hie', Instr.fill, newRow, h0]
  simp only [ho, Sem.run_bind, List.map_toArray, List.map_nil, hrun, Result.andThen_ok]
  exact hK _ _ h
theorem eq_nilS (o : Option Addr) (n c : Nat) (w : World) : (binOp .eql 39 (.slice o n c) (.slice none 0 0)).run Try.prog w = .ok (.bool o.isNone) w := by
  simp only [binOp]
  simp [run_equal_slice_nil w 39 27 o n c Try.underlying39]
theorem below_drewT (w : World) (q : Nat) : Below w.heap.size w (w.drewN q) := ⟨rfl, rfl, rfl, Nat.le_refl _, fun _ _ => rfl⟩
theorem slots0 (w : World) : SlotsAt w.heap.size (w.alloc (.cells #[] 27)) (.slice (some ⟨w.heap.size, 0, none⟩) 0 0) [] := ⟨by simp [gcells], .inr ⟨_, 0, #[], rfl, Nat.le_refl _, heap_new _ _ _ rfl, Nat.le_refl _, Nat.zero_le _, by simp, by simp [gcells]⟩⟩
theorem wl_appendSL {ops : Array Oper} {rest : List Oper} {o : Oper} {a : Act} {w : World} {Q : Exit → Act → World → Prop} (hgd : o.guard = none) (s x : Operand) (ho : o.op = .call { callee := .builtin .append, args := #[s, x], argTypes := #[39, 39] })
    (B B' : Nat) (v u : Value) (C D : List Slt) (hs : a.eval s = v) (hown : SlotsAt B w v C) (hx : a.eval x = u) (hu : SlotsAt B' w u D) (hn : C.length + D.length ≤ 1000000) (hB : B ≤ w.heap.size)
    (h : ∀ v' w', SlotsAt B w' v' (C ++ D) → w.grownBy w' v.ownBlock → wpList Try.prog ops Q rest (a.put o.dst v') w') : wpList Try.prog ops Q (o :: rest) a w :=
  wl_appendL (E := SlotE) SlotOk slotV slot_fits hgd s x ho B B' v u C D hs hown hx hu hn hB fun v' w' h1 h2 _ => h v' w' h1 h2
set_option maxHeartbeats 4000000 in
theorem clone_any (B : Nat) (C : List Slt) (v : Value) (w : World) (hv : SlotsAt B w v C) (hn : C.length ≤ 1000000) :
    Calls Try.prog 34 #[v] w fun e w' => (∃ u, e = .returned u ∧ SlotsAt w.heap.size w' u C) ∧ Below w.heap.size w w' := by
  have hv0 := hv
  have EQ := eq_nilS
  obtain ⟨h1, ⟨rfl, h2⟩ | ⟨g, cap, cur, rfl, hB, hcur, h3, h4, h5, h6⟩⟩ := hv
  · have hC : C = [] := List.eq_nil_of_length_eq_zero h2
    subst hC
    go_enter Try.func34, Try.ntmps34
    go_wp2_with fail
    go_ret
    exact ⟨⟨_, rfl, SlotsAt.nil _ _⟩, Below.refl _ _⟩
  · have B0 : Hid (Below w.heap.size w (w.alloc (.cells #[] 27))) := (Below.refl _ _).alloc (Nat.le_refl _) _
    have HV : Hid (SlotsAt B (w.alloc (.cells #[] 27)) (.slice (some ⟨g, 0, none⟩) C.length cap) C) := hv0.below B0.out
    have S0 : Hid (SlotsAt w.heap.size (w.alloc (.cells #[] 27)) (.slice (some ⟨w.heap.size, 0, none⟩) 0 0) []) := slots0 w
    clear hv0 hcur h6 h1 h5
    generalize hcl : C.length = n at HV h3 ⊢
    have HCL : Hid (C.length = n) := hcl
    clear hcl
    go_enter Try.func34, Try.ntmps34
    go_wp2_with (first | ((with_reducible refine wl_gE rfl ?_); refine wl_build0S rfl rfl ?_; try rw [sz_alloc]) | (at_builtin; refine of_stopS ?_))
    unfold StopS
    refine wl_appendSL rfl _ _ rfl w.heap.size B _ _ [] C rfl S0.out rfl HV.out (by simpa using hn) (by simp) ?_
    intro v' w3 hown3 hgr3
    have B3 : Hid (Below w.heap.size w w3) := B0.out.trans ((Below.refl _ _).grown hgr3 (by simp) fun k hk => by have h9 : some w.heap.size = some k := hk; simp only [Option.some.injEq] at h9; omega)
    have O3 : Hid (SlotsAt w.heap.size w3 v' C) := hown3
    clear hown3 hgr3
    simp only [Act.put, List.setIfInBounds_toArray, List.set_cons_succ, List.set_cons_zero]
    go_wp2_with fail
    go_ret
    exact ⟨⟨_, rfl, O3.out⟩, B3.out⟩
set_option maxHeartbeats 4000000 in
theorem full_any (B : Nat) (w : World) (g : Nat) (R : Rm) (S : Bks) (v1 v2 v3 : Value) (h : TabV B w g R S v1 v2 v3) (b : Nat) (hb : b < 4) :
    Calls Try.prog 25 #[.pointer (some ⟨g, 0, none⟩), .int .i64 (b : Int)] w fun e w' => e = .returned (.bool (decide ((bankL S b).length = roomL R b))) ∧ Below w.heap.size w w' := by
  obtain ⟨vb, hvb⟩ : ∃ vb, vb = bankV v1 v2 v3 b := ⟨_, rfl⟩
  have c1 := h.f.bankCell b hb
  have c2 := h.f.roomCell b hb
  obtain ⟨o, cap, e, he, hm⟩ := (h.bank b).slice
  unfold maxLen at hm
  rw [e] at c1
  generalize (bankL S b).length = n at c1 he ⊢
  generalize roomL R b = r at c2 ⊢
  have hb4 : (b : Int) < 4 := by omega
  clear h hvb e
  by_cases hr : n = r
  · subst hr
    go_enter Try.func25, Try.ntmps25
    go_wp2_with fail
    go_quiet (fail)
    go_wp2_with fail
    go_ret
    exact ⟨by simp, below_drewT _ _⟩
  · have hr' : ¬ (n : Int) = (r : Int) := by omega
    go_enter Try.func25, Try.ntmps25
    go_wp2_with fail
    go_quiet (fail)
    go_wp2_with fail
    go_ret
    exact ⟨by simp [hr]; omega, below_drewT _ _⟩
end Go.Proofs.Ytojhckjdkafpmab
namespace Go.Proofs.Ytojhckjdkafpmab
open Go Go.RowKit
set_option maxRecDepth 20000

theorem cmpT_lt (a b : Int) : cmpT a b < 0 ↔ a < b := by
  unfold cmpT
  split
  · simp; assumption
  · split <;> simp <;> omega
set_option maxHeartbeats 8000000 in
theorem min_any (C : List Slt) (v : Value) (w : World) (hl : GSl SlotE slotV w v C) (hn : C.length ≤ 1000000) (hne : C ≠ []) :
    Calls Try.prog 38 #[v, .func (.func 39) #[] #[]] w fun e w' => (∃ x A D, e = .returned (.agg (slotV x)) ∧ LeastAt (fun _ => true) (·.used) C A x D) ∧ Below w.heap.size w w' := by
  have h0 : 0 < C.length := by
    cases C with
    | nil => exact absurd rfl hne
    | cons c C => simp
  obtain ⟨o, cap, rfl, hc1, hc2⟩ := GSl.slice hl
  obtain ⟨n, hn0⟩ : ∃ n, n = C.length := ⟨_, rfl⟩
  have HN : Hid (n = C.length) := hn0
  rw [← hn0] at hl hc1 hn h0 ⊢
  have HL : Hid (GSl SlotE slotV w (.slice o n cap) C) := hl
  obtain ⟨g, off, cur0, ty0, fr0, x0, rfl, hg0, hcc0, hx0⟩ := hl.at 0 h0
  have K0 : Hid (∀ W, W.heap[g]? = w.heap[g]? → (loadVar 27 ⟨g, off, none⟩).run Try.prog W = .ok (.agg (slotV x0)) W) := fun W hW => ld_row (hW.trans hg0) (fun j hj => by have h := hcc0 j hj; rw [Nat.zero_mul, Nat.add_zero] at h; exact h)
  have HX0 : Hid (C[0]? = some x0) := hx0
  have HG : Hid (g < w.heap.size) := (Array.getElem?_eq_some_iff.1 hg0).1
  have h0' : ¬ (n : Int) < 1 := by omega
  have hn1 : (0 : Int) < (n : Int) := by omega
  unfold maxLen at hc2
  have EV : Hid (∀ x y W, Calls Try.prog 39 #[.agg (slotV x), .agg (slotV y)] W fun e w' => e = .returned (.int .i64 (cmpT x.used y.used)) ∧ Below W.heap.size W w') := evict1_any
  clear hl hn0 hne hg0 hcc0 hx0
  have N1 : Hid ((w.alloc (.cells (slotV zeroS) 27)).heap[g]? = w.heap[g]?) := Below.heap_alloc _ _ _ HG.out
  go_enter Try.func38, Try.ntmps38
  go_wp2_with (first | ((with_reducible refine wl_gA rfl ?_); refine wl_allocS rfl rfl ?_; try rw [sz_alloc]) | ((with_reducible refine wl_gL _ rfl ?_); refine wl_loadS rfl _ rfl g off rfl x0 (K0.out _ N1.out) ?_) | ((with_reducible refine wl_gS _ _ rfl ?_); refine wl_storeS rfl _ _ rfl (w.heap.size + 1) x0 zeroS rfl rfl (heap_new _ _ _ (by simp)) _ (setRow_new _ _ _ _ _ (by simp)) ?_))
  go_loopw [6] (fun i wr => ∃ (k j : Nat) (x : Slt), 1 ≤ k ∧ k ≤ n ∧ i = .int .i64 (k : Int) ∧ Hid (C[j]? = some x) ∧ Hid (FoundTo (fun _ => true) (·.used) C k (j : Int)) ∧ Hid (wr.heap[w.heap.size + 1]? = some (.cells (slotV x) 27 (0, 0))) ∧ Hid (wr.heap[w.heap.size]? = some (.cells (slotV zeroS) 27 (0, 0))) ∧ Hid (Below w.heap.size w wr)) (fun i _ => n - (intOf i).toNat)
  case atStart => exact ⟨1, 0, x0, Nat.le_refl _, h0, rfl, HX0, found_first (found_nil _) HX0.out rfl, heap_new _ _ _ (by simp), heap_past _ _ _ _ (heap_new _ _ _ rfl), ((Below.refl _ _).alloc (Nat.le_refl _) _).alloc (by simp) _⟩
  case round =>
    obtain ⟨k, j, x, hk1, hk, rfl, HJ, HF, HM, HZ, HB⟩ := hrel
    by_cases hlt : k < n
    · have hlt' : (k : Int) < (n : Int) := by omega
      obtain ⟨g', off', cur, ty, fr, y, he, hg, hcc, hyk⟩ := (GSl.below HL.out HB.out).at k hlt
      simp only [Option.some.injEq, Addr.mk.injEq, and_true] at he
      obtain ⟨rfl, rfl⟩ := he
      have K1 : Hid (wr.heap[g]? = some (.cells cur ty fr)) := hg
      have H1 : Hid (∀ j, j < 36 → cur[off + k * 36 + j]? = (slotV y)[j]?) := hcc
      have HY : Hid (C[k]? = some y) := hyk
      have ne1 := Later.ne wr
      clear hg hcc hyk
      by_cases hv : y.used < x.used
      · have hd : decide (cmpT y.used x.used < 0) = true := decide_eq_true ((cmpT_lt _ _).2 hv)
        have HV : Hid (y.used < x.used) := hv
        clear hv
        go_wp2_with fail
        refine wp_region_later (by kernel_rfl) (by kernel_rfl) ?_
        go_big_quiet_step (fail)
        go_big_quiet_step (fail)
        go_big_quiet_step (fail)
        go_big_quiet_step (fail)
        refine qlE (E := SlotE) SlotOk rfl _ rfl g (off + k * 36) rfl cur ty fr (slotV y) (slotV_size y) (later_block K1.out) H1.out ?_
        simp only [Act.put, List.setIfInBounds_toArray, List.set_cons_succ, List.set_cons_zero]
        refine qlE (E := SlotE) SlotOk rfl _ rfl (w.heap.size + 1) 0 rfl _ _ _ (slotV x) (slotV_size x) (later_block HM.out) (own_cells _ _) ?_
        simp only [Act.put, List.setIfInBounds_toArray, List.set_cons_succ, List.set_cons_zero]
        go_big_quiet_want; go_big_quiet_op
        refine ⟨_, fun u => Calls.later_of (EV.out y x u.world), ?_⟩
        go_big_quiet_on
        go_big_quiet_step (fail)
        refine wpQuiet_nil ?_
        rintro w' ⟨u, rfl⟩
        have B1 : Hid (Below wr.heap.size wr u.world) := u.below
        have M1 : Hid (u.world.heap[w.heap.size + 1]? = some (.cells (slotV x) 27 (0, 0))) := later_block HM.out _ ⟨u, rfl⟩
        have K2 : Hid (u.world.heap[g]? = some (.cells cur ty fr)) := later_block K1.out _ ⟨u, rfl⟩
        go_wp2_with (first | ((with_reducible refine wl_gL _ rfl ?_); refine wl_loadS rfl _ rfl g (off + k * 36) rfl y (ld_row K2.out H1.out) ?_) | ((with_reducible refine wl_gS _ _ rfl ?_); refine wl_storeS rfl _ _ rfl (w.heap.size + 1) y x rfl rfl M1.out _ rfl ?_))
        go_roundw
        case rel =>
          refine ⟨k + 1, k, y, by omega, by omega, by go_num, HY, found_take HF.out HJ.out HY.out rfl HV.out, setRow_heap _ _ _ _ _ _ M1.out, ?_, ?_⟩
          · exact (setRow_other _ _ _ _ (by omega)).trans (later_block HZ.out _ ⟨u, rfl⟩)
          · exact below_setRow (below_step HB.out HB.out.size B1.out) (by omega) _
        case measure => simp [intOf]; omega
      · have hd : decide (cmpT y.used x.used < 0) = false := decide_eq_false (fun h => hv ((cmpT_lt _ _).1 h))
        have HV : Hid (¬ y.used < x.used) := hv
        clear hv
        go_wp2_with fail
        refine wp_region_later (by kernel_rfl) (by kernel_rfl) ?_
        go_big_quiet_step (fail)
        go_big_quiet_step (fail)
        go_big_quiet_step (fail)
        go_big_quiet_step (fail)
        refine qlE (E := SlotE) SlotOk rfl _ rfl g (off + k * 36) rfl cur ty fr (slotV y) (slotV_size y) (later_block K1.out) H1.out ?_
        simp only [Act.put, List.setIfInBounds_toArray, List.set_cons_succ, List.set_cons_zero]
        refine qlE (E := SlotE) SlotOk rfl _ rfl (w.heap.size + 1) 0 rfl _ _ _ (slotV x) (slotV_size x) (later_block HM.out) (own_cells _ _) ?_
        simp only [Act.put, List.setIfInBounds_toArray, List.set_cons_succ, List.set_cons_zero]
        go_big_quiet_want; go_big_quiet_op
        refine ⟨_, fun u => Calls.later_of (EV.out y x u.world), ?_⟩
        go_big_quiet_on
        go_big_quiet_step (fail)
        refine wpQuiet_nil ?_
        rintro w' ⟨u, rfl⟩
        go_wp2_with fail
        go_roundw
        case rel => exact ⟨k + 1, j, x, by omega, by omega, by go_num, HJ, found_stay HF.out HJ.out HY.out (by have := HV.out; omega), later_block HM.out _ ⟨u, rfl⟩, later_block HZ.out _ ⟨u, rfl⟩, below_step HB.out HB.out.size u.below⟩
        case measure => simp [intOf]; omega
    · have hlt' : ¬ (k : Int) < (n : Int) := by omega
      have HK : Hid (k = n) := by show _ = _; omega
      go_wp2_with (first | ((with_reducible refine wl_gL _ rfl ?_); refine wl_loadS rfl _ rfl (w.heap.size + 1) 0 rfl x (ld_own HM.out) ?_) | ((with_reducible refine wl_gS _ _ rfl ?_); refine wl_storeS rfl _ _ rfl w.heap.size x zeroS rfl rfl HZ.out _ rfl ?_))
      refine bodyPost_ret (v := .agg (slotV x)) (results_cell_row rfl _ _ w.heap.size 27 (slotV x) (0, 0) _ rfl (setRow_heap _ _ _ _ _ _ HZ.out) Try.underlying27 rfl (SlotOk.cellsz _ (slotV_size x))) rfl ?_
      refine ⟨?_, below_setRow HB.out (Nat.le_refl _) _⟩
      have hF := HF.out
      rw [HK.out, HN.out] at hF
      rcases found_all hF with ⟨e, _⟩ | ⟨i, z, e, _, hz, hls⟩
      · omega
      · obtain rfl : j = i := by omega
        have hj := HJ.out
        rw [hz] at hj
        cases hj
        exact ⟨_, rfl, _, _, leastF_some hls⟩
end Go.Proofs.Ytojhckjdkafpmab
namespace Go.Proofs.Ytojhckjdkafpmab
open Go Go.RowKit
set_option maxRecDepth 20000

/-- No two of the cache are of one epoch and cube. -/
def DistC (C : List Slt) : Prop := C.Pairwise fun x y => ¬ (x.epoch = y.epoch ∧ x.cube = y.cube)
theorem drop_one {C A D : List Slt} {x : Slt} (h : C = A ++ x :: D) (hd : DistC C) (hok : ∀ y ∈ C, OkC y.cube) : C.filter (fun y => !(eqS y x)) = A ++ D ∧ C.filter (fun y => eqS y x) = [x] := by
  subst h
  unfold DistC at hd
  rw [List.pairwise_append] at hd
  obtain ⟨_, h2, h3⟩ := hd
  rw [List.pairwise_cons] at h2
  have hx : OkC x.cube := hok x (by simp)
  have hA : ∀ y ∈ A, eqS y x = false := fun y hy => by
    rcases Bool.eq_false_or_eq_true (eqS y x) with e | e
    · have := (eqS_iff (hok y (by simp [hy])) hx).1 e
      subst this
      exact absurd ⟨rfl, rfl⟩ (h3 y hy y (by simp))
    · exact e
  have hD : ∀ y ∈ D, eqS y x = false := fun y hy => by
    rcases Bool.eq_false_or_eq_true (eqS y x) with e | e
    · have := (eqS_iff (hok y (by simp [hy])) hx).1 e
      subst this
      exact absurd ⟨rfl, rfl⟩ (h2.1 y hy)
    · exact e
  constructor
  · rw [List.filter_append, List.filter_cons, if_neg (by rw [eqS_self]; simp), List.filter_eq_self.2 (fun y hy => by rw [hA y hy]; rfl), List.filter_eq_self.2 (fun y hy => by rw [hD y hy]; rfl)]
  · rw [List.filter_append, List.filter_cons, if_pos (eqS_self x), List.filter_eq_nil_iff.2 (fun y hy => by rw [hA y hy]; simp), List.filter_eq_nil_iff.2 (fun y hy => by rw [hD y hy]; simp)]; rfl
/-- What evict does to the cache. -/
def evictT (room : Nat) (C : List Slt) : List Slt × Slt × Bool :=
  if C.length = room then match leastF (fun _ => true) (·.used) C with
    | some (A, x, D) => (A ++ D, x, true)
    | none => (C, zeroS, true)
  else (C, zeroS, false)
theorem learnT_evict {room : Nat} {C : List Slt} {s : Slt} (hr : room ≠ 0) (h : leastF (sameC s) (fun _ => 0) C = none) : learnT room C s = ((evictT room C).1 ++ [s], (evictT room C).2.1, (evictT room C).2.2, 0) := by
  unfold learnT evictT
  rw [if_neg hr, h]
  simp only
  by_cases hf : C.length = room
  · rw [if_pos hf, if_pos hf]
    cases leastF (fun _ => true) (·.used) C with
    | none => rfl
    | some r => rfl
  · rw [if_neg hf, if_neg hf]
theorem ret2S {fn : Func} {R : Ending → World → Prop} {a : Act} {w : World} {p q : Tmp} (hr : fn.results = #[.cell p 27, .tmp q]) (hd : a.defers = []) (g : Nat) (hp : a.tmps.getD p undef = .pointer (some ⟨g, 0, none⟩)) (x : Slt)
    (hg : w.heap[g]? = some (.cells (slotV x) 27 (0, 0))) (u : Value) (hu : a.tmps.getD q undef = u) (h : R (.returned (.tuple #[.agg (slotV x), u])) w) : bodyPost Try.prog fn R .ret a w := by
  refine bodyPost_ret (v := .tuple #[.agg (slotV x), u]) ?_ hd h
  rw [results_cell_tmp hr, hp, hu]
  simp [asAddr, ld_own hg]
/-- What is local to a call stays apart from the table. -/
theorem TabTo.loc {B : Nat} {w W w3 w4 : World} {g : Nat} {R : Rm} {S S' : Bks} {v1 v2 v3 : Value} {Y : Nat → Prop} (h : TabV B w g R S v1 v2 v3) (hb : Below w.heap.size w W) (ht : TabTo B W w3 g R S' v1 v2 v3) (hk : Kept Y w3 w4) (hY : ∀ k, Y k → w.heap.size ≤ k ∧ k < W.heap.size) : TabTo B w w4 g R S' v1 v2 v3 := by
  obtain ⟨u1, u2, u3, t1, t2, t3⟩ := ht
  refine ⟨u1, u2, u3, t1.kept hk fun k hk e => ?_, (Kept.pre hb t2).trans hk fun k e => .inr (hY k e).1, fun k hk => ?_⟩
  · have h1 := hY k e
    rcases t3 k hk with e' | e'
    · have := (h.foot_in k e').2; omega
    · omega
  · rcases t3 k hk with e' | e'
    · exact .inl e'
    · exact .inr (Nat.le_trans hb.size e')
theorem TabTo.block {B : Nat} {w W w3 : World} {g : Nat} {R : Rm} {S S' : Bks} {v1 v2 v3 : Value} {q : Nat} {o : Obj} (h : TabV B w g R S v1 v2 v3) (ht : TabTo B W w3 g R S' v1 v2 v3) (hq : W.heap[q]? = some o) (hq2 : w.heap.size ≤ q) : w3.heap[q]? = some o := by
  obtain ⟨u1, u2, u3, t1, t2, t3⟩ := ht
  exact t2.heap hq fun e => by have := (h.foot_in q e).2; omega
theorem kept_setRow (w : World) (q : Nat) (cs : Array Value) : Kept (isB q) w (w.setRow q cs) := ⟨rfl, rfl, rfl, by simp, fun j _ hj => setRow_other _ _ j _ hj⟩
set_option maxHeartbeats 8000000 in
theorem evict_any (B : Nat) (w : World) (g : Nat) (R : Rm) (S : Bks) (v1 v2 v3 : Value) (h : TabV B w g R S v1 v2 v3) (hn : S.c.length ≤ 1000000) (hr : R.cache ≠ 0) (hd : DistC S.c) (hok : ∀ y ∈ S.c, OkC y.cube) :
    Calls Try.prog 21 #[.pointer (some ⟨g, 0, none⟩)] w fun e w' => e = .returned (.tuple #[.agg (slotV (evictT R.cache S.c).2.1), .bool (evictT R.cache S.c).2.2]) ∧ TabTo B w w' g R { S with c := (evictT R.cache S.c).1 } v1 v2 v3 := by
  have HW : Hid (∀ W, Below w.heap.size w W → TabV B W g R S v1 v2 v3) := fun W hb => h.below hb
  have FU : Hid (∀ W, Below w.heap.size w W → Calls Try.prog 25 #[.pointer (some ⟨g, 0, none⟩), .int .i64 1] W fun e w' => e = .returned (.bool (decide (S.c.length = R.cache))) ∧ Below W.heap.size W w') := by
    intro W hb
    exact full_any B W g R S v1 v2 v3 (h.below hb) 1 (by decide)
  have B0 : Hid (Below w.heap.size w (w.alloc (.cells (slotV zeroS) 27))) := (Below.refl _ _).alloc (Nat.le_refl _) _
  by_cases hf : S.c.length = R.cache
  · have hne : S.c ≠ [] := fun e => hr (by rw [← hf, e]; rfl)
    have MI : Hid (∀ W, Below w.heap.size w W → Calls Try.prog 38 #[v1, .func (.func 39) #[] #[]] W fun e w' => (∃ x A D, e = .returned (.agg (slotV x)) ∧ LeastAt (fun _ => true) (·.used) S.c A x D) ∧ Below W.heap.size W w') := by
      intro W hb
      exact min_any S.c v1 W (h.below hb).o1.sl hn hne
    have DR : Hid (∀ (x : Slt) (q : Nat) (W : World), Below w.heap.size w W → W.heap[q]? = some (.cells (slotV x) 27 (0, 0)) → w.heap.size ≤ q → Calls Try.prog 29 #[.pointer (some ⟨g, 0, none⟩), .int .i64 1, .func (.func 40) #[] #[.pointer (some ⟨q, 0, none⟩)]] W fun e w' => ∃ u, e = .returned u ∧ SlotsAt W.heap.size w' u (S.c.filter fun y => eqS y x) ∧ TabTo B W w' g R { S with c := S.c.filter fun y => !(eqS y x) } v1 v2 v3) := by
      intro x q W hb hq hq2
      refine drop_any B W g R S v1 v2 v3 (h.below hb) 1 (by decide) hn 40 #[.pointer (some ⟨q, 0, none⟩)] (fun y => eqS y x) (fun vs W => by have hf := Try.func40; simp [go_sem]) (fun y W' hW' => ?_)
      have hne : ¬ rowX v1 q := fun e => by have := (h.o1.lt q e).2; omega
      exact evict2_any y x W' q (hW'.heap hq hne)
    have FIN : Hid (∀ (x : Slt) (A D : List Slt) (w1 w2 w4 : World), LeastAt (fun _ => true) (·.used) S.c A x D → Below w.heap.size w w1 → TabTo B w1 w2 g R { S with c := S.c.filter fun y => !(eqS y x) } v1 v2 v3 → w.heap.size < w1.heap.size → Kept (isB w.heap.size) w2 w4 → evictT R.cache S.c = (A ++ D, x, true) ∧ TabTo B w w4 g R { S with c := A ++ D } v1 v2 v3) := by
      intro x A D w1 w2 w4 hl hb ht hlt hk
      have e1 : evictT R.cache S.c = (A ++ D, x, true) := by unfold evictT; rw [if_pos hf, leastF_iff.2 hl]
      refine ⟨e1, ?_⟩
      rw [(drop_one hl.1 hd hok).1] at ht
      exact ht.loc h hb hk fun k e => by unfold isB at e; omega
    have KP : Hid (∀ (x : Slt) (q : Nat) (w1 w2 : World) (S' : Bks), w1.heap[q]? = some (.cells (slotV x) 27 (0, 0)) → w.heap.size ≤ q → TabTo B w1 w2 g R S' v1 v2 v3 → w2.heap[q]? = some (.cells (slotV x) 27 (0, 0))) := by
      intro x q w1 w2 S' hq hq2 ht
      exact ht.block h hq hq2
    have c5 : ∀ W, Below w.heap.size w W → W.cell? ⟨g, 5, none⟩ = some v1 := fun W hb => (h.below hb).f.c5
    have HD1 : decide (S.c.length = R.cache) = true := decide_eq_true hf
    rw [HD1] at FU
    clear h hd hok hf hne hr HD1 HW
    have C5 : Hid (∀ W, Below w.heap.size w W → W.cell? ⟨g, 5, none⟩ = some v1) := c5
    clear c5
    go_enter Try.func21, Try.ntmps21
    go_wp2_with (first | ((with_reducible refine wl_gA rfl ?_); refine wl_allocS rfl rfl ?_; try rw [sz_alloc]) | (go_at_call 25; refine (FU.out _ B0.out).mono ?_; rintro e w1 ⟨rfl, hb1⟩; have B1 : Hid (Below w.heap.size w w1) := below_step B0.out B0.out.size hb1; have Z1 : Hid (w1.heap[w.heap.size]? = some (.cells (slotV zeroS) 27 (0, 0))) := (hb1.block _ (by simp)).trans (heap_new _ _ _ rfl); have c5 := C5.out w1 B1.out; clear hb1))
    refine (MI.out w1 B1.out).mono ?_
    rintro e w2 ⟨⟨x, A, D, rfl, hl⟩, hb2⟩
    have HLE : Hid (LeastAt (fun _ => true) (·.used) S.c A x D) := hl
    have B2 : Hid (Below w.heap.size w w2) := below_step B1.out B1.out.size hb2
    have Z2 : Hid (w2.heap[w.heap.size]? = some (.cells (slotV zeroS) 27 (0, 0))) := (hb2.block _ (Array.getElem?_eq_some_iff.1 Z1.out).1).trans Z1.out
    clear hb2 hl c5
    have B3 : Hid (Below w.heap.size w (w2.alloc (.cells (slotV x) 27))) := B2.out.alloc B2.out.size _
    have Z3 : Hid ((w2.alloc (.cells (slotV x) 27)).heap[w.heap.size]? = some (.cells (slotV zeroS) 27 (0, 0))) := heap_past _ _ _ _ Z2.out
    have X3 : Hid ((w2.alloc (.cells (slotV x) 27)).heap[w2.heap.size]? = some (.cells (slotV x) 27 (0, 0))) := heap_new _ _ _ rfl
    have hdr := DR.out x w2.heap.size _ B3.out X3.out B2.out.size
    go_wp2_with (first | ((with_reducible refine wl_gA rfl ?_); refine wl_allocS rfl rfl ?_; try rw [sz_alloc]) | ((with_reducible refine wl_gS _ _ rfl ?_); refine wl_storeS rfl _ _ rfl w2.heap.size x zeroS rfl rfl (heap_new _ _ _ rfl) _ (setRow_new _ _ _ _ _ rfl) ?_) | (go_at_call 29; refine hdr.mono ?_; rintro e w3 ⟨u, rfl, _, ht⟩; refine of_stopS ?_))
    unfold StopS
    have X4 : Hid (w3.heap[w2.heap.size]? = some (.cells (slotV x) 27 (0, 0))) := KP.out x _ _ _ _ X3.out B2.out.size ht
    have Z4 : Hid (w3.heap[w.heap.size]? = some (.cells (slotV zeroS) 27 (0, 0))) := KP.out zeroS _ _ _ _ Z3.out (Nat.le_refl _) ht
    have F4 := FIN.out x A D _ w3 (w3.setRow w.heap.size (slotV x)) HLE.out B3.out ht (by have := B2.out.size; simp; omega) (kept_setRow _ _ _)
    have FE : Hid (evictT R.cache S.c = (A ++ D, x, true)) := F4.1
    have FT : Hid (TabTo B w (w3.setRow w.heap.size (slotV x)) g R { S with c := A ++ D } v1 v2 v3) := F4.2
    clear ht F4 hdr
    go_wp2_with (first | ((with_reducible refine wl_gL _ rfl ?_); refine wl_loadS rfl _ rfl w2.heap.size 0 rfl x (ld_own X4.out) ?_) | ((with_reducible refine wl_gS _ _ rfl ?_); refine wl_storeS rfl _ _ rfl w.heap.size x zeroS rfl rfl Z4.out _ rfl ?_))
    refine ret2S (p := 2) (q := 3) rfl rfl w.heap.size rfl x (setRow_heap _ _ _ _ _ _ Z4.out) _ rfl ?_
    rw [FE.out]
    exact ⟨rfl, FT.out⟩
  · have HD1 : decide (S.c.length = R.cache) = false := decide_eq_false hf
    rw [HD1] at FU
    have FE : Hid (evictT R.cache S.c = (S.c, zeroS, false)) := by show _ = _; unfold evictT; rw [if_neg hf]
    have FT : Hid (∀ w4, Below w.heap.size w w4 → TabTo B w w4 g R { S with c := S.c } v1 v2 v3) := by
      intro w4 hb
      exact ⟨v1, v2, v3, h.below hb, Kept.of_below hb, fun k hk => .inl hk⟩
    clear h hd hok hf hr HD1 HW
    go_enter Try.func21, Try.ntmps21
    go_wp2_with (first | ((with_reducible refine wl_gA rfl ?_); refine wl_allocS rfl rfl ?_; try rw [sz_alloc]) | (go_at_call 25; refine (FU.out _ B0.out).mono ?_; rintro e w1 ⟨rfl, hb1⟩; have B1 : Hid (Below w.heap.size w w1) := below_step B0.out B0.out.size hb1; have Z1 : Hid (w1.heap[w.heap.size]? = some (.cells (slotV zeroS) 27 (0, 0))) := (hb1.block _ (by simp)).trans (heap_new _ _ _ rfl); clear hb1; refine of_stopS ?_))
    unfold StopS
    go_wp2_with (first | ((with_reducible refine wl_gZ rfl ?_); refine wl_buildS rfl rfl ?_) | ((with_reducible refine wl_gS _ _ rfl ?_); refine wl_storeS rfl _ _ rfl w.heap.size zeroS zeroS rfl rfl Z1.out _ rfl ?_))
    refine ret2S (p := 2) (q := 3) rfl rfl w.heap.size rfl zeroS (setRow_heap _ _ _ _ _ _ Z1.out) _ rfl ?_
    rw [FE.out]
    exact ⟨rfl, FT.out _ (below_setRow B1.out (Nat.le_refl _) _)⟩
end Go.Proofs.Ytojhckjdkafpmab
