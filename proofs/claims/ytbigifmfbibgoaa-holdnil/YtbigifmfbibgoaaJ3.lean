import Derived.Test.YtbigifmfbibgoaaJ2
namespace Go.Proofs.Ytbigifmfbibgoaa
open Go Go.RowKit
set_option maxRecDepth 20000

set_option maxHeartbeats 8000000 in
theorem rlift_any (B : Nat) (w : World) (r : Nat) (h : HoldM) (v : Value) (L : List HiM) (hV : RHoV B w r h v L) (hn : L.length ≤ 900000) (f : Int) :
    Calls Try.prog 25 #[.pointer (some ⟨r, 0, none⟩), .int .i64 f] w fun x w' => x = .returned (.tuple #[]) ∧ RHoTo B w w' r (liftH h f) v L.length := by
  have c1 := hV.f.c1
  have c2 := hV.f.c2
  have fz := hV.f.fz
  unfold liftH
  by_cases h1 : h.floor < f
  · rw [if_pos h1]
    obtain ⟨M, hM⟩ : ∃ M, M = max h.top f := ⟨_, rfl⟩
    have HMX : Hid (M = max h.top f) := hM
    rw [← hM]
    have d1 : f > h.floor := h1
    obtain ⟨a1, a2⟩ := hV.setC 1 (.int .i64 f) { h with floor := f } rfl rfl
    obtain ⟨a3, a4⟩ := a1.setC 2 (.int .i64 M) { h with floor := f, top := M } rfl rfl
    have HG := rforget_any B _ r _ v L a3 hn
    have HFR : Hid (∀ W', RHoTo B ((w.setCell ⟨r, 1, none⟩ (.int .i64 f)).setCell ⟨r, 2, none⟩ (.int .i64 M)) W' r (forgetH { h with floor := f, top := M }) v L.length → RHoTo B w W' r (forgetH { h with floor := f, top := M }) v L.length) := by
      intro W' ht
      obtain ⟨u, L', q1, q2, q3⟩ := ht
      exact ⟨u, L', q1, (a2.trans a4).trans q2, q3⟩
    obtain ⟨tp, htp⟩ : ∃ tp, tp = h.top := ⟨_, rfl⟩
    have HMX2 : Hid (M = max tp f) := by show _ = _; rw [htp]; exact hM
    rw [← htp] at c2
    clear h1 hM hV a1 a2 a3 a4 htp
    go_enter Try.func25, Try.ntmps25
    go_wp2_with (first
      | (refine wl_maxI rfl (.tmp 18) (.tmp 19) rfl tp f M rfl rfl HMX2.out ?_)
      | (go_at_call 26; refine HG.mono ?_; rintro e w1 ⟨rfl, t1⟩))
    refine bodyPost_end (results_none rfl _ _ _) rfl ?_
    exact ⟨rfl, HFR.out _ t1⟩
  · rw [if_neg h1]
    have d1 : ¬ f > h.floor := h1
    have HS : Hid (RHoTo B w w r h v L.length) := hV.stay (Below.refl _ _) (Nat.le_refl _)
    clear h1 hV
    go_enter Try.func25, Try.ntmps25
    go_wp2_with fail
    refine bodyPost_end (results_none rfl _ _ _) rfl ?_
    exact ⟨rfl, HS.out⟩
/-- The reference's rise, as its own two steps. -/
theorem rrise_to {B : Nat} {w : World} {r : Nat} {h : HoldM} {v : Value} {L : List HiM} (hV : RHoV B w r h v L) (hn : L.length ≤ 900000) (e : Int) (he : h.top < e) :
    Calls Try.prog 26 #[.pointer (some ⟨r, 0, none⟩)] (w.setCell ⟨r, 2, none⟩ (.int .i64 e)) fun x w' => x = .returned (.tuple #[]) ∧ RHoTo B w w' r (riseH h e) v L.length := by
  obtain ⟨a1, a2⟩ := hV.setC 2 (.int .i64 e) { h with top := e } rfl rfl
  refine (rforget_any B _ r _ v L a1 hn).mono ?_
  rintro x w' ⟨hx, u, L', q1, q2, q3⟩
  refine ⟨hx, ?_⟩
  unfold riseH
  rw [if_pos he]
  exact ⟨u, L', q1, a2.trans q2, q3⟩
set_option maxHeartbeats 16000000 in
theorem ritem_any (B : Nat) (w : World) (r : Nat) (h : HoldM) (v : Value) (L : List HiM) (hV : RHoV B w r h v L) (hn : L.length ≤ 900000) (fl ep at_ of : Int) :
    Calls Try.prog 11 #[.pointer (some ⟨r, 0, none⟩), .int .i64 fl, .int .i64 ep, .int .i64 at_, .int .i64 of] w fun x w' => x = .returned (.int .i64 (itemH h fl ep at_ of).2) ∧ RHoTo B w w' r (itemH h fl ep at_ of).1 v (L.length + 1) := by
  have ST : Hid (RHoTo B w w r h v (L.length + 1)) := hV.stay (Below.refl _ _) (Nat.le_succ _)
  unfold itemH
  by_cases h0 : fl < 0 ∨ ep < 1 ∨ at_ < 0 ∨ of ≤ at_
  · rw [if_pos h0]
    clear hV
    by_cases h1 : fl < 0
    · clear h0
      go_enter Try.func11, Try.ntmps11
      go_wp2_with fail
      go_ret
      exact ⟨rfl, ST.out⟩
    by_cases h2 : ep < 1
    · clear h0
      go_enter Try.func11, Try.ntmps11
      go_wp2_with fail
      go_ret
      exact ⟨rfl, ST.out⟩
    by_cases h3 : at_ < 0
    · clear h0
      go_enter Try.func11, Try.ntmps11
      go_wp2_with fail
      go_ret
      exact ⟨rfl, ST.out⟩
    have h4 : of ≤ at_ := by omega
    clear h0
    go_enter Try.func11, Try.ntmps11
    go_wp2_with fail
    go_ret
    exact ⟨rfl, ST.out⟩
  · rw [if_neg h0]
    have C1 := rlift_any B w r h v L hV hn fl
    obtain ⟨h1, hh1⟩ : ∃ h1, h1 = liftH h fl := ⟨_, rfl⟩
    rw [← hh1] at C1 ⊢
    obtain ⟨h2, hh2⟩ : ∃ h2, h2 = riseH h1 ep := ⟨_, rfl⟩
    have HR1 : Hid (∀ W u L', RHoV B W r h1 u L' → L'.length ≤ 900000 → h1.top < ep → Calls Try.prog 26 #[.pointer (some ⟨r, 0, none⟩)] (W.setCell ⟨r, 2, none⟩ (.int .i64 ep)) fun x w' => x = .returned (.tuple #[]) ∧ RHoTo B W w' r h2 u L'.length) := by
      intro W u L' hW hl he
      rw [hh2]
      exact rrise_to hW hl ep he
    have HR2 : Hid (¬ h1.top < ep → h2 = h1) := by
      intro he
      rw [hh2]
      unfold riseH
      rw [if_neg he]
    rw [← hh2]
    obtain ⟨n, hnn⟩ : ∃ n : Nat, n = (h2.cnt ep).1 := ⟨_, rfl⟩
    obtain ⟨o, ho⟩ : ∃ o : Int, o = (h2.cnt ep).2 := ⟨_, rfl⟩
    have HC : Hid (∀ W u L', RHoV B W r h2 u L' → L'.length ≤ 900000 → Calls Try.prog 21 #[.pointer (some ⟨r, 0, none⟩), .int .i64 ep] W fun x w' => x = .returned (.tuple #[.int .i64 (n : Int), .int .i64 o]) ∧ w' = W) := by
      intro W u L' hW hl
      rw [hnn, ho]
      exact rcountH_any B W r h2 u L' hW (by omega) ep
    rw [← hnn, ← ho]
    have d1 : ¬ fl < 0 := by omega
    have d2 : ¬ ep < 1 := by omega
    have d3 : ¬ at_ < 0 := by omega
    have d4 : ¬ of ≤ at_ := by omega
    obtain ⟨res, hres⟩ : ∃ res, res = (if (ep ≠ h2.floor ∧ ep ≠ h2.top) ∨ (0 < n ∧ o ≠ of) ∨ (n : Int) < at_ then (h2, (0 : Int)) else if at_ < (n : Int) then (h2, 2) else (addH h2 ep of, 1)) := ⟨_, rfl⟩
    rw [← hres]
    obtain ⟨N, hN⟩ : ∃ N, N = L.length := ⟨_, rfl⟩
    rw [← hN] at C1 ST hn ⊢
    obtain ⟨t2, ht2⟩ : ∃ t2, t2 = h2.top := ⟨_, rfl⟩
    obtain ⟨f2, hf2⟩ : ∃ f2, f2 = h2.floor := ⟨_, rfl⟩
    have HR : Hid (res = (if (ep ≠ f2 ∧ ep ≠ t2) ∨ (0 < n ∧ o ≠ of) ∨ (n : Int) < at_ then (h2, (0 : Int)) else if at_ < (n : Int) then (h2, 2) else (addH h2 ep of, 1))) := by
      show _ = _
      rw [ht2, hf2]
      exact hres
    have HF2 : Hid (∀ W u L', RHoV B W r h2 u L' → W.cell? ⟨r, 1, none⟩ = some (.int .i64 f2) ∧ W.cell? ⟨r, 2, none⟩ = some (.int .i64 t2) ∧ W.cell? ⟨r, 5, none⟩ = some u ∧ ∀ k, W.frozen? ⟨r, k, none⟩ = false) := by
      intro W u L' hW
      rw [ht2, hf2]
      exact ⟨hW.f.c1, hW.f.c2, hW.f.c5, hW.f.fz⟩
    have HFL : Hid (∀ e, (addH h2 ep of).cnt e = if e = ep then (n + 1, of) else h2.cnt e) := by
      intro e
      rw [hnn]
      rfl
    have HNN : Hid (n = (h2.cnt ep).1) := hnn
    have key : Hid (∀ (W1 : World) (u : Value) (L' : List HiM), RHoV B W1 r h2 u L' → L'.length ≤ N → Frm (footRH r v) (footRH r u) w W1 → ∀ a : Act, True) := fun _ _ _ _ _ _ _ => trivial
    clear h0 hh1 hh2 hnn ho hres hN ht2 hf2 hV key
    go_enter Try.func11, Try.ntmps11
    go_wp2_with (go_at_call 25; refine C1.mono ?_; rintro e w1 ⟨rfl, t1⟩; refine of_stopT ?_)
    unfold StopT
    obtain ⟨v1, L1, q1, q2, q3⟩ := t1
    have Q1 : Hid (RHoV B w1 r h1 v1 L1) := q1
    have Q2 : Hid (Frm (footRH r v) (footRH r v1) w w1) := q2
    have Q3 : Hid (L1.length ≤ N) := q3
    obtain ⟨tp, htp⟩ : ∃ tp, tp = h1.top := ⟨_, rfl⟩
    have k2 := q1.f.c2
    have fz1 := q1.f.fz
    rw [← htp] at k2
    by_cases hrise : tp < ep
    · have hrise' : ep > tp := hrise
      have c2 := HR1.out w1 v1 L1 q1 (by omega) (by rw [← htp]; exact hrise)
      clear htp q1 q2 q3 C1 HR2 hrise
      go_wp2_with (go_at_call 26; refine c2.mono ?_; rintro e w2 ⟨rfl, t2⟩; refine of_stopT ?_)
      unfold StopT
      have TT : Hid (∃ v2 L2, RHoV B w2 r h2 v2 L2 ∧ L2.length ≤ N ∧ Frm (footRH r v) (footRH r v2) w w2) := by
        obtain ⟨u, L', a1, a2, a3⟩ := t2
        have := Q3.out
        exact ⟨u, L', a1, by omega, Q2.out.trans a2⟩
      clear t2 c2 Q1 Q2 Q3 k2 fz1 HR1
      obtain ⟨v2, L2, a1, a2, a3⟩ := TT.out
      have A1 : Hid (RHoV B w2 r h2 v2 L2) := a1
      have A2 : Hid (L2.length ≤ N) := a2
      have A3 : Hid (Frm (footRH r v) (footRH r v2) w w2) := a3
      obtain ⟨g1, g2, g5, gz⟩ := HF2.out w2 v2 L2 a1
      have cc := HC.out w2 v2 L2 a1 (by omega)
      clear a1 a2 a3 HC TT
      by_cases p1 : ep = f2
      · have p1' : (ep != f2) = false := by simpa using p1
        have HB : Hid (¬ (ep ≠ f2 ∧ ep ≠ t2)) := fun x => x.1 p1
        clear p1
        by_cases q1 : 0 < n
        · have q1' : (n : Int) > 0 := by omega
          by_cases q2 : o = of
          · have q2' : (o != of) = false := by simpa using q2
            by_cases q3 : at_ > (n : Int)
            · have RS : Hid (res = (h2, 0)) := by
                have := HR.out
                rw [if_pos (.inr (.inr q3))] at this
                exact this
              clear HR  q2
              go_wp2_with (go_at_call 21; refine cc.mono ?_; rintro e w3 ⟨rfl, h3⟩; have h3 := h3.symm; subst h3)
              go_ret
              exact ⟨by rw [RS.out]; rfl, by rw [RS.out]; exact ⟨_, _, A1.out, A3.out, Nat.le_succ_of_le A2.out⟩⟩
            · by_cases q4 : at_ < (n : Int)
              · have RS : Hid (res = (h2, 2)) := by
                  have := HR.out
                  rw [if_neg (fun x => x.elim HB.out (fun x => x.elim (fun x => x.2 q2) q3)), if_pos q4] at this
                  exact this
                clear HR  q2
                go_wp2_with (go_at_call 21; refine cc.mono ?_; rintro e w3 ⟨rfl, h3⟩; have h3 := h3.symm; subst h3)
                go_ret
                exact ⟨by rw [RS.out]; rfl, by rw [RS.out]; exact ⟨_, _, A1.out, A3.out, Nat.le_succ_of_le A2.out⟩⟩
              · have RS : Hid (res = (addH h2 ep of, 1)) := by
                  have := HR.out
                  rw [if_neg (fun x => x.elim HB.out (fun x => x.elim (fun x => x.2 q2) q3)), if_neg q4] at this
                  exact this
                have NE : Hid (at_ = (n : Int)) := by show _ = _; omega
                obtain ⟨y, hy⟩ : ∃ y : HiM, y = ⟨ep, of⟩ := ⟨_, rfl⟩
                have hyV : hiV y = #[.int .i64 ep, .int .i64 of] := by rw [hy]; rfl
                have HO : Hid (ItsAt B (w2.alloc (.cells (hiV y) 52)) v2 L2 ∧ B ≤ (w2.alloc (.cells (hiV y) 52)).heap.size) := by
                  have := A1.out.below (w' := w2.alloc (.cells (hiV y) 52)) ((Below.refl _ _).alloc (Nat.le_refl _) _)
                  exact ⟨this.own, this.hw⟩
                have HX : Hid (∀ W' u, ItsAt B W' u (L2 ++ [y]) → (w2.alloc (.cells (hiV y) 52)).grownBy W' v2.ownBlock → (u.ownBlock = v2.ownBlock ∨ u.ownBlock = some (w2.alloc (.cells (hiV y) 52)).heap.size) → W'.cell? ⟨r, 5, none⟩ = some v2 ∧ W'.frozen? ⟨r, 5, none⟩ = false ∧ RHoTo B w (W'.setCell ⟨r, 5, none⟩ u) r (addH h2 ep of) v (N + 1)) := fun W' u hu hgr hq => by
                  have hb : Below w2.heap.size w2 (w2.alloc (.cells (hiV y) 52)) := (Below.refl _ _).alloc (Nat.le_refl _) _
                  have hW := A1.out.below hb
                  have hk : Kept (rowX v2) (w2.alloc (.cells (hiV y) 52)) W' := Kept.of_grown hgr fun k e => e
                  have hgx : ¬ rowX v2 r := own_tyG hW.own hW.blk (by decide)
                  have hf := rhof_of (hk.heap hW.blk hgx)
                  obtain ⟨p1, p2⟩ := hW.put (h' := addH h2 ep of) hk hu (by
                    rcases hq with e | e
                    · exact .inl e
                    · exact .inr fun k e' => by rw [e] at e'; have := Option.some.inj e'; omega) rfl (fun e => by
                      rw [HFL.out e, List.filter_append]
                      by_cases hx : e = ep
                      · rw [if_pos hx, hx, show [y].filter (onE ep) = [y] by rw [hy]; simp [onE], cnt2_more, ← A1.out.cnt ep, ← HNN.out, hy]
                      · rw [if_neg hx, show [y].filter (onE e) = [] by rw [hy]; simp [onE]; exact fun z => hx z.symm, List.append_nil]
                        exact A1.out.cnt e)
                  refine ⟨hf.c5, hf.fz _, u, _, p1, (A3.out.add hb).trans p2, ?_⟩
                  have := A2.out
                  rw [List.length_append]
                  simp
                  omega
                have HSL : Hid (∀ W' u, ItsAt B W' u (L2 ++ [y]) → ∃ o q c, u = .slice o q c) := fun W' u hu => by
                  obtain ⟨o, cap, e, _⟩ := hu.slice
                  exact ⟨o, _, cap, e⟩
                have HLN : Hid (L2.length ≤ 1000000) := by
                  have := A2.out
                  show _ ≤ _
                  omega
                obtain ⟨ov, capv, hvv, _, _⟩ := A1.out.own.slice
                obtain ⟨ql, hql⟩ : ∃ ql, ql = L2.length := ⟨_, rfl⟩
                rw [← hql] at hvv
                clear hql HR  q2
                subst hvv
                rw [hyV] at HO HX
                go_wp2_with (first
                  | (go_at_call 21; refine cc.mono ?_; rintro e w3 ⟨rfl, h3⟩; have h3 := h3.symm; subst h3)
                  | (refine wl_buildE (E := HiE) HiOk rfl _ rfl (hiV y) rfl (by rw [hyV]; rfl) ?_)
                  | (at_builtin; refine of_stopT ?_))
                unfold StopT
                refine wl_appendE (E := HiE) HiOk hiV rfl _ _ rfl B (.slice ov ql capv) L2 y (hi_fits y) rfl HO.out.1 _ 1 rfl (by rw [hyV]; exact heap_new _ _ _ rfl) HLN.out HO.out.2 ?_
                intro u0 w4 x1 x2 x3
                obtain ⟨o2, n2, p2, rfl⟩ := HSL.out w4 u0 x1
                obtain ⟨y1, y2, y3⟩ := HX.out w4 _ x1 x2 x3
                have Y3 : Hid _ := y3
                clear x1 x2 x3 y3
                simp only [Act.put, List.setIfInBounds_toArray, List.set_cons_succ, List.set_cons_zero]
                go_wp2_with fail
                go_ret
                exact ⟨by rw [RS.out]; rfl, by rw [RS.out]; exact Y3.out⟩
          · have q2' : (o != of) = true := by simpa using q2
            have RS : Hid (res = (h2, 0)) := by
              have := HR.out
              rw [if_pos (.inr (.inl ⟨q1, q2⟩))] at this
              exact this
            clear HR  q2
            go_wp2_with (go_at_call 21; refine cc.mono ?_; rintro e w3 ⟨rfl, h3⟩; have h3 := h3.symm; subst h3)
            go_ret
            exact ⟨by rw [RS.out]; rfl, by rw [RS.out]; exact ⟨_, _, A1.out, A3.out, Nat.le_succ_of_le A2.out⟩⟩
        · have q1' : ¬ (n : Int) > 0 := by omega
          by_cases q3 : at_ > (n : Int)
          · have RS : Hid (res = (h2, 0)) := by
              have := HR.out
              rw [if_pos (.inr (.inr q3))] at this
              exact this
            clear HR 
            go_wp2_with (go_at_call 21; refine cc.mono ?_; rintro e w3 ⟨rfl, h3⟩; have h3 := h3.symm; subst h3)
            go_ret
            exact ⟨by rw [RS.out]; rfl, by rw [RS.out]; exact ⟨_, _, A1.out, A3.out, Nat.le_succ_of_le A2.out⟩⟩
          · have q4 : ¬ at_ < (n : Int) := by omega
            have RS : Hid (res = (addH h2 ep of, 1)) := by
              have := HR.out
              rw [if_neg (fun x => x.elim HB.out (fun x => x.elim (fun x => q1 x.1) q3)), if_neg q4] at this
              exact this
            have NE : Hid (at_ = (n : Int)) := by show _ = _; omega
            obtain ⟨y, hy⟩ : ∃ y : HiM, y = ⟨ep, of⟩ := ⟨_, rfl⟩
            have hyV : hiV y = #[.int .i64 ep, .int .i64 of] := by rw [hy]; rfl
            have HO : Hid (ItsAt B (w2.alloc (.cells (hiV y) 52)) v2 L2 ∧ B ≤ (w2.alloc (.cells (hiV y) 52)).heap.size) := by
              have := A1.out.below (w' := w2.alloc (.cells (hiV y) 52)) ((Below.refl _ _).alloc (Nat.le_refl _) _)
              exact ⟨this.own, this.hw⟩
            have HX : Hid (∀ W' u, ItsAt B W' u (L2 ++ [y]) → (w2.alloc (.cells (hiV y) 52)).grownBy W' v2.ownBlock → (u.ownBlock = v2.ownBlock ∨ u.ownBlock = some (w2.alloc (.cells (hiV y) 52)).heap.size) → W'.cell? ⟨r, 5, none⟩ = some v2 ∧ W'.frozen? ⟨r, 5, none⟩ = false ∧ RHoTo B w (W'.setCell ⟨r, 5, none⟩ u) r (addH h2 ep of) v (N + 1)) := fun W' u hu hgr hq => by
              have hb : Below w2.heap.size w2 (w2.alloc (.cells (hiV y) 52)) := (Below.refl _ _).alloc (Nat.le_refl _) _
              have hW := A1.out.below hb
              have hk : Kept (rowX v2) (w2.alloc (.cells (hiV y) 52)) W' := Kept.of_grown hgr fun k e => e
              have hgx : ¬ rowX v2 r := own_tyG hW.own hW.blk (by decide)
              have hf := rhof_of (hk.heap hW.blk hgx)
              obtain ⟨p1, p2⟩ := hW.put (h' := addH h2 ep of) hk hu (by
                rcases hq with e | e
                · exact .inl e
                · exact .inr fun k e' => by rw [e] at e'; have := Option.some.inj e'; omega) rfl (fun e => by
                  rw [HFL.out e, List.filter_append]
                  by_cases hx : e = ep
                  · rw [if_pos hx, hx, show [y].filter (onE ep) = [y] by rw [hy]; simp [onE], cnt2_more, ← A1.out.cnt ep, ← HNN.out, hy]
                  · rw [if_neg hx, show [y].filter (onE e) = [] by rw [hy]; simp [onE]; exact fun z => hx z.symm, List.append_nil]
                    exact A1.out.cnt e)
              refine ⟨hf.c5, hf.fz _, u, _, p1, (A3.out.add hb).trans p2, ?_⟩
              have := A2.out
              rw [List.length_append]
              simp
              omega
            have HSL : Hid (∀ W' u, ItsAt B W' u (L2 ++ [y]) → ∃ o q c, u = .slice o q c) := fun W' u hu => by
              obtain ⟨o, cap, e, _⟩ := hu.slice
              exact ⟨o, _, cap, e⟩
            have HLN : Hid (L2.length ≤ 1000000) := by
              have := A2.out
              show _ ≤ _
              omega
            obtain ⟨ov, capv, hvv, _, _⟩ := A1.out.own.slice
            obtain ⟨ql, hql⟩ : ∃ ql, ql = L2.length := ⟨_, rfl⟩
            rw [← hql] at hvv
            clear hql HR 
            subst hvv
            rw [hyV] at HO HX
            go_wp2_with (first
              | (go_at_call 21; refine cc.mono ?_; rintro e w3 ⟨rfl, h3⟩; have h3 := h3.symm; subst h3)
              | (refine wl_buildE (E := HiE) HiOk rfl _ rfl (hiV y) rfl (by rw [hyV]; rfl) ?_)
              | (at_builtin; refine of_stopT ?_))
            unfold StopT
            refine wl_appendE (E := HiE) HiOk hiV rfl _ _ rfl B (.slice ov ql capv) L2 y (hi_fits y) rfl HO.out.1 _ 1 rfl (by rw [hyV]; exact heap_new _ _ _ rfl) HLN.out HO.out.2 ?_
            intro u0 w4 x1 x2 x3
            obtain ⟨o2, n2, p2, rfl⟩ := HSL.out w4 u0 x1
            obtain ⟨y1, y2, y3⟩ := HX.out w4 _ x1 x2 x3
            have Y3 : Hid _ := y3
            clear x1 x2 x3 y3
            simp only [Act.put, List.setIfInBounds_toArray, List.set_cons_succ, List.set_cons_zero]
            go_wp2_with fail
            go_ret
            exact ⟨by rw [RS.out]; rfl, by rw [RS.out]; exact Y3.out⟩
      · have p1' : (ep != f2) = true := by simpa using p1
        by_cases p2 : ep = t2
        · have HB : Hid (¬ (ep ≠ f2 ∧ ep ≠ t2)) := fun x => x.2 p2
          clear p1
          subst p2
          by_cases q1 : 0 < n
          · have q1' : (n : Int) > 0 := by omega
            by_cases q2 : o = of
            · have q2' : (o != of) = false := by simpa using q2
              by_cases q3 : at_ > (n : Int)
              · have RS : Hid (res = (h2, 0)) := by
                  have := HR.out
                  rw [if_pos (.inr (.inr q3))] at this
                  exact this
                clear HR  q2
                go_wp2_with (go_at_call 21; refine cc.mono ?_; rintro e w3 ⟨rfl, h3⟩; have h3 := h3.symm; subst h3)
                go_ret
                exact ⟨by rw [RS.out]; rfl, by rw [RS.out]; exact ⟨_, _, A1.out, A3.out, Nat.le_succ_of_le A2.out⟩⟩
              · by_cases q4 : at_ < (n : Int)
                · have RS : Hid (res = (h2, 2)) := by
                    have := HR.out
                    rw [if_neg (fun x => x.elim HB.out (fun x => x.elim (fun x => x.2 q2) q3)), if_pos q4] at this
                    exact this
                  clear HR  q2
                  go_wp2_with (go_at_call 21; refine cc.mono ?_; rintro e w3 ⟨rfl, h3⟩; have h3 := h3.symm; subst h3)
                  go_ret
                  exact ⟨by rw [RS.out]; rfl, by rw [RS.out]; exact ⟨_, _, A1.out, A3.out, Nat.le_succ_of_le A2.out⟩⟩
                · have RS : Hid (res = (addH h2 ep of, 1)) := by
                    have := HR.out
                    rw [if_neg (fun x => x.elim HB.out (fun x => x.elim (fun x => x.2 q2) q3)), if_neg q4] at this
                    exact this
                  have NE : Hid (at_ = (n : Int)) := by show _ = _; omega
                  obtain ⟨y, hy⟩ : ∃ y : HiM, y = ⟨ep, of⟩ := ⟨_, rfl⟩
                  have hyV : hiV y = #[.int .i64 ep, .int .i64 of] := by rw [hy]; rfl
                  have HO : Hid (ItsAt B (w2.alloc (.cells (hiV y) 52)) v2 L2 ∧ B ≤ (w2.alloc (.cells (hiV y) 52)).heap.size) := by
                    have := A1.out.below (w' := w2.alloc (.cells (hiV y) 52)) ((Below.refl _ _).alloc (Nat.le_refl _) _)
                    exact ⟨this.own, this.hw⟩
                  have HX : Hid (∀ W' u, ItsAt B W' u (L2 ++ [y]) → (w2.alloc (.cells (hiV y) 52)).grownBy W' v2.ownBlock → (u.ownBlock = v2.ownBlock ∨ u.ownBlock = some (w2.alloc (.cells (hiV y) 52)).heap.size) → W'.cell? ⟨r, 5, none⟩ = some v2 ∧ W'.frozen? ⟨r, 5, none⟩ = false ∧ RHoTo B w (W'.setCell ⟨r, 5, none⟩ u) r (addH h2 ep of) v (N + 1)) := fun W' u hu hgr hq => by
                    have hb : Below w2.heap.size w2 (w2.alloc (.cells (hiV y) 52)) := (Below.refl _ _).alloc (Nat.le_refl _) _
                    have hW := A1.out.below hb
                    have hk : Kept (rowX v2) (w2.alloc (.cells (hiV y) 52)) W' := Kept.of_grown hgr fun k e => e
                    have hgx : ¬ rowX v2 r := own_tyG hW.own hW.blk (by decide)
                    have hf := rhof_of (hk.heap hW.blk hgx)
                    obtain ⟨p1, p2⟩ := hW.put (h' := addH h2 ep of) hk hu (by
                      rcases hq with e | e
                      · exact .inl e
                      · exact .inr fun k e' => by rw [e] at e'; have := Option.some.inj e'; omega) rfl (fun e => by
                        rw [HFL.out e, List.filter_append]
                        by_cases hx : e = ep
                        · rw [if_pos hx, hx, show [y].filter (onE ep) = [y] by rw [hy]; simp [onE], cnt2_more, ← A1.out.cnt ep, ← HNN.out, hy]
                        · rw [if_neg hx, show [y].filter (onE e) = [] by rw [hy]; simp [onE]; exact fun z => hx z.symm, List.append_nil]
                          exact A1.out.cnt e)
                    refine ⟨hf.c5, hf.fz _, u, _, p1, (A3.out.add hb).trans p2, ?_⟩
                    have := A2.out
                    rw [List.length_append]
                    simp
                    omega
                  have HSL : Hid (∀ W' u, ItsAt B W' u (L2 ++ [y]) → ∃ o q c, u = .slice o q c) := fun W' u hu => by
                    obtain ⟨o, cap, e, _⟩ := hu.slice
                    exact ⟨o, _, cap, e⟩
                  have HLN : Hid (L2.length ≤ 1000000) := by
                    have := A2.out
                    show _ ≤ _
                    omega
                  obtain ⟨ov, capv, hvv, _, _⟩ := A1.out.own.slice
                  obtain ⟨ql, hql⟩ : ∃ ql, ql = L2.length := ⟨_, rfl⟩
                  rw [← hql] at hvv
                  clear hql HR  q2
                  subst hvv
                  rw [hyV] at HO HX
                  go_wp2_with (first
                    | (go_at_call 21; refine cc.mono ?_; rintro e w3 ⟨rfl, h3⟩; have h3 := h3.symm; subst h3)
                    | (refine wl_buildE (E := HiE) HiOk rfl _ rfl (hiV y) rfl (by rw [hyV]; rfl) ?_)
                    | (at_builtin; refine of_stopT ?_))
                  unfold StopT
                  refine wl_appendE (E := HiE) HiOk hiV rfl _ _ rfl B (.slice ov ql capv) L2 y (hi_fits y) rfl HO.out.1 _ 1 rfl (by rw [hyV]; exact heap_new _ _ _ rfl) HLN.out HO.out.2 ?_
                  intro u0 w4 x1 x2 x3
                  obtain ⟨o2, n2, p2, rfl⟩ := HSL.out w4 u0 x1
                  obtain ⟨y1, y2, y3⟩ := HX.out w4 _ x1 x2 x3
                  have Y3 : Hid _ := y3
                  clear x1 x2 x3 y3
                  simp only [Act.put, List.setIfInBounds_toArray, List.set_cons_succ, List.set_cons_zero]
                  go_wp2_with fail
                  go_ret
                  exact ⟨by rw [RS.out]; rfl, by rw [RS.out]; exact Y3.out⟩
            · have q2' : (o != of) = true := by simpa using q2
              have RS : Hid (res = (h2, 0)) := by
                have := HR.out
                rw [if_pos (.inr (.inl ⟨q1, q2⟩))] at this
                exact this
              clear HR  q2
              go_wp2_with (go_at_call 21; refine cc.mono ?_; rintro e w3 ⟨rfl, h3⟩; have h3 := h3.symm; subst h3)
              go_ret
              exact ⟨by rw [RS.out]; rfl, by rw [RS.out]; exact ⟨_, _, A1.out, A3.out, Nat.le_succ_of_le A2.out⟩⟩
          · have q1' : ¬ (n : Int) > 0 := by omega
            by_cases q3 : at_ > (n : Int)
            · have RS : Hid (res = (h2, 0)) := by
                have := HR.out
                rw [if_pos (.inr (.inr q3))] at this
                exact this
              clear HR 
              go_wp2_with (go_at_call 21; refine cc.mono ?_; rintro e w3 ⟨rfl, h3⟩; have h3 := h3.symm; subst h3)
              go_ret
              exact ⟨by rw [RS.out]; rfl, by rw [RS.out]; exact ⟨_, _, A1.out, A3.out, Nat.le_succ_of_le A2.out⟩⟩
            · have q4 : ¬ at_ < (n : Int) := by omega
              have RS : Hid (res = (addH h2 ep of, 1)) := by
                have := HR.out
                rw [if_neg (fun x => x.elim HB.out (fun x => x.elim (fun x => q1 x.1) q3)), if_neg q4] at this
                exact this
              have NE : Hid (at_ = (n : Int)) := by show _ = _; omega
              obtain ⟨y, hy⟩ : ∃ y : HiM, y = ⟨ep, of⟩ := ⟨_, rfl⟩
              have hyV : hiV y = #[.int .i64 ep, .int .i64 of] := by rw [hy]; rfl
              have HO : Hid (ItsAt B (w2.alloc (.cells (hiV y) 52)) v2 L2 ∧ B ≤ (w2.alloc (.cells (hiV y) 52)).heap.size) := by
                have := A1.out.below (w' := w2.alloc (.cells (hiV y) 52)) ((Below.refl _ _).alloc (Nat.le_refl _) _)
                exact ⟨this.own, this.hw⟩
              have HX : Hid (∀ W' u, ItsAt B W' u (L2 ++ [y]) → (w2.alloc (.cells (hiV y) 52)).grownBy W' v2.ownBlock → (u.ownBlock = v2.ownBlock ∨ u.ownBlock = some (w2.alloc (.cells (hiV y) 52)).heap.size) → W'.cell? ⟨r, 5, none⟩ = some v2 ∧ W'.frozen? ⟨r, 5, none⟩ = false ∧ RHoTo B w (W'.setCell ⟨r, 5, none⟩ u) r (addH h2 ep of) v (N + 1)) := fun W' u hu hgr hq => by
                have hb : Below w2.heap.size w2 (w2.alloc (.cells (hiV y) 52)) := (Below.refl _ _).alloc (Nat.le_refl _) _
                have hW := A1.out.below hb
                have hk : Kept (rowX v2) (w2.alloc (.cells (hiV y) 52)) W' := Kept.of_grown hgr fun k e => e
                have hgx : ¬ rowX v2 r := own_tyG hW.own hW.blk (by decide)
                have hf := rhof_of (hk.heap hW.blk hgx)
                obtain ⟨p1, p2⟩ := hW.put (h' := addH h2 ep of) hk hu (by
                  rcases hq with e | e
                  · exact .inl e
                  · exact .inr fun k e' => by rw [e] at e'; have := Option.some.inj e'; omega) rfl (fun e => by
                    rw [HFL.out e, List.filter_append]
                    by_cases hx : e = ep
                    · rw [if_pos hx, hx, show [y].filter (onE ep) = [y] by rw [hy]; simp [onE], cnt2_more, ← A1.out.cnt ep, ← HNN.out, hy]
                    · rw [if_neg hx, show [y].filter (onE e) = [] by rw [hy]; simp [onE]; exact fun z => hx z.symm, List.append_nil]
                      exact A1.out.cnt e)
                refine ⟨hf.c5, hf.fz _, u, _, p1, (A3.out.add hb).trans p2, ?_⟩
                have := A2.out
                rw [List.length_append]
                simp
                omega
              have HSL : Hid (∀ W' u, ItsAt B W' u (L2 ++ [y]) → ∃ o q c, u = .slice o q c) := fun W' u hu => by
                obtain ⟨o, cap, e, _⟩ := hu.slice
                exact ⟨o, _, cap, e⟩
              have HLN : Hid (L2.length ≤ 1000000) := by
                have := A2.out
                show _ ≤ _
                omega
              obtain ⟨ov, capv, hvv, _, _⟩ := A1.out.own.slice
              obtain ⟨ql, hql⟩ : ∃ ql, ql = L2.length := ⟨_, rfl⟩
              rw [← hql] at hvv
              clear hql HR 
              subst hvv
              rw [hyV] at HO HX
              go_wp2_with (first
                | (go_at_call 21; refine cc.mono ?_; rintro e w3 ⟨rfl, h3⟩; have h3 := h3.symm; subst h3)
                | (refine wl_buildE (E := HiE) HiOk rfl _ rfl (hiV y) rfl (by rw [hyV]; rfl) ?_)
                | (at_builtin; refine of_stopT ?_))
              unfold StopT
              refine wl_appendE (E := HiE) HiOk hiV rfl _ _ rfl B (.slice ov ql capv) L2 y (hi_fits y) rfl HO.out.1 _ 1 rfl (by rw [hyV]; exact heap_new _ _ _ rfl) HLN.out HO.out.2 ?_
              intro u0 w4 x1 x2 x3
              obtain ⟨o2, n2, p2, rfl⟩ := HSL.out w4 u0 x1
              obtain ⟨y1, y2, y3⟩ := HX.out w4 _ x1 x2 x3
              have Y3 : Hid _ := y3
              clear x1 x2 x3 y3
              simp only [Act.put, List.setIfInBounds_toArray, List.set_cons_succ, List.set_cons_zero]
              go_wp2_with fail
              go_ret
              exact ⟨by rw [RS.out]; rfl, by rw [RS.out]; exact Y3.out⟩
        · have p2' : (ep != t2) = true := by simpa using p2
          have RS : Hid (res = (h2, 0)) := by
            have := HR.out
            rw [if_pos (.inl ⟨p1, p2⟩)] at this
            exact this
          clear HR p1 p2
          go_wp2_with (go_at_call 21; refine cc.mono ?_; rintro e w3 ⟨rfl, h3⟩; have h3 := h3.symm; subst h3)
          go_ret
          exact ⟨by rw [RS.out]; rfl, by rw [RS.out]; exact ⟨_, _, A1.out, A3.out, Nat.le_succ_of_le A2.out⟩⟩
    · have hrise' : ¬ ep > tp := hrise
      have e2 : h2 = h1 := HR2.out (by rw [← htp]; omega)
      have TT : Hid (RHoV B w1 r h2 v1 L1) := by rw [e2]; exact Q1.out
      clear htp q1 q2 q3 C1 HR1 HR2 hrise fz1
      have a1 := TT.out
      have a2 := Q3.out
      have a3 := Q2.out
      clear e2
      have A1 : Hid (RHoV B w1 r h2 v1 L1) := a1
      have A2 : Hid (L1.length ≤ N) := a2
      have A3 : Hid (Frm (footRH r v) (footRH r v1) w w1) := a3
      obtain ⟨g1, g2, g5, gz⟩ := HF2.out w1 v1 L1 a1
      have etp : t2 = tp := by
        have := k2.symm.trans g2
        simp only [Option.some.injEq, Value.int.injEq, true_and] at this
        exact this.symm
      clear HF2
      subst etp
      clear g2
      have cc := HC.out w1 v1 L1 a1 (by omega)
      clear a1 a2 a3 HC TT
      by_cases p1 : ep = f2
      · have p1' : (ep != f2) = false := by simpa using p1
        have HB : Hid (¬ (ep ≠ f2 ∧ ep ≠ t2)) := fun x => x.1 p1
        clear p1
        by_cases q1 : 0 < n
        · have q1' : (n : Int) > 0 := by omega
          by_cases q2 : o = of
          · have q2' : (o != of) = false := by simpa using q2
            by_cases q3 : at_ > (n : Int)
            · have RS : Hid (res = (h2, 0)) := by
                have := HR.out
                rw [if_pos (.inr (.inr q3))] at this
                exact this
              clear HR  q2
              go_wp2_with (go_at_call 21; refine cc.mono ?_; rintro e w3 ⟨rfl, h3⟩; have h3 := h3.symm; subst h3)
              go_ret
              exact ⟨by rw [RS.out]; rfl, by rw [RS.out]; exact ⟨_, _, A1.out, A3.out, Nat.le_succ_of_le A2.out⟩⟩
            · by_cases q4 : at_ < (n : Int)
              · have RS : Hid (res = (h2, 2)) := by
                  have := HR.out
                  rw [if_neg (fun x => x.elim HB.out (fun x => x.elim (fun x => x.2 q2) q3)), if_pos q4] at this
                  exact this
                clear HR  q2
                go_wp2_with (go_at_call 21; refine cc.mono ?_; rintro e w3 ⟨rfl, h3⟩; have h3 := h3.symm; subst h3)
                go_ret
                exact ⟨by rw [RS.out]; rfl, by rw [RS.out]; exact ⟨_, _, A1.out, A3.out, Nat.le_succ_of_le A2.out⟩⟩
              · have RS : Hid (res = (addH h2 ep of, 1)) := by
                  have := HR.out
                  rw [if_neg (fun x => x.elim HB.out (fun x => x.elim (fun x => x.2 q2) q3)), if_neg q4] at this
                  exact this
                have NE : Hid (at_ = (n : Int)) := by show _ = _; omega
                obtain ⟨y, hy⟩ : ∃ y : HiM, y = ⟨ep, of⟩ := ⟨_, rfl⟩
                have hyV : hiV y = #[.int .i64 ep, .int .i64 of] := by rw [hy]; rfl
                have HO : Hid (ItsAt B (w1.alloc (.cells (hiV y) 52)) v1 L1 ∧ B ≤ (w1.alloc (.cells (hiV y) 52)).heap.size) := by
                  have := A1.out.below (w' := w1.alloc (.cells (hiV y) 52)) ((Below.refl _ _).alloc (Nat.le_refl _) _)
                  exact ⟨this.own, this.hw⟩
                have HX : Hid (∀ W' u, ItsAt B W' u (L1 ++ [y]) → (w1.alloc (.cells (hiV y) 52)).grownBy W' v1.ownBlock → (u.ownBlock = v1.ownBlock ∨ u.ownBlock = some (w1.alloc (.cells (hiV y) 52)).heap.size) → W'.cell? ⟨r, 5, none⟩ = some v1 ∧ W'.frozen? ⟨r, 5, none⟩ = false ∧ RHoTo B w (W'.setCell ⟨r, 5, none⟩ u) r (addH h2 ep of) v (N + 1)) := fun W' u hu hgr hq => by
                  have hb : Below w1.heap.size w1 (w1.alloc (.cells (hiV y) 52)) := (Below.refl _ _).alloc (Nat.le_refl _) _
                  have hW := A1.out.below hb
                  have hk : Kept (rowX v1) (w1.alloc (.cells (hiV y) 52)) W' := Kept.of_grown hgr fun k e => e
                  have hgx : ¬ rowX v1 r := own_tyG hW.own hW.blk (by decide)
                  have hf := rhof_of (hk.heap hW.blk hgx)
                  obtain ⟨p1, p2⟩ := hW.put (h' := addH h2 ep of) hk hu (by
                    rcases hq with e | e
                    · exact .inl e
                    · exact .inr fun k e' => by rw [e] at e'; have := Option.some.inj e'; omega) rfl (fun e => by
                      rw [HFL.out e, List.filter_append]
                      by_cases hx : e = ep
                      · rw [if_pos hx, hx, show [y].filter (onE ep) = [y] by rw [hy]; simp [onE], cnt2_more, ← A1.out.cnt ep, ← HNN.out, hy]
                      · rw [if_neg hx, show [y].filter (onE e) = [] by rw [hy]; simp [onE]; exact fun z => hx z.symm, List.append_nil]
                        exact A1.out.cnt e)
                  refine ⟨hf.c5, hf.fz _, u, _, p1, (A3.out.add hb).trans p2, ?_⟩
                  have := A2.out
                  rw [List.length_append]
                  simp
                  omega
                have HSL : Hid (∀ W' u, ItsAt B W' u (L1 ++ [y]) → ∃ o q c, u = .slice o q c) := fun W' u hu => by
                  obtain ⟨o, cap, e, _⟩ := hu.slice
                  exact ⟨o, _, cap, e⟩
                have HLN : Hid (L1.length ≤ 1000000) := by
                  have := A2.out
                  show _ ≤ _
                  omega
                obtain ⟨ov, capv, hvv, _, _⟩ := A1.out.own.slice
                obtain ⟨ql, hql⟩ : ∃ ql, ql = L1.length := ⟨_, rfl⟩
                rw [← hql] at hvv
                clear hql HR  q2
                subst hvv
                rw [hyV] at HO HX
                go_wp2_with (first
                  | (go_at_call 21; refine cc.mono ?_; rintro e w3 ⟨rfl, h3⟩; have h3 := h3.symm; subst h3)
                  | (refine wl_buildE (E := HiE) HiOk rfl _ rfl (hiV y) rfl (by rw [hyV]; rfl) ?_)
                  | (at_builtin; refine of_stopT ?_))
                unfold StopT
                refine wl_appendE (E := HiE) HiOk hiV rfl _ _ rfl B (.slice ov ql capv) L1 y (hi_fits y) rfl HO.out.1 _ 1 rfl (by rw [hyV]; exact heap_new _ _ _ rfl) HLN.out HO.out.2 ?_
                intro u0 w4 x1 x2 x3
                obtain ⟨o2, n2, p2, rfl⟩ := HSL.out w4 u0 x1
                obtain ⟨y1, y2, y3⟩ := HX.out w4 _ x1 x2 x3
                have Y3 : Hid _ := y3
                clear x1 x2 x3 y3
                simp only [Act.put, List.setIfInBounds_toArray, List.set_cons_succ, List.set_cons_zero]
                go_wp2_with fail
                go_ret
                exact ⟨by rw [RS.out]; rfl, by rw [RS.out]; exact Y3.out⟩
          · have q2' : (o != of) = true := by simpa using q2
            have RS : Hid (res = (h2, 0)) := by
              have := HR.out
              rw [if_pos (.inr (.inl ⟨q1, q2⟩))] at this
              exact this
            clear HR  q2
            go_wp2_with (go_at_call 21; refine cc.mono ?_; rintro e w3 ⟨rfl, h3⟩; have h3 := h3.symm; subst h3)
            go_ret
            exact ⟨by rw [RS.out]; rfl, by rw [RS.out]; exact ⟨_, _, A1.out, A3.out, Nat.le_succ_of_le A2.out⟩⟩
        · have q1' : ¬ (n : Int) > 0 := by omega
          by_cases q3 : at_ > (n : Int)
          · have RS : Hid (res = (h2, 0)) := by
              have := HR.out
              rw [if_pos (.inr (.inr q3))] at this
              exact this
            clear HR 
            go_wp2_with (go_at_call 21; refine cc.mono ?_; rintro e w3 ⟨rfl, h3⟩; have h3 := h3.symm; subst h3)
            go_ret
            exact ⟨by rw [RS.out]; rfl, by rw [RS.out]; exact ⟨_, _, A1.out, A3.out, Nat.le_succ_of_le A2.out⟩⟩
          · have q4 : ¬ at_ < (n : Int) := by omega
            have RS : Hid (res = (addH h2 ep of, 1)) := by
              have := HR.out
              rw [if_neg (fun x => x.elim HB.out (fun x => x.elim (fun x => q1 x.1) q3)), if_neg q4] at this
              exact this
            have NE : Hid (at_ = (n : Int)) := by show _ = _; omega
            obtain ⟨y, hy⟩ : ∃ y : HiM, y = ⟨ep, of⟩ := ⟨_, rfl⟩
            have hyV : hiV y = #[.int .i64 ep, .int .i64 of] := by rw [hy]; rfl
            have HO : Hid (ItsAt B (w1.alloc (.cells (hiV y) 52)) v1 L1 ∧ B ≤ (w1.alloc (.cells (hiV y) 52)).heap.size) := by
              have := A1.out.below (w' := w1.alloc (.cells (hiV y) 52)) ((Below.refl _ _).alloc (Nat.le_refl _) _)
              exact ⟨this.own, this.hw⟩
            have HX : Hid (∀ W' u, ItsAt B W' u (L1 ++ [y]) → (w1.alloc (.cells (hiV y) 52)).grownBy W' v1.ownBlock → (u.ownBlock = v1.ownBlock ∨ u.ownBlock = some (w1.alloc (.cells (hiV y) 52)).heap.size) → W'.cell? ⟨r, 5, none⟩ = some v1 ∧ W'.frozen? ⟨r, 5, none⟩ = false ∧ RHoTo B w (W'.setCell ⟨r, 5, none⟩ u) r (addH h2 ep of) v (N + 1)) := fun W' u hu hgr hq => by
              have hb : Below w1.heap.size w1 (w1.alloc (.cells (hiV y) 52)) := (Below.refl _ _).alloc (Nat.le_refl _) _
              have hW := A1.out.below hb
              have hk : Kept (rowX v1) (w1.alloc (.cells (hiV y) 52)) W' := Kept.of_grown hgr fun k e => e
              have hgx : ¬ rowX v1 r := own_tyG hW.own hW.blk (by decide)
              have hf := rhof_of (hk.heap hW.blk hgx)
              obtain ⟨p1, p2⟩ := hW.put (h' := addH h2 ep of) hk hu (by
                rcases hq with e | e
                · exact .inl e
                · exact .inr fun k e' => by rw [e] at e'; have := Option.some.inj e'; omega) rfl (fun e => by
                  rw [HFL.out e, List.filter_append]
                  by_cases hx : e = ep
                  · rw [if_pos hx, hx, show [y].filter (onE ep) = [y] by rw [hy]; simp [onE], cnt2_more, ← A1.out.cnt ep, ← HNN.out, hy]
                  · rw [if_neg hx, show [y].filter (onE e) = [] by rw [hy]; simp [onE]; exact fun z => hx z.symm, List.append_nil]
                    exact A1.out.cnt e)
              refine ⟨hf.c5, hf.fz _, u, _, p1, (A3.out.add hb).trans p2, ?_⟩
              have := A2.out
              rw [List.length_append]
              simp
              omega
            have HSL : Hid (∀ W' u, ItsAt B W' u (L1 ++ [y]) → ∃ o q c, u = .slice o q c) := fun W' u hu => by
              obtain ⟨o, cap, e, _⟩ := hu.slice
              exact ⟨o, _, cap, e⟩
            have HLN : Hid (L1.length ≤ 1000000) := by
              have := A2.out
              show _ ≤ _
              omega
            obtain ⟨ov, capv, hvv, _, _⟩ := A1.out.own.slice
            obtain ⟨ql, hql⟩ : ∃ ql, ql = L1.length := ⟨_, rfl⟩
            rw [← hql] at hvv
            clear hql HR 
            subst hvv
            rw [hyV] at HO HX
            go_wp2_with (first
              | (go_at_call 21; refine cc.mono ?_; rintro e w3 ⟨rfl, h3⟩; have h3 := h3.symm; subst h3)
              | (refine wl_buildE (E := HiE) HiOk rfl _ rfl (hiV y) rfl (by rw [hyV]; rfl) ?_)
              | (at_builtin; refine of_stopT ?_))
            unfold StopT
            refine wl_appendE (E := HiE) HiOk hiV rfl _ _ rfl B (.slice ov ql capv) L1 y (hi_fits y) rfl HO.out.1 _ 1 rfl (by rw [hyV]; exact heap_new _ _ _ rfl) HLN.out HO.out.2 ?_
            intro u0 w4 x1 x2 x3
            obtain ⟨o2, n2, p2, rfl⟩ := HSL.out w4 u0 x1
            obtain ⟨y1, y2, y3⟩ := HX.out w4 _ x1 x2 x3
            have Y3 : Hid _ := y3
            clear x1 x2 x3 y3
            simp only [Act.put, List.setIfInBounds_toArray, List.set_cons_succ, List.set_cons_zero]
            go_wp2_with fail
            go_ret
            exact ⟨by rw [RS.out]; rfl, by rw [RS.out]; exact Y3.out⟩
      · have p1' : (ep != f2) = true := by simpa using p1
        by_cases p2 : ep = t2
        · have HB : Hid (¬ (ep ≠ f2 ∧ ep ≠ t2)) := fun x => x.2 p2
          clear p1
          subst p2
          by_cases q1 : 0 < n
          · have q1' : (n : Int) > 0 := by omega
            by_cases q2 : o = of
            · have q2' : (o != of) = false := by simpa using q2
              by_cases q3 : at_ > (n : Int)
              · have RS : Hid (res = (h2, 0)) := by
                  have := HR.out
                  rw [if_pos (.inr (.inr q3))] at this
                  exact this
                clear HR  q2
                go_wp2_with (go_at_call 21; refine cc.mono ?_; rintro e w3 ⟨rfl, h3⟩; have h3 := h3.symm; subst h3)
                go_ret
                exact ⟨by rw [RS.out]; rfl, by rw [RS.out]; exact ⟨_, _, A1.out, A3.out, Nat.le_succ_of_le A2.out⟩⟩
              · by_cases q4 : at_ < (n : Int)
                · have RS : Hid (res = (h2, 2)) := by
                    have := HR.out
                    rw [if_neg (fun x => x.elim HB.out (fun x => x.elim (fun x => x.2 q2) q3)), if_pos q4] at this
                    exact this
                  clear HR  q2
                  go_wp2_with (go_at_call 21; refine cc.mono ?_; rintro e w3 ⟨rfl, h3⟩; have h3 := h3.symm; subst h3)
                  go_ret
                  exact ⟨by rw [RS.out]; rfl, by rw [RS.out]; exact ⟨_, _, A1.out, A3.out, Nat.le_succ_of_le A2.out⟩⟩
                · have RS : Hid (res = (addH h2 ep of, 1)) := by
                    have := HR.out
                    rw [if_neg (fun x => x.elim HB.out (fun x => x.elim (fun x => x.2 q2) q3)), if_neg q4] at this
                    exact this
                  have NE : Hid (at_ = (n : Int)) := by show _ = _; omega
                  obtain ⟨y, hy⟩ : ∃ y : HiM, y = ⟨ep, of⟩ := ⟨_, rfl⟩
                  have hyV : hiV y = #[.int .i64 ep, .int .i64 of] := by rw [hy]; rfl
                  have HO : Hid (ItsAt B (w1.alloc (.cells (hiV y) 52)) v1 L1 ∧ B ≤ (w1.alloc (.cells (hiV y) 52)).heap.size) := by
                    have := A1.out.below (w' := w1.alloc (.cells (hiV y) 52)) ((Below.refl _ _).alloc (Nat.le_refl _) _)
                    exact ⟨this.own, this.hw⟩
                  have HX : Hid (∀ W' u, ItsAt B W' u (L1 ++ [y]) → (w1.alloc (.cells (hiV y) 52)).grownBy W' v1.ownBlock → (u.ownBlock = v1.ownBlock ∨ u.ownBlock = some (w1.alloc (.cells (hiV y) 52)).heap.size) → W'.cell? ⟨r, 5, none⟩ = some v1 ∧ W'.frozen? ⟨r, 5, none⟩ = false ∧ RHoTo B w (W'.setCell ⟨r, 5, none⟩ u) r (addH h2 ep of) v (N + 1)) := fun W' u hu hgr hq => by
                    have hb : Below w1.heap.size w1 (w1.alloc (.cells (hiV y) 52)) := (Below.refl _ _).alloc (Nat.le_refl _) _
                    have hW := A1.out.below hb
                    have hk : Kept (rowX v1) (w1.alloc (.cells (hiV y) 52)) W' := Kept.of_grown hgr fun k e => e
                    have hgx : ¬ rowX v1 r := own_tyG hW.own hW.blk (by decide)
                    have hf := rhof_of (hk.heap hW.blk hgx)
                    obtain ⟨p1, p2⟩ := hW.put (h' := addH h2 ep of) hk hu (by
                      rcases hq with e | e
                      · exact .inl e
                      · exact .inr fun k e' => by rw [e] at e'; have := Option.some.inj e'; omega) rfl (fun e => by
                        rw [HFL.out e, List.filter_append]
                        by_cases hx : e = ep
                        · rw [if_pos hx, hx, show [y].filter (onE ep) = [y] by rw [hy]; simp [onE], cnt2_more, ← A1.out.cnt ep, ← HNN.out, hy]
                        · rw [if_neg hx, show [y].filter (onE e) = [] by rw [hy]; simp [onE]; exact fun z => hx z.symm, List.append_nil]
                          exact A1.out.cnt e)
                    refine ⟨hf.c5, hf.fz _, u, _, p1, (A3.out.add hb).trans p2, ?_⟩
                    have := A2.out
                    rw [List.length_append]
                    simp
                    omega
                  have HSL : Hid (∀ W' u, ItsAt B W' u (L1 ++ [y]) → ∃ o q c, u = .slice o q c) := fun W' u hu => by
                    obtain ⟨o, cap, e, _⟩ := hu.slice
                    exact ⟨o, _, cap, e⟩
                  have HLN : Hid (L1.length ≤ 1000000) := by
                    have := A2.out
                    show _ ≤ _
                    omega
                  obtain ⟨ov, capv, hvv, _, _⟩ := A1.out.own.slice
                  obtain ⟨ql, hql⟩ : ∃ ql, ql = L1.length := ⟨_, rfl⟩
                  rw [← hql] at hvv
                  clear hql HR  q2
                  subst hvv
                  rw [hyV] at HO HX
                  go_wp2_with (first
                    | (go_at_call 21; refine cc.mono ?_; rintro e w3 ⟨rfl, h3⟩; have h3 := h3.symm; subst h3)
                    | (refine wl_buildE (E := HiE) HiOk rfl _ rfl (hiV y) rfl (by rw [hyV]; rfl) ?_)
                    | (at_builtin; refine of_stopT ?_))
                  unfold StopT
                  refine wl_appendE (E := HiE) HiOk hiV rfl _ _ rfl B (.slice ov ql capv) L1 y (hi_fits y) rfl HO.out.1 _ 1 rfl (by rw [hyV]; exact heap_new _ _ _ rfl) HLN.out HO.out.2 ?_
                  intro u0 w4 x1 x2 x3
                  obtain ⟨o2, n2, p2, rfl⟩ := HSL.out w4 u0 x1
                  obtain ⟨y1, y2, y3⟩ := HX.out w4 _ x1 x2 x3
                  have Y3 : Hid _ := y3
                  clear x1 x2 x3 y3
                  simp only [Act.put, List.setIfInBounds_toArray, List.set_cons_succ, List.set_cons_zero]
                  go_wp2_with fail
                  go_ret
                  exact ⟨by rw [RS.out]; rfl, by rw [RS.out]; exact Y3.out⟩
            · have q2' : (o != of) = true := by simpa using q2
              have RS : Hid (res = (h2, 0)) := by
                have := HR.out
                rw [if_pos (.inr (.inl ⟨q1, q2⟩))] at this
                exact this
              clear HR  q2
              go_wp2_with (go_at_call 21; refine cc.mono ?_; rintro e w3 ⟨rfl, h3⟩; have h3 := h3.symm; subst h3)
              go_ret
              exact ⟨by rw [RS.out]; rfl, by rw [RS.out]; exact ⟨_, _, A1.out, A3.out, Nat.le_succ_of_le A2.out⟩⟩
          · have q1' : ¬ (n : Int) > 0 := by omega
            by_cases q3 : at_ > (n : Int)
            · have RS : Hid (res = (h2, 0)) := by
                have := HR.out
                rw [if_pos (.inr (.inr q3))] at this
                exact this
              clear HR 
              go_wp2_with (go_at_call 21; refine cc.mono ?_; rintro e w3 ⟨rfl, h3⟩; have h3 := h3.symm; subst h3)
              go_ret
              exact ⟨by rw [RS.out]; rfl, by rw [RS.out]; exact ⟨_, _, A1.out, A3.out, Nat.le_succ_of_le A2.out⟩⟩
            · have q4 : ¬ at_ < (n : Int) := by omega
              have RS : Hid (res = (addH h2 ep of, 1)) := by
                have := HR.out
                rw [if_neg (fun x => x.elim HB.out (fun x => x.elim (fun x => q1 x.1) q3)), if_neg q4] at this
                exact this
              have NE : Hid (at_ = (n : Int)) := by show _ = _; omega
              obtain ⟨y, hy⟩ : ∃ y : HiM, y = ⟨ep, of⟩ := ⟨_, rfl⟩
              have hyV : hiV y = #[.int .i64 ep, .int .i64 of] := by rw [hy]; rfl
              have HO : Hid (ItsAt B (w1.alloc (.cells (hiV y) 52)) v1 L1 ∧ B ≤ (w1.alloc (.cells (hiV y) 52)).heap.size) := by
                have := A1.out.below (w' := w1.alloc (.cells (hiV y) 52)) ((Below.refl _ _).alloc (Nat.le_refl _) _)
                exact ⟨this.own, this.hw⟩
              have HX : Hid (∀ W' u, ItsAt B W' u (L1 ++ [y]) → (w1.alloc (.cells (hiV y) 52)).grownBy W' v1.ownBlock → (u.ownBlock = v1.ownBlock ∨ u.ownBlock = some (w1.alloc (.cells (hiV y) 52)).heap.size) → W'.cell? ⟨r, 5, none⟩ = some v1 ∧ W'.frozen? ⟨r, 5, none⟩ = false ∧ RHoTo B w (W'.setCell ⟨r, 5, none⟩ u) r (addH h2 ep of) v (N + 1)) := fun W' u hu hgr hq => by
                have hb : Below w1.heap.size w1 (w1.alloc (.cells (hiV y) 52)) := (Below.refl _ _).alloc (Nat.le_refl _) _
                have hW := A1.out.below hb
                have hk : Kept (rowX v1) (w1.alloc (.cells (hiV y) 52)) W' := Kept.of_grown hgr fun k e => e
                have hgx : ¬ rowX v1 r := own_tyG hW.own hW.blk (by decide)
                have hf := rhof_of (hk.heap hW.blk hgx)
                obtain ⟨p1, p2⟩ := hW.put (h' := addH h2 ep of) hk hu (by
                  rcases hq with e | e
                  · exact .inl e
                  · exact .inr fun k e' => by rw [e] at e'; have := Option.some.inj e'; omega) rfl (fun e => by
                    rw [HFL.out e, List.filter_append]
                    by_cases hx : e = ep
                    · rw [if_pos hx, hx, show [y].filter (onE ep) = [y] by rw [hy]; simp [onE], cnt2_more, ← A1.out.cnt ep, ← HNN.out, hy]
                    · rw [if_neg hx, show [y].filter (onE e) = [] by rw [hy]; simp [onE]; exact fun z => hx z.symm, List.append_nil]
                      exact A1.out.cnt e)
                refine ⟨hf.c5, hf.fz _, u, _, p1, (A3.out.add hb).trans p2, ?_⟩
                have := A2.out
                rw [List.length_append]
                simp
                omega
              have HSL : Hid (∀ W' u, ItsAt B W' u (L1 ++ [y]) → ∃ o q c, u = .slice o q c) := fun W' u hu => by
                obtain ⟨o, cap, e, _⟩ := hu.slice
                exact ⟨o, _, cap, e⟩
              have HLN : Hid (L1.length ≤ 1000000) := by
                have := A2.out
                show _ ≤ _
                omega
              obtain ⟨ov, capv, hvv, _, _⟩ := A1.out.own.slice
              obtain ⟨ql, hql⟩ : ∃ ql, ql = L1.length := ⟨_, rfl⟩
              rw [← hql] at hvv
              clear hql HR 
              subst hvv
              rw [hyV] at HO HX
              go_wp2_with (first
                | (go_at_call 21; refine cc.mono ?_; rintro e w3 ⟨rfl, h3⟩; have h3 := h3.symm; subst h3)
                | (refine wl_buildE (E := HiE) HiOk rfl _ rfl (hiV y) rfl (by rw [hyV]; rfl) ?_)
                | (at_builtin; refine of_stopT ?_))
              unfold StopT
              refine wl_appendE (E := HiE) HiOk hiV rfl _ _ rfl B (.slice ov ql capv) L1 y (hi_fits y) rfl HO.out.1 _ 1 rfl (by rw [hyV]; exact heap_new _ _ _ rfl) HLN.out HO.out.2 ?_
              intro u0 w4 x1 x2 x3
              obtain ⟨o2, n2, p2, rfl⟩ := HSL.out w4 u0 x1
              obtain ⟨y1, y2, y3⟩ := HX.out w4 _ x1 x2 x3
              have Y3 : Hid _ := y3
              clear x1 x2 x3 y3
              simp only [Act.put, List.setIfInBounds_toArray, List.set_cons_succ, List.set_cons_zero]
              go_wp2_with fail
              go_ret
              exact ⟨by rw [RS.out]; rfl, by rw [RS.out]; exact Y3.out⟩
        · have p2' : (ep != t2) = true := by simpa using p2
          have RS : Hid (res = (h2, 0)) := by
            have := HR.out
            rw [if_pos (.inl ⟨p1, p2⟩)] at this
            exact this
          clear HR p1 p2
          go_wp2_with (go_at_call 21; refine cc.mono ?_; rintro e w3 ⟨rfl, h3⟩; have h3 := h3.symm; subst h3)
          go_ret
          exact ⟨by rw [RS.out]; rfl, by rw [RS.out]; exact ⟨_, _, A1.out, A3.out, Nat.le_succ_of_le A2.out⟩⟩
end Go.Proofs.Ytbigifmfbibgoaa
