import Derived.Test.YtjfbahpaahlidaaDoorParse
import Derived.Test.YtjfbahpaahlidaaDoorMake
import Derived.Laws.RangeAny
namespace Go.Proofs.YtjfbahpaahlidaaDoor
open Go Go.RowKit

theorem ps_12 (i : Nat) (hi : i < 11) : (ps i = 1 ∨ ps i = 2) ∧ limOf (ps i) ≤ 65536 := by
  rcases (show i = 0 ∨ i = 1 ∨ i = 2 ∨ i = 3 ∨ i = 4 ∨ i = 5 ∨ i = 6 ∨ i = 7 ∨ i = 8 ∨ i = 9 ∨ i = 10 by omega) with h | h | h | h | h | h | h | h | h | h | h <;> subst h <;> decide

theorem bytes_drop (s : ByteArray) (p : Nat) (h : p < s.size) : s.data.toList.drop p = s[p] :: s.data.toList.drop (p + 1) := by
  rw [List.drop_eq_getElem_cons (by simpa using h)]; rfl

theorem parts_cells (w : World) (hP : Parts w) (k : Nat) (hk : k < 11) : w.cell? ⟨1, k * 2, none⟩ = some (.int .i64 ((pa k : Nat) : Int)) ∧ w.cell? ⟨1, k * 2 + 1, none⟩ = some (.int .i64 ((ps k : Nat) : Int)) := by
  have h1 := hP (k * 2) (by omega)
  have h2 := hP (k * 2 + 1) (by omega)
  have e : partsF.getD (k * 2) 0 = ((pa k : Nat) : Int) ∧ partsF.getD (k * 2 + 1) 0 = ((ps k : Nat) : Int) := by
    rcases (show k = 0 ∨ k = 1 ∨ k = 2 ∨ k = 3 ∨ k = 4 ∨ k = 5 ∨ k = 6 ∨ k = 7 ∨ k = 8 ∨ k = 9 ∨ k = 10 by omega) with h | h | h | h | h | h | h | h | h | h | h <;> subst h <;> decide
  rw [e.1] at h1
  rw [e.2] at h2
  exact ⟨h1, h2⟩

/-- What Parse says of the text s, behind the rest of which the state is known. -/
def Parsed (R : Option (List Int)) (e : Ending) : Prop :=
  match R with
  | some H => e = .returned (.tuple #[.agg (hv H), .int .i64 0])
  | none => e = .returned (.tuple #[.agg (hv Z13), .int .i64 12])

set_option maxHeartbeats 4000000 in
theorem parse_any (s : ByteArray) (w : World) (hs : s.size ≤ maxLen) (hP : Parts w) (hsz : 3 ≤ w.heap.size) :
    Calls Tryd.prog 25 #[.string s] w fun e w' => Parsed (parseB s.data.toList 0 (-1) Z13) e ∧ Below w.heap.size w w' := by
  unfold maxLen at hs
  obtain ⟨R, hR⟩ : ∃ R, R = parseB s.data.toList 0 (-1) Z13 := ⟨_, rfl⟩
  rw [← hR]
  have HR : Hid (R = parseB s.data.toList 0 (-1) Z13) := hR
  have HS : Hid (s.size ≤ 9223372036854775807) := hs
  have HP : Hid (Parts w) := hP
  clear hR hs hP
  go_enter Tryd.func25, Tryd.ntmps25
  go_wp2
  go_loopw [5, 6] (fun i n wr => ∃ (p k : Nat) (m : Int) (h : List Int), p ≤ s.size ∧ k ≤ 10 ∧ -1 ≤ m ∧ m < limOf (ps k) ∧ h.length = 13 ∧ i = .int .i64 (k : Int) ∧ n = .int .i64 m ∧ Hid (R = parseB (s.data.toList.drop p) k m h) ∧
      wr.heap[w.heap.size]? = some (.cells zero26 26 (0, 0)) ∧ wr.heap[w.heap.size + 1]? = some (.cells (hv h) 26 (0, 0)) ∧ wr.heap[w.heap.size + 1 + 1]? = some (.stringIter s p) ∧ Below w.heap.size w wr) (fun _ _ wr => s.size - wr.iterPos (w.heap.size + 1 + 1))
  case atStart =>
    refine ⟨0, 0, -1, Z13, Nat.zero_le _, by decide, by decide, by decide, rfl, rfl, rfl, HR, ?_, ?_, ?_, ?_⟩
    · exact heap_past _ (.stringIter s 0) _ _ (heap_past _ _ _ _ (heap_new _ _ _ rfl))
    · exact heap_past _ (.stringIter s 0) _ _ (heap_new _ _ _ (by simp))
    · exact heap_new _ (.stringIter s 0) _ (by simp)
    · exact (((Below.refl _ _).alloc (Nat.le_refl _) _).alloc (by simp) _).alloc (by simp; omega) (.stringIter s 0)
  case round =>
    obtain ⟨p, k, m, h, hp, hk, hm0, hm1, hhl, rfl, rfl, HRR, g0, g1, g2, hbw⟩ := hrel
    have hz0 := (Array.getElem?_eq_some_iff.1 g0).1
    have hz2 := (Array.getElem?_eq_some_iff.1 g2).1
    have hps := ps_12 k (by omega)
    by_cases hlt : p < s.size
    · have hdr := bytes_drop s p hlt
      obtain ⟨b, hb⟩ : ∃ b : Nat, b = (s[p]).toNat := ⟨_, rfl⟩
      have gk1 : ∀ p', (wr.iterAt (w.heap.size + 1 + 1) s p').heap[w.heap.size]? = some (.cells zero26 26 (0, 0)) := fun p' => by rw [Lib.iterAt_other _ _ _ _ _ (by omega)]; exact g0
      have gk2 : ∀ p', (wr.iterAt (w.heap.size + 1 + 1) s p').heap[w.heap.size + 1]? = some (.cells (hv h) 26 (0, 0)) := fun p' => by rw [Lib.iterAt_other _ _ _ _ _ (by omega)]; exact g1
      have gk3 : ∀ p', (wr.iterAt (w.heap.size + 1 + 1) s p').heap[w.heap.size + 1 + 1]? = some (.stringIter s p') := fun p' => Lib.iterAt_heap _ _ _ _ _ g2
      have hbk : ∀ p', Below w.heap.size w (wr.iterAt (w.heap.size + 1 + 1) s p') := fun p' => Lib.below_iterAt hbw (by omega) _ _
      have GK1 : Hid _ := gk1
      have GK2 : Hid _ := gk2
      have GK3 : Hid _ := gk3
      have BK : Hid _ := hbk
      have GI : Hid (wr.iterPos (w.heap.size + 1 + 1) = p) := iterPos_of g2
      clear gk1 gk2 gk3 hbk
      by_cases hdig : 48 ≤ b ∧ b ≤ 57
      · obtain ⟨d0, d1⟩ := hdig
        have hnx := Lib.run_next_ascii_at (P := Tryd.prog) wr (w.heap.size + 1 + 1) s p 0 g2 hlt (by omega)
        rw [← hb] at hnx
        obtain ⟨V, hV⟩ : ∃ V, V = wr.iterAt (w.heap.size + 1 + 1) s (p + 1) := ⟨_, rfl⟩
        have v1 : V.heap[w.heap.size]? = some (.cells zero26 26 (0, 0)) := by rw [hV]; exact GK1.out _
        have v2 : V.heap[w.heap.size + 1]? = some (.cells (hv h) 26 (0, 0)) := by rw [hV]; exact GK2.out _
        have v3 : V.heap[w.heap.size + 1 + 1]? = some (.stringIter s (p + 1)) := by rw [hV]; exact GK3.out _
        have vB : Below w.heap.size w V := by rw [hV]; exact BK.out _
        rw [← hV] at hnx
        have HB : Hid (b = (s[p]).toNat) := hb
        have HDR : Hid (s.data.toList.drop p = s[p] :: s.data.toList.drop (p + 1)) := hdr
        clear hb hdr hV g0 g1 g2 hbw GK1 GK2 GK3 BK
        have hcell := (parts_cells V (HP.out.later (by omega) vB) k (by omega)).2
        have HK : Hid ((48 ≤ (s[p]).toNat ∧ (s[p]).toNat ≤ 57)) := by
          show 48 ≤ (s[p]).toNat ∧ (s[p]).toNat ≤ 57
          rw [← HB.out]; exact ⟨d0, d1⟩
        by_cases hm : m = -1
        · subst hm
          have hRR : R = parseB (s.data.toList.drop (p + 1)) k ((b : Int) - 48) h := by
            rw [HRR.out, HDR.out, parseB, if_pos HK.out, if_pos rfl, HB.out]
          have HR2 : Hid (R = parseB (s.data.toList.drop (p + 1)) k ((b : Int) - 48) h) := hRR
          have hlim : 256 ≤ limOf (ps k) := by rcases hps.1 with e | e <;> rw [e] <;> decide
          clear hRR HRR HDR HB HK
          go_wp2_with fail
          refine (len_new ((b : Int) - 48) (ps k : Int) V).mono ?_
          rintro e w' ⟨rfl, hw'⟩
          subst hw'
          go_wp2_with fail
          go_roundw
          case rel => exact ⟨p + 1, k, (b : Int) - 48, h, by omega, hk, by omega, by omega, hhl, rfl, rfl, HR2, v1, v2, v3, vB⟩
          case measure => rw [iterPos_of v3, GI.out]; omega
        · by_cases hbad : m = 0 ∨ limOf (ps k) ≤ m * 10 + ((b : Int) - 48)
          · have hRR : R = none := by
              rw [HRR.out, HDR.out, parseB, if_pos HK.out, if_neg hm, ← HB.out, if_pos hbad]
            have HR2 : Hid (R = none) := hRR
            have HL : Hid (∀ u : Unit, Calls Tryd.prog 35 #[.int .i64 m, .int .i64 ((b : Int) - 48), .int .i64 ((ps k : Nat) : Int)] V fun e w' => e = .returned (.tuple #[.int .i64 0, .bool false]) ∧ w' = V) := fun _ => len_off m ((b : Int) - 48) (ps k) V hps.1 (by omega) (by omega) (by omega) (by omega) hbad
            clear hRR HRR HDR HB HK hbad
            go_wp2_with fail
            refine (HL.out ()).mono ?_
            rintro e w' ⟨rfl, hw'⟩
            subst hw'
            go_wp2_with (refine wl_store26 rfl _ _ rfl w.heap.size Z13 rfl rfl _ v1 rfl rfl _ rfl ?_)
            refine ret26e (p := 2) (u := 3) rfl rfl w.heap.size rfl Z13 rfl (setRow_heap _ _ _ _ _ _ v1) _ rfl ⟨?_, below_setRow vB (Nat.le_refl _) _⟩
            rw [HR2.out]; rfl
          · have hRR : R = parseB (s.data.toList.drop (p + 1)) k (m * 10 + ((b : Int) - 48)) h := by
              rw [HRR.out, HDR.out, parseB, if_pos HK.out, if_neg hm, ← HB.out, if_neg hbad]
            have HR2 : Hid (R = parseB (s.data.toList.drop (p + 1)) k (m * 10 + ((b : Int) - 48)) h) := hRR
            have hb1 : 1 ≤ m := by omega
            have hb2 : m * 10 + ((b : Int) - 48) < limOf (ps k) := by omega
            have HL : Hid (∀ u : Unit, Calls Tryd.prog 35 #[.int .i64 m, .int .i64 ((b : Int) - 48), .int .i64 ((ps k : Nat) : Int)] V fun e w' => e = .returned (.tuple #[.int .i64 (m * 10 + ((b : Int) - 48)), .bool true]) ∧ w' = V) := fun _ => len_on m ((b : Int) - 48) (ps k) V hps.1 hb1 (by omega) (by omega) (by omega) hb2
            clear hRR HRR HDR HB HK hbad
            go_wp2_with fail
            refine (HL.out ()).mono ?_
            rintro e w' ⟨rfl, hw'⟩
            subst hw'
            go_wp2_with fail
            go_roundw
            case rel => exact ⟨p + 1, k, m * 10 + ((b : Int) - 48), h, by omega, hk, by omega, hb2, hhl, rfl, rfl, HR2, v1, v2, v3, vB⟩
            case measure => rw [iterPos_of v3, GI.out]; omega
      · obtain ⟨r, p', hnx, hr1, hr2, hr3, hr4⟩ : ∃ r p' : Nat, (Instr.next (.pointer (some ⟨w.heap.size + 1 + 1, 0, none⟩)) true 0).run Tryd.prog wr = .ok (.tuple #[.bool true, .int .i64 p, .int .i32 (r : Int)]) (wr.iterAt (w.heap.size + 1 + 1) s p') ∧ ¬ (48 ≤ r ∧ r ≤ 57) ∧ r ≤ 2147483647 ∧ (b < 128 → r = b ∧ p' = p + 1) ∧ (128 ≤ b → 128 ≤ r) := by
          by_cases ha : b < 128
          · have hnx := Lib.run_next_ascii_at (P := Tryd.prog) wr (w.heap.size + 1 + 1) s p 0 g2 hlt (by omega)
            rw [← hb] at hnx
            exact ⟨b, p + 1, hnx, hdig, by omega, fun _ => ⟨rfl, rfl⟩, fun h => by omega⟩
          · have hnx := Lib.run_next_any_at (P := Tryd.prog) wr (w.heap.size + 1 + 1) s p 0 g2 hlt
            have hh := decode_high s p hlt (by omega)
            have hle := decode_le s p
            exact ⟨(Utf8.decode s p).1, _, hnx, by omega, hle, fun h => by omega, fun _ => hh.1⟩
        obtain ⟨V, hV⟩ : ∃ V, V = wr.iterAt (w.heap.size + 1 + 1) s p' := ⟨_, rfl⟩
        have v1 : V.heap[w.heap.size]? = some (.cells zero26 26 (0, 0)) := by rw [hV]; exact GK1.out _
        have v2 : V.heap[w.heap.size + 1]? = some (.cells (hv h) 26 (0, 0)) := by rw [hV]; exact GK2.out _
        have v3 : V.heap[w.heap.size + 1 + 1]? = some (.stringIter s p') := by rw [hV]; exact GK3.out _
        have vB : Below w.heap.size w V := by rw [hV]; exact BK.out _
        rw [← hV] at hnx
        have HB : Hid (b = (s[p]).toNat) := hb
        have HDR : Hid (s.data.toList.drop p = s[p] :: s.data.toList.drop (p + 1)) := hdr
        have HK : Hid (¬ (48 ≤ (s[p]).toNat ∧ (s[p]).toNat ≤ 57)) := by
          show ¬ (48 ≤ (s[p]).toNat ∧ (s[p]).toNat ≤ 57)
          rw [← HB.out]; exact hdig
        have H3 : Hid (b < 128 → r = b ∧ p' = p + 1) := hr3
        have H4 : Hid (128 ≤ b → 128 ≤ r) := hr4
        have hR0 : R = if m = -1 ∨ k = 10 ∨ s[p] ≠ signS.getD k 0 then none else parseB (s.data.toList.drop (p + 1)) (k + 1) (-1) (putN h (pa k) (ps k) m (ps k)) := by
          rw [HRR.out, HDR.out, parseB, if_neg HK.out]
        have HR0 : Hid (R = if m = -1 ∨ k = 10 ∨ s[p] ≠ signS.getD k 0 then none else parseB (s.data.toList.drop (p + 1)) (k + 1) (-1) (putN h (pa k) (ps k) m (ps k))) := hR0
        clear hb hdr hV g0 g1 g2 hbw GK1 GK2 GK3 BK hR0 hr3 hr4 HDR HK HRR hdig
        rcases (show (r : Int) < 48 ∨ 57 < (r : Int) by omega) with hrr | hrr
        all_goals
          by_cases hm : m = -1
          · subst hm
            have HR2 : Hid (R = none) := by
              show R = none
              rw [HR0.out, if_pos (Or.inl rfl)]
            clear HR0 hr1 HB H3 H4
            go_wp2_with (refine wl_store26 rfl _ _ rfl w.heap.size Z13 rfl rfl _ v1 rfl rfl _ rfl ?_)
            refine ret26e (p := 2) (u := 3) rfl rfl w.heap.size rfl Z13 rfl (setRow_heap _ _ _ _ _ _ v1) _ rfl ⟨?_, below_setRow vB (Nat.le_refl _) _⟩
            rw [HR2.out]; rfl
          · have hm' : (m == -1) = false := by simpa using hm
            by_cases hk10 : k = 10
            · subst hk10
              have HR2 : Hid (R = none) := by
                show R = none
                rw [HR0.out, if_pos (Or.inr (Or.inl rfl))]
              clear HR0 hr1 HB H3 H4 hm
              go_wp2_with (refine wl_store26 rfl _ _ rfl w.heap.size Z13 rfl rfl _ v1 rfl rfl _ rfl ?_)
              refine ret26e (p := 2) (u := 3) rfl rfl w.heap.size rfl Z13 rfl (setRow_heap _ _ _ _ _ _ v1) _ rfl ⟨?_, below_setRow vB (Nat.le_refl _) _⟩
              rw [HR2.out]; rfl
            · have hk' : ((k : Int) == 10) = false := by simp; omega
              have hk9 : k < 10 := by omega
              have hi9 := index9 k hk9
              obtain ⟨sg, hsg⟩ : ∃ sg : Nat, sg = (signS.getD k 0).toNat := ⟨_, rfl⟩
              rw [← hsg] at hi9
              have hsg2 : sg < 128 := by
                rw [hsg]
                rcases (show k = 0 ∨ k = 1 ∨ k = 2 ∨ k = 3 ∨ k = 4 ∨ k = 5 ∨ k = 6 ∨ k = 7 ∨ k = 8 ∨ k = 9 by omega) with e | e | e | e | e | e | e | e | e | e <;> subst e <;> decide
              have hsb : s[p] = signS.getD k 0 ↔ b = sg := by
                rw [hsg, HB.out]
                exact ⟨fun e => by rw [e], fun e => UInt8.toNat_inj.1 e⟩
              by_cases hbs : b = sg
              · obtain ⟨er, ep⟩ := H3.out (by omega)
                have HR2 : Hid (R = parseB (s.data.toList.drop (p + 1)) (k + 1) (-1) (putN h (pa k) (ps k) m (ps k))) := by
                  show R = _
                  rw [HR0.out, if_neg (by
                    rintro (e | e | e)
                    · exact hm e
                    · exact hk10 e
                    · exact e (hsb.2 hbs))]
                have ers : r = sg := by rw [er, hbs]
                clear HR0 hr1 HB H3 H4 hsb hsg
                subst ers
                subst ep
                clear er hbs
                have hcs := parts_cells V (HP.out.later (by omega) vB) k (by omega)
                obtain ⟨hc1, hc2⟩ := hcs
                have hpp := pa_ps k (by omega)
                obtain ⟨PA, hPA⟩ : ∃ x : Nat, x = pa k := ⟨_, rfl⟩
                obtain ⟨PS, hPS⟩ : ∃ x : Nat, x = ps k := ⟨_, rfl⟩
                rw [← hPA] at hc1 HR2 hpp
                rw [← hPS] at hc2 HR2 hpp
                have hm2 : m < 65536 := by omega
                have hm3 : 0 ≤ m := by omega
                have hz1 := (Array.getElem?_eq_some_iff.1 v1).1
                have hz2' := (Array.getElem?_eq_some_iff.1 v2).1
                have hz3 := (Array.getElem?_eq_some_iff.1 v3).1
                clear hPA hPS
                go_wp2_with fail
                refine wp_region_tail 11 (by kernel_rfl) (by kernel_rfl) ?_
                simp only [List.take_succ_cons, List.take_zero, List.drop_succ_cons, List.drop_zero]
                refine q_load_row rfl 26 _ rfl (w.heap.size + 1) rfl 26 _ (0, 0) _ (by rintro w' rfl; exact heap_drew v2) Tryd.underlying26 rfl (size26 _ hhl) ?_
                simp only [Act.put, List.setIfInBounds_toArray, List.set_cons_succ, List.set_cons_zero]
                repeat go_big_quiet_step (fail)
                refine wpQuiet_nil ?_
                go_wp2_with fail
                refine (put_any h hhl PA PS m V.drew hpp.1 (by omega) hm3 (by omega)).mono ?_
                rintro e w2 ⟨rfl, hb2⟩
                have k1 : w2.heap[w.heap.size]? = some (.cells zero26 26 (0, 0)) := by rw [hb2.block _ hz1]; exact v1
                have k2 : w2.heap[w.heap.size + 1]? = some (.cells (hv h) 26 (0, 0)) := by rw [hb2.block _ hz2']; exact v2
                have k3 : w2.heap[w.heap.size + 1 + 1]? = some (.stringIter s (p + 1)) := by rw [hb2.block _ hz3]; exact v3
                have hl2 : (putN h PA PS m PS).length = 13 := by rw [putN_length]; exact hhl
                go_wp2_with (refine wl_store26 rfl _ _ rfl (w.heap.size + 1) (putN h PA PS m PS) rfl rfl _ k2 (by rw [hv_size]; exact hhl) hl2 _ rfl ?_)
                go_roundw
                case rel =>
                  refine ⟨p + 1, k + 1, -1, putN h PA PS m PS, by omega, by omega, by omega, ?_, hl2, by go_num, rfl, HR2, ?_, setRow_heap _ _ _ _ _ _ k2, ?_, below_setRow ((vB.drew).trans (hb2.mono vB.size)) (by omega) _⟩
                  · have := (ps_12 (k + 1) (by omega)).1
                    rcases this with e | e <;> rw [e] <;> decide
                  · rw [setRow_other _ _ _ _ (by omega)]; exact k1
                  · rw [setRow_other _ _ _ _ (by omega)]; exact k3
                case measure =>
                  have : (w2.setRow (w.heap.size + 1) (hv (putN h PA PS m PS))).heap[w.heap.size + 1 + 1]? = some (.stringIter s (p + 1)) := by rw [setRow_other _ _ _ _ (by omega)]; exact k3
                  rw [iterPos_of this, GI.out]; omega
              · have HR2 : Hid (R = none) := by
                  show R = none
                  rw [HR0.out, if_pos (Or.inr (Or.inr (fun e => hbs (hsb.1 e))))]
                have hrs : ((r : Int) != (sg : Int)) = true := by
                  have h3 := H3.out
                  have h4 := H4.out
                  have : r ≠ sg := by
                    by_cases e : b < 128
                    · rw [(h3 e).1]; exact hbs
                    · have := h4 (by omega); omega
                  simp; omega
                clear HR0 hr1 HB H3 H4 hm hsb hsg hbs
                go_wp2_with (refine wl_store26 rfl _ _ rfl w.heap.size Z13 rfl rfl _ v1 rfl rfl _ rfl ?_)
                refine ret26e (p := 2) (u := 3) rfl rfl w.heap.size rfl Z13 rfl (setRow_heap _ _ _ _ _ _ v1) _ rfl ⟨?_, below_setRow vB (Nat.le_refl _) _⟩
                rw [HR2.out]; rfl
    · have hnx := Lib.run_next_end_at (P := Tryd.prog) wr (w.heap.size + 1 + 1) s p 0 g2 hlt
      have hR0 : R = if m = -1 ∨ k < 10 then none else some (putN h (pa k) (ps k) m (ps k)) := by
        rw [HRR.out, List.drop_of_length_le (by
          have : s.data.toList.length = s.size := by rw [Array.length_toList]; rfl
          omega), parseB]
      have HR0 : Hid (R = if m = -1 ∨ k < 10 then none else some (putN h (pa k) (ps k) m (ps k))) := hR0
      clear hR0 HRR
      by_cases hm : m = -1
      · subst hm
        have HR2 : Hid (R = none) := by
          show R = none
          rw [HR0.out, if_pos (Or.inl rfl)]
        clear HR0
        go_wp2_with (refine wl_store26 rfl _ _ rfl w.heap.size Z13 rfl rfl _ g0 rfl rfl _ rfl ?_)
        refine ret26e (p := 2) (u := 3) rfl rfl w.heap.size rfl Z13 rfl (setRow_heap _ _ _ _ _ _ g0) _ rfl ⟨?_, below_setRow hbw (Nat.le_refl _) _⟩
        rw [HR2.out]; rfl
      · have hm' : (m == -1) = false := by simpa using hm
        by_cases hk10 : k < 10
        · have HR2 : Hid (R = none) := by
            show R = none
            rw [HR0.out, if_pos (Or.inr hk10)]
          clear HR0 hm
          go_wp2_with (refine wl_store26 rfl _ _ rfl w.heap.size Z13 rfl rfl _ g0 rfl rfl _ rfl ?_)
          refine ret26e (p := 2) (u := 3) rfl rfl w.heap.size rfl Z13 rfl (setRow_heap _ _ _ _ _ _ g0) _ rfl ⟨?_, below_setRow hbw (Nat.le_refl _) _⟩
          rw [HR2.out]; rfl
        · obtain rfl : k = 10 := by omega
          have HR2 : Hid (R = some (putN h 12 1 m 1)) := by
            show R = _
            rw [HR0.out, if_neg (by rintro (e | e); exact hm e; exact hk10 e)]; rfl
          have hm2 : m < 65536 := by omega
          have hm3 : 0 ≤ m := by omega
          have hcs := parts_cells wr (HP.out.later (by omega) hbw) 10 (by omega)
          have hc1 : wr.cell? ⟨1, 20, none⟩ = some (.int .i64 12) := hcs.1
          have hc2 : wr.cell? ⟨1, 21, none⟩ = some (.int .i64 1) := hcs.2
          clear HR0 hm hcs hk10
          go_wp2_with fail
          refine wp_region_tail 11 (by kernel_rfl) (by kernel_rfl) ?_
          simp only [List.take_succ_cons, List.take_zero, List.drop_succ_cons, List.drop_zero]
          refine q_load_row rfl 26 _ rfl (w.heap.size + 1) rfl 26 _ (0, 0) _ (by rintro w' rfl; exact heap_drew g1) Tryd.underlying26 rfl (size26 _ hhl) ?_
          simp only [Act.put, List.setIfInBounds_toArray, List.set_cons_succ, List.set_cons_zero]
          repeat go_big_quiet_step (fail)
          refine wpQuiet_nil ?_
          go_wp2_with fail
          refine (put_int h hhl 12 1 m wr.drew (by decide) (by decide) hm3 (by omega) _ _ rfl rfl).mono ?_
          rintro e w2 ⟨rfl, hb2⟩
          have k1 : w2.heap[w.heap.size]? = some (.cells zero26 26 (0, 0)) := by rw [hb2.block _ hz0]; exact g0
          have hl2 : (putN h 12 1 m 1).length = 13 := by rw [putN_length]; exact hhl
          go_wp2_with (refine wl_store26 rfl _ _ rfl w.heap.size (putN h 12 1 m 1) rfl rfl _ k1 rfl hl2 _ rfl ?_)
          refine ret26e (p := 2) (u := 3) rfl rfl w.heap.size rfl (putN h 12 1 m 1) hl2 (setRow_heap _ _ _ _ _ _ k1) _ rfl ⟨?_, below_setRow ((hbw.drew).trans (hb2.mono hbw.size)) (Nat.le_refl _) _⟩
          rw [HR2.out]; rfl
end Go.Proofs.YtjfbahpaahlidaaDoor
