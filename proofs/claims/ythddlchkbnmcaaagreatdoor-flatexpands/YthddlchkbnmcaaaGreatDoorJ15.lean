import Derived.Test.YthddlchkbnmcaaaGreatDoorJ10
import Derived.Test.YthddlchkbnmcaaaGreatDoorJ7
import Derived.Test.YthddlchkbnmcaaaGreatDoorJ1
import Derived.Laws.AppendOwnNone
namespace Go.Proofs.YthddlchkbnmcaaaGreatDoor
open Go Go.Shelf Go.RowKit Go.Lib Go.Sort
set_option maxRecDepth 20000

def stRen : Go.Shelf.Ren := ⟨fun | 20 => 78 | n => n, fun | 0 => 0 | 3 => 3 | 4 => 4 | 22 => 22 | 24 => 35 | 25 => 61 | n => n, fun | n => n⟩
theorem stLay {P : Program} {k : Nat} (L : StP P k) : SlLaysF0.n20 P stRen where
  mixed := L.mixed
  f20 := ⟨_, by kernel_rfl, L.f_insertionSort.trans (congrArg some (show Tryz.f78 = { SlBodyF.n20 stRen with name := Tryz.f78.name } by kernel_rfl))⟩
  t0 := L.t0
  a0 := L.a0
  z0 := L.z0
  v0 := L.v0
  t3 := L.t3
  a3 := L.a3
  z3 := L.z3
  v3 := L.v3
  t4 := L.t4
  a4 := L.a4
  z4 := L.z4
  v4 := L.v4
  t22 := L.tS
  a22 := L.aS
  z22 := L.zS
  v22 := L.vS
  t25 := L.tF
  a25 := L.aF
  z25 := L.zF
  v25 := L.vF
theorem ltOf_ltP {β : Type} {p : β → Int} {cf : β → β → Int} (hcf : ∀ x y, cf x y < 0 ↔ p y < p x) : ltOf cf = ltP p := by
  funext x y
  unfold ltOf ltP
  rw [Bool.eq_iff_iff, decide_eq_true_iff, decide_eq_true_iff]
  exact hcf x y
variable {α : Type} [Inhabited α]
theorem CmpLays.on {P : Program} {enc : α → List Value} {k : Nat} {cf : α → α → Int} {g : Nat} {cb : Array Value} {blk off size : Nat} {w0 W : World} {d : Array α} (hC : CmpLays P g cb enc k cf blk off size w0) (h : SWK enc k w0 blk off d W) (hblk : blk < w0.heap.size) (hs : d.size = size) : CmpLays P g cb enc k cf blk off size W := by
  intro m os dk hd x y
  obtain ⟨n, os0, rfl⟩ := h
  rw [sortWorldK_on enc k w0 blk off n m d dk os0 os hblk (by omega)]
  exact hC _ _ dk hd x y
theorem ins_any {P : Program} {k : Nat} (L : StP P k) (enc : α → List Value) (p : α → Int) (cf : α → α → Int) (hcf : ∀ x y, cf x y < 0 ↔ p y < p x) (g : Nat) (cb : Array Value) (blk off cap : Nat) (d0 : Array α) (w0 : World)
    (eg : ∀ args w, (callFunc g args).run P w = .ok (.enter g args) w) (hcmp : CmpLays P g cb enc k cf blk off d0.size w0) (R : RowK enc k w0 blk off d0) (a b : Nat) (d : Array α) (w : World) (hs : d0.size = d.size) (S : SWK enc k w0 blk off d w) (hab : a ≤ b) (hb : b ≤ d.size) (hsz : d.size < 1152921504606846976) :
    Calls P 78 #[.slice (some ⟨blk, off, none⟩) d.size cap, .int .i64 a, .int .i64 b, .func (.func g) #[] cb] w fun e w' => e = .returned (.tuple #[]) ∧ ∃ d', d'.size = d.size ∧ SWK enc k w0 blk off d' w' ∧ Merged p (arrF d) (arrF d') a b := by
  have hc := AnyQ.insertionSortCmpFunc (stLay L) k L.aE L.zE enc R.hk R.h1 cf g cb blk off cap a b d w eg (by rw [← hs]; exact CmpLays.on hcmp S R.hblk hs.symm) (S.holds R.hblk R.hH hs.symm) (S.lt R.hblk) hab hb (by omega)
  refine hc.mono ?_
  rintro e w' ⟨rfl, n, os, rfl⟩
  rw [ltOf_ltP hcf]
  obtain ⟨m1, m2⟩ := ins_merged (p := p) d a b hab hb
  exact ⟨rfl, _, m1, S.on R.hblk n _ os m1, m2⟩

set_option maxHeartbeats 16000000 in
set_option maxRecDepth 1000000 in
/-- slices.stableCmpFunc: sorted by the falling number, those of one number in their order. -/
theorem stable_any {P : Program} {k : Nat} (L : StP P k) (enc : α → List Value) (p : α → Int) (cf : α → α → Int) (hcf : ∀ x y, cf x y < 0 ↔ p y < p x) (g : Nat) (cb : Array Value) (blk off cap : Nat) (d : Array α) (w : World)
    (eg : ∀ args w, (callFunc g args).run P w = .ok (.enter g args) w) (hcmp : CmpLays P g cb enc k cf blk off d.size w) (R : RowK enc k w blk off d) (hsz : d.size < 1152921504606846976) :
    Calls P 50 #[.slice (some ⟨blk, off, none⟩) d.size cap, .int .i64 d.size, .func (.func g) #[] cb] w fun e w' => e = .returned (.tuple #[]) ∧ ∃ d', d'.size = d.size ∧ SWK enc k w blk off d' w' ∧ DescF p (arrF d') 0 d.size ∧ Alike p (segF (arrF d') 0 d.size) (segF (arrF d) 0 d.size) := by
  have mixed := L.mixed
  have t0 := L.t0; have a0 := L.a0; have z0 := L.z0; have v0 := L.v0
  have t3 := L.t3; have a3 := L.a3; have z3 := L.z3; have v3 := L.v3
  have t4 := L.t4; have a4 := L.a4; have z4 := L.z4; have v4 := L.v4
  have tS := L.tS; have aS := L.aS; have zS := L.zS; have vS := L.vS
  have tF := L.tF; have aF := L.aF; have zF := L.zF; have vF := L.vF
  have aE := L.aE; have zE := L.zE
  have FG := L.f_stable
  have e78 : ∀ args w, (callFunc 78 args).run P w = .ok (.enter 78 args) w := enters_of L.f_insertionSort (by kernel_rfl) rfl
  have e79 : ∀ args w, (callFunc 79 args).run P w = .ok (.enter 79 args) w := enters_of L.f_symMerge (by kernel_rfl) rfl
  obtain ⟨n, hn⟩ : ∃ n, n = d.size := ⟨_, rfl⟩
  have HI : Hid (∀ (a b : Nat) (dk : Array α) (W : World), n = dk.size → SWK enc k w blk off dk W → a ≤ b → b ≤ n → Calls P 78 #[.slice (some ⟨blk, off, none⟩) n cap, .int .i64 a, .int .i64 b, .func (.func g) #[] cb] W fun e w' => e = .returned (.tuple #[]) ∧ ∃ d', d'.size = n ∧ SWK enc k w blk off d' w' ∧ Merged p (arrF dk) (arrF d') a b) := fun a b dk W h1 h2 h3 h4 => by
    have := ins_any L enc p cf hcf g cb blk off cap d w eg hcmp R a b dk W (by omega) h2 h3 (by omega) (by omega)
    rw [← h1] at this; exact this
  have HM : Hid (∀ (a m b : Nat) (dk : Array α) (W : World), n = dk.size → SWK enc k w blk off dk W → a < m → m < b → b ≤ n → DescF p (arrF dk) a m → DescF p (arrF dk) m b → Calls P 79 #[.slice (some ⟨blk, off, none⟩) n cap, .int .i64 a, .int .i64 m, .int .i64 b, .func (.func g) #[] cb] W fun e w' => e = .returned (.tuple #[]) ∧ ∃ d', d'.size = n ∧ SWK enc k w blk off d' w' ∧ Merged p (arrF dk) (arrF d') a b) := fun a m b dk W h1 h2 h3 h4 h5 h6 h7 => by
    have := symMerge_any L enc p cf hcf g cb blk off cap d w eg hcmp R (b - a) a m b dk W (Nat.le_refl _) (by omega) h2 h3 h4 (by omega) (by omega) h6 h7
    rw [← h1] at this; exact this
  have S0 : Aside (SWK enc k w blk off d w) := SWK.start R.hH
  have HD : Hid (n = d.size) := hn
  rw [← hn] at hsz ⊢
  clear hcmp R hcf L hn eg
  go_enter FG, Tryz.ntmps50
  go_wp2
  go_loopg [7, 8] n (fun kx s7 s8 wr => ∃ (q a b : Nat) (dk : Array α), s7 = .int .i64 a ∧ s8 = .int .i64 b ∧ b = a + 20 ∧ a ≤ n ∧ n - a ≤ kx ∧ Hid (a = 20 * q ∧ BlkD p (arrF dk) 20 0 a) ∧ dk.size = n ∧ Aside (SWK enc k w blk off dk wr) ∧ Hid (Alike p (segF (arrF dk) 0 n) (segF (arrF d) 0 n)))
  case atStart => exact ⟨0, 0, 20, d, rfl, rfl, rfl, Nat.zero_le _, Nat.le_refl _, ⟨rfl, blk_none _ _⟩, HD.out.symm, S0, Alike.refl _ _⟩
  case round =>
    clear S0
    obtain ⟨q, a, b, dk, rfl, rfl, hb, han, hkx, HQ, hds, S1, HA⟩ := hrel
    have HBA : Hid (b = a + 20) := hb
    have hba : a < b := by omega
    by_cases hlt : b ≤ n
    · have hltz : (b : Int) ≤ (n : Int) := by omega
      have hc := HI.out a b dk wr hds.symm S1.out (by omega) hlt
      clear hb
      clear S1
      go_wp2_with (go_at_fn 78; refine hc.mono ?_; rintro e w1 ⟨rfl, d', hd', S3, hE⟩)
      go_roundg (n - b)
      case measure => omega
      case rel =>
        obtain ⟨q1, q2⟩ := HQ.out
        have hb := HBA.out
        refine ⟨q + 1, b, b + 20, d', rfl, by go_num, rfl, hlt, Nat.le_refl _, ⟨by omega, ?_⟩, hd', S3, (hE.whole (by omega) hlt).trans HA.out⟩
        rw [q1] at hE q2
        exact blk_more (by omega) q2 (by omega) (by omega) hE rfl
    · have hltz : ¬ (b : Int) ≤ (n : Int) := by omega
      have hc := HI.out a n dk wr hds.symm S1.out han (Nat.le_refl _)
      clear hb S1
      go_wp2_with (go_at_fn 78; refine hc.mono ?_; rintro e w1 ⟨rfl, d', hd', S3, hE⟩)
      have B1 : Hid (BlkD p (arrF d') 20 0 n ∧ Alike p (segF (arrF d') 0 n) (segF (arrF d) 0 n)) := by
        obtain ⟨q1, q2⟩ := HQ.out
        have hb := HBA.out
        refine ⟨?_, (hE.whole han (Nat.le_refl _)).trans HA.out⟩
        rw [q1] at hE q2
        exact blk_more (by omega) q2 (by omega) (by omega) hE rfl
      have S1 : Aside (SWK enc k w blk off d' w1) := S3
      clear S3 hE HQ HA hc
      obtain ⟨W1, hW1⟩ : ∃ W, W = w1 := ⟨_, rfl⟩
      rw [← hW1] at S1 ⊢
      clear hW1
      go_loopg [6, 7, 8, 9] n (fun kx s6 s7 s8 s9 wr => ∃ (s : Nat) (a b m : Value) (dk : Array α), s6 = .int .i64 s ∧ s7 = a ∧ s8 = b ∧ s9 = m ∧ 20 ≤ s ∧ n - s ≤ kx ∧ s ≤ n + n + 20 ∧ dk.size = n ∧ Aside (SWK enc k w blk off dk wr) ∧ Hid (BlkD p (arrF dk) s 0 n ∧ Alike p (segF (arrF dk) 0 n) (segF (arrF d) 0 n)))
      case atStart => exact ⟨20, _, _, _, d', rfl, rfl, rfl, rfl, by omega, by omega, by omega, hd', S1, B1⟩
      case round =>
        clear S1 B1
        obtain ⟨s, va, vb, vm, dk, rfl, rfl, rfl, rfl, hs20, hkx2, hs2, hds2, S1, B1⟩ := hrel
        by_cases hsn : s < n
        · have hsnz : (s : Int) < (n : Int) := by omega
          go_wp2
          obtain ⟨W2, hW2⟩ : ∃ W, W = wr := ⟨_, rfl⟩
          rw [← hW2] at S1 ⊢
          clear hW2
          go_loopg [7, 8] n (fun kx s7 s8 wr2 => ∃ (q a b : Nat) (dj : Array α), s7 = .int .i64 a ∧ s8 = .int .i64 b ∧ b = a + (s + s) ∧ a ≤ n ∧ n - a ≤ kx ∧ Hid (a = (s + s) * q ∧ BlkD p (arrF dj) (s + s) 0 a ∧ BlkD p (arrF dj) s a n) ∧ dj.size = n ∧ Aside (SWK enc k w blk off dj wr2) ∧ Hid (Alike p (segF (arrF dj) 0 n) (segF (arrF d) 0 n)))
          case atStart => exact ⟨0, 0, s + s, dk, rfl, by rw [show ((s + s : Nat) : Int) = 2 * (s : Int) by omega], by omega, Nat.zero_le _, Nat.le_refl _, ⟨by rw [Nat.mul_zero], blk_none _ _, B1.out.1⟩, hds2, S1, B1.out.2⟩
          case round =>
            clear S1 B1
            obtain ⟨q, a, b, dj, rfl, rfl, hb, han, hkx3, HQ, hdj, S1, HA⟩ := hrel
            have HBA : Hid (b = a + (s + s)) := hb
            have eas : ((a + s : Nat) : Int) = (a : Int) + (s : Int) := by omega
            have ess : (s + s) * q = s * (2 * q) := by rw [← Nat.two_mul, Nat.mul_comm 2 s, Nat.mul_assoc]
            have ess2 : (s + s) * q + s = s * (2 * q + 1) := by rw [ess, Nat.mul_add, Nat.mul_one]
            have ESS : Hid ((s + s) * q = s * (2 * q) ∧ (s + s) * q + s = s * (2 * q + 1)) := ⟨ess, ess2⟩
            clear ess ess2
            by_cases hlt : b ≤ n
            · have hltz : (b : Int) ≤ (n : Int) := by omega
              have hc := HM.out a (a + s) b dj wr hdj.symm S1.out (by omega) (by omega) hlt (by
                obtain ⟨q1, q2, q3⟩ := HQ.out
                have e1 := ESS.out.1
                rw [← q1] at e1
                have := blk_desc q3 (q := 2 * q) (by omega) (b := a + s) (by omega) (by omega)
                rw [← e1] at this; exact this) (by
                obtain ⟨q1, q2, q3⟩ := HQ.out
                have e1 := ESS.out.2
                rw [← q1] at e1
                have := blk_desc q3 (q := 2 * q + 1) (by omega) (b := b) (by omega) (by omega)
                rw [← e1] at this; exact this)
              rw [eas] at hc
              clear hb S1
              go_wp2_with (go_at_fn 79; refine hc.mono ?_; rintro e w1 ⟨rfl, d', hd', S3, hE⟩)
              go_roundg (n - b)
              case measure => have := HBA.out; omega
              case rel =>
                obtain ⟨q1, q2, q3⟩ := HQ.out
                have hb := HBA.out
                refine ⟨q + 1, b, b + (s + s), d', rfl, by rw [show ((b + (s + s) : Nat) : Int) = (b : Int) + 2 * (s : Int) by omega], rfl, hlt, Nat.le_refl _, ⟨by rw [Nat.mul_add, Nat.mul_one, ← q1]; exact hb, ?_, blk_behind q3 (by omega) hE⟩, hd', S3, (hE.whole (by omega) hlt).trans HA.out⟩
                rw [q1] at hE q2
                exact blk_more (by omega) q2 (by omega) (by omega) hE rfl
            · have hltz : ¬ (b : Int) ≤ (n : Int) := by omega
              by_cases hm : a + s < n
              · have hmz : (a : Int) + (s : Int) < (n : Int) := by omega
                have hc := HM.out a (a + s) n dj wr hdj.symm S1.out (by omega) hm (Nat.le_refl _) (by
                  obtain ⟨q1, q2, q3⟩ := HQ.out
                  have e1 := ESS.out.1
                  rw [← q1] at e1
                  have := blk_desc q3 (q := 2 * q) (by omega) (b := a + s) (by omega) (by omega)
                  rw [← e1] at this; exact this) (by
                  obtain ⟨q1, q2, q3⟩ := HQ.out
                  have e1 := ESS.out.2
                  rw [← q1] at e1
                  have := blk_desc q3 (q := 2 * q + 1) (by omega) (b := n) (by omega) (by omega)
                  rw [← e1] at this; exact this)
                rw [eas] at hc
                clear hb S1
                go_wp2_with (go_at_fn 79; refine hc.mono ?_; rintro e w1 ⟨rfl, d', hd', S3, hE⟩)
                go_roundg (n - (s + s))
                case measure => omega
                case rel =>
                  obtain ⟨q1, q2, q3⟩ := HQ.out
                  have hb := HBA.out
                  refine ⟨s + s, _, _, _, d', by rw [show ((s + s : Nat) : Int) = (s : Int) * 2 by omega], rfl, rfl, rfl, by omega, Nat.le_refl _, by omega, hd', S3, ⟨?_, (hE.whole han (Nat.le_refl _)).trans HA.out⟩⟩
                  rw [q1] at hE q2
                  exact blk_more (by omega) q2 (by omega) (by omega) hE rfl
              · have hmz : ¬ (a : Int) + (s : Int) < (n : Int) := by omega
                have M : Hid (BlkD p (arrF dj) (s + s) 0 n) := by
                  obtain ⟨q1, q2, q3⟩ := HQ.out
                  have e1 := ESS.out.1
                  rw [← q1] at e1
                  have hD := blk_desc q3 (q := 2 * q) (by omega) (b := n) (by omega) (Nat.le_refl _)
                  rw [← e1] at hD
                  have hE := Merged.refl hD
                  rw [q1] at hE q2
                  exact blk_more (by omega) q2 (by omega) (by omega) hE rfl
                clear hb
                go_wp2
                go_roundg (n - (s + s))
                case measure => omega
                case rel => exact ⟨s + s, _, _, _, dj, by rw [show ((s + s : Nat) : Int) = (s : Int) * 2 by omega], rfl, rfl, rfl, by omega, Nat.le_refl _, by omega, hdj, S1, ⟨M.out, HA.out⟩⟩
        · have hsnz : ¬ (s : Int) < (n : Int) := by omega
          go_wp2
          go_end0
          exact ⟨rfl, dk, hds2, S1.out, blk_all B1.out.1 (by omega), B1.out.2⟩
end Go.Proofs.YthddlchkbnmcaaaGreatDoor
namespace Go.Proofs.YthddlchkbnmcaaaGreatDoor
open Go Go.Shelf Go.RowKit Go.Lib Go.Sort
set_option maxRecDepth 20000

section
variable {α : Type} [Inhabited α]
theorem segF_all (d : Array α) : segF (arrF d) 0 d.size = d.toList := by
  apply List.ext_getElem?
  intro i
  unfold segF arrF
  by_cases hi : i < d.size
  · simp [hi]
  · simp [hi]
theorem gcells_len {β : Type} {enc : β → Array Value} {k : Nat} (hk : ∀ x, (enc x).size = k) (C : List β) : (gcells enc C).length = C.length * k := by
  induction C with
  | nil => simp [gcells]
  | cons c C ih => rw [gcells_cons, List.length_append, ih, Array.length_toList, hk, List.length_cons, Nat.add_mul, Nat.one_mul, Nat.add_comm]
theorem gcells_get {enc : α → Array Value} {k : Nat} (hk : ∀ x, (enc x).size = k) (C : List α) (t : Nat) (ht : t < C.length * k) : (gcells enc C)[t]? = some ((enc C.toArray[t / k]!).toList[t % k]!) := by
  have k0 : 0 < k := by
    rcases Nat.eq_zero_or_pos k with h | h
    · subst h; simp at ht
    · exact h
  have hi : t / k < C.length := (Nat.div_lt_iff_lt_mul k0).2 ht
  have hj : t % k < k := Nat.mod_lt _ k0
  have := gcells_at enc k C (fun c _ => hk c) (t / k) hi (t % k) hj
  rw [Nat.div_add_mod] at this
  rw [this]
  have e : C.toArray[t / k]! = C[t / k] := by simp [hi]
  rw [e]
  simp [hk, hj]
/-- A row of one's own, as the sort has it. -/
theorem holds_of_own {enc : α → Array Value} {k : Nat} (hk : ∀ x, (enc x).size = k) {w : World} {g : Nat} {cur : Array Value} {ty : TypeId} {C : List α} (hg : w.heap[g]? = some (.cells cur ty (0, 0))) (hc : cur.toList.take (C.length * k) = gcells enc C) :
    HoldsK (fun x => (enc x).toList) k w g 0 C.toArray := by
  intro t ht
  rw [size_flatK] at ht
  have ht' : t < C.length * k := by simpa using ht
  rw [get_flatK _ _ _ _ ht]
  refine ⟨?_, ?_⟩
  · rw [Nat.zero_add, cell_of_row w g t cur ty _ hg]
    have h1 := gcells_get hk C t ht'
    rw [← hc, List.getElem?_take_of_lt ht', Array.getElem?_toList] at h1
    exact h1
  · simp [World.frozen?, hg]
theorem SWK.grownBy {enc : α → List Value} {k : Nat} {w W : World} {g off : Nat} {d : Array α} (h : SWK enc k w g off d W) : w.grownBy W (some g) := by
  obtain ⟨n, os, rfl⟩ := h
  refine ⟨rfl, rfl, rfl, ?_, fun j hj hne => ?_⟩
  · unfold sortWorldK
    rw [size_grow, size_putRowK]
    exact Nat.le_add_right _ _
  · unfold sortWorldK grow putRowK putRow mapBlock Sort.ahead
    have : g ≠ j := fun e => hne (by rw [e])
    rw [Array.getElem?_append_left (by simpa using hj), Array.getElem?_modify, if_neg this]
/-- .. and as it is then. -/
theorem own_of_swk {enc : α → Array Value} {k : Nat} (hk : ∀ x, (enc x).size = k) {w W : World} {g : Nat} {cur : Array Value} {ty : TypeId} {d : Array α} (h : SWK (fun x => (enc x).toList) k w g 0 d W) (hg : w.heap[g]? = some (.cells cur ty (0, 0))) (hc : d.size * k ≤ cur.size) :
    ∃ cur', W.heap[g]? = some (.cells cur' ty (0, 0)) ∧ cur'.size = cur.size ∧ cur'.toList.take (d.size * k) = gcells enc d.toList := by
  obtain ⟨n, os, rfl⟩ := h
  have hlt : g < w.heap.size := (Array.getElem?_eq_some_iff.1 hg).1
  refine ⟨putCells id 0 (flatK (fun x => (enc x).toList) k d) cur, ?_, ?_, ?_⟩
  · unfold sortWorldK grow putRowK putRow mapBlock Sort.ahead
    simp only
    rw [Array.getElem?_append_left (by simpa using hlt), Array.getElem?_modify, if_pos rfl, hg]
    rfl
  · simp [putCells]
  · apply List.ext_getElem?
    intro t
    by_cases ht : t < d.size * k
    · rw [List.getElem?_take_of_lt ht]
      have := gcells_get hk d.toList t (by simpa using ht)
      rw [this, Array.getElem?_toList]
      unfold putCells
      rw [Array.getElem?_mapIdx, Array.getElem?_eq_getElem (by omega), Option.map_some, if_pos (by rw [size_flatK]; omega), Nat.sub_zero, get_flatK _ _ _ _ ht]
      simp
    · rw [List.getElem?_take_eq_none (by omega), List.getElem?_eq_none (by rw [gcells_len hk]; simp; omega)]
end
/-- A slice's elements appended to one's own row, and where the new row lies. -/
theorem wl_appendL {E : El} (H : E.Ok) {α : Type} (enc : α → Array Value) (hE : ∀ x, Fits E (enc x)) {ops : Array Oper} {rest : List Oper} {o : Oper} {a : Act} {w : World} {Q : Exit → Act → World → Prop} (hgd : o.guard = none) (s x : Operand) (ho : o.op = .call { callee := .builtin .append, args := #[s, x], argTypes := #[E.slice, E.slice] })
    (base base' : Nat) (v u : Value) (C D : List α) (hs : a.eval s = v) (hown : w.ownsRow base E.elem E.size v C.length (gcells enc C)) (hx : a.eval x = u) (hu : w.ownsRow base' E.elem E.size u D.length (gcells enc D))
    (hn : C.length + D.length ≤ 1000000) (hbase : base ≤ w.heap.size)
    (h : ∀ v' w', w'.ownsRow base E.elem E.size v' (C ++ D).length (gcells enc (C ++ D)) → w.grownBy w' v.ownBlock → (v'.ownBlock = v.ownBlock ∨ v'.ownBlock = some w.heap.size) → wpList Tryz.prog ops Q rest (a.put o.dst v') w') : wpList Tryz.prog ops Q (o :: rest) a w := by
  obtain ⟨i0, hi, hz0, hz1, hz2⟩ := H.info
  have hb := H.hb
  have hu0 := hu
  have hl : (gcells enc D).length = D.length * E.size := hu.1
  obtain ⟨_, ⟨rfl, h0⟩ | ⟨g, cap, cur, rfl, hB, hcur, h1, h2, h3, h4⟩⟩ := hu
  · have hD0 : D = [] := List.eq_nil_of_length_eq_zero h0
    subst hD0
    refine wpList_append_own_none hgd s x E.slice ho base E.elem i0 E.size H.hs hi v _ _ hs hown hx (h v w ?_ ?_ (.inl rfl))
    · rw [List.append_nil]; exact hown
    · exact ⟨rfl, rfl, rfl, Nat.le_refl _, fun k _ _ => rfl⟩
  · refine wpList_append_own_at w hgd s x E.slice ho base E.elem i0 (.agg E.zero) E.size E.bytes H.hs hi hz0 hz1 hz2 (by simpa [Value.cells] using H.hz) H.hp v _ _ hs hown ⟨g, 0, none⟩ D.length cap (gcells enc D) hx hl (fun j y hy => ?_) (fun y hy => ?_) (by unfold maxLen; omega) ?_ hbase ?_
    · have hj : j < D.length * E.size := by rw [← hl]; exact (List.getElem?_eq_some_iff.1 hy).1
      have hadd : (⟨g, 0, none⟩ : Addr).add j = ⟨g, j, none⟩ := by unfold Addr.add; split <;> simp_all
      rw [hadd, cell_of_row w g j _ _ _ hcur, ← hy, ← h4, List.getElem?_take_of_lt hj, Array.getElem?_toList]
    · unfold gcells at hy
      obtain ⟨c, _, hc⟩ := List.mem_flatMap.1 hy
      exact (Array.all_eq_true_iff_forall_mem.1 (hE c).2) y (by simpa using hc)
    · exact Nat.le_trans (Nat.mul_le_mul (show C.length + D.length ≤ 1000000 by omega) hb) (by decide)
    · intro v' w' h5 h6 _ h7
      refine h v' w' ?_ h6 h7
      rw [List.length_append, gcells_append]; exact h5
end Go.Proofs.YthddlchkbnmcaaaGreatDoor
