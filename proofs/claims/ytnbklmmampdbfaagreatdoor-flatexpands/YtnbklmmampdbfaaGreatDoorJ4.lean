import Derived.Test.YtnbklmmampdbfaaGreatDoorJ3
import Derived.Test.YtnbklmmampdbfaaGreatDoorJ1
import Derived.Laws.AppendOwnNone
import Derived.Test.YtnbklmmampdbfaaGreatDoorRows
import Derived.Test.YtnbklmmampdbfaaGreatDoorProg
import Derived.ProofKit
import Derived.OpenShut
import Derived.Carry
import Derived.Deep.Slices
import Derived.WalkMore
import Derived.WalkLawsBesides
namespace Go.Proofs.YtnbklmmampdbfaaGreatDoor
open Go Go.Shelf Go.RowKit Go.Lib Go.Sort
set_option maxRecDepth 20000

def stRen : Go.Shelf.Ren := ⟨fun | 20 => 78 | n => n, fun | 0 => 0 | 3 => 3 | 4 => 4 | 22 => 22 | 24 => 35 | 25 => 61 | n => n, fun | n => n⟩
theorem stLay {P : Program} {k : Nat} (L : StP P k) : SlLaysF0.n20 P stRen where
  mixed := L.mixed
  f20 := ⟨_, by kernel_rfl, L.f_insertionSort.trans (congrArg some (show Tryz.f78 = { SlBodyF.n20 stRen with name := Tryz.f78.name } by kernel_rfl))⟩
  t0 := L.t0
  a0 := L.a0
  z0 := L.z0
  v0 := L.v0
  t3 := L.t3
  a3 := L.a3
  z3 := L.z3
  v3 := L.v3
  t4 := L.t4
  a4 := L.a4
  z4 := L.z4
  v4 := L.v4
  t22 := L.tS
  a22 := L.aS
  z22 := L.zS
  v22 := L.vS
  t25 := L.tF
  a25 := L.aF
  z25 := L.zF
  v25 := L.vF
theorem ltOf_ltP {β : Type} {p : β → Int} {cf : β → β → Int} (hcf : ∀ x y, cf x y < 0 ↔ p y < p x) : ltOf cf = ltP p := by
  funext x y
  unfold ltOf ltP
  rw [Bool.eq_iff_iff, decide_eq_true_iff, decide_eq_true_iff]
  exact hcf x y
variable {α : Type} [Inhabited α]
theorem CmpLays.on {P : Program} {enc : α → List Value} {k : Nat} {cf : α → α → Int} {g : Nat} {cb : Array Value} {blk off size : Nat} {w0 W : World} {d : Array α} (hC : CmpLays P g cb enc k cf blk off size w0) (h : SWK enc k w0 blk off d W) (hblk : blk < w0.heap.size) (hs : d.size = size) : CmpLays P g cb enc k cf blk off size W := by
  intro m os dk hd x y
  obtain ⟨n, os0, rfl⟩ := h
  rw [sortWorldK_on enc k w0 blk off n m d dk os0 os hblk (by omega)]
  exact hC _ _ dk hd x y
theorem ins_any {P : Program} {k : Nat} (L : StP P k) (enc : α → List Value) (p : α → Int) (cf : α → α → Int) (hcf : ∀ x y, cf x y < 0 ↔ p y < p x) (g : Nat) (cb : Array Value) (blk off cap : Nat) (d0 : Array α) (w0 : World)
    (eg : ∀ args w, (callFunc g args).run P w = .ok (.enter g args) w) (hcmp : CmpLays P g cb enc k cf blk off d0.size w0) (R : RowK enc k w0 blk off d0) (a b : Nat) (d : Array α) (w : World) (hs : d0.size = d.size) (S : SWK enc k w0 blk off d w) (hab : a ≤ b) (hb : b ≤ d.size) (hsz : d.size < 1152921504606846976) :
    Calls P 78 #[.slice (some ⟨blk, off, none⟩) d.size cap, .int .i64 a, .int .i64 b, .func (.func g) #[] cb] w fun e w' => e = .returned (.tuple #[]) ∧ ∃ d', d'.size = d.size ∧ SWK enc k w0 blk off d' w' ∧ Merged p (arrF d) (arrF d') a b := by
  have hc := AnyQ.insertionSortCmpFunc (stLay L) k L.aE L.zE enc R.hk R.h1 cf g cb blk off cap a b d w eg (by rw [← hs]; exact CmpLays.on hcmp S R.hblk hs.symm) (S.holds R.hblk R.hH hs.symm) (S.lt R.hblk) hab hb (by omega)
  refine hc.mono ?_
  rintro e w' ⟨rfl, n, os, rfl⟩
  rw [ltOf_ltP hcf]
  obtain ⟨m1, m2⟩ := ins_merged (p := p) d a b hab hb
  exact ⟨rfl, _, m1, S.on R.hblk n _ os m1, m2⟩

set_option maxHeartbeats 16000000 in
set_option maxRecDepth 1000000 in
/-- slices.stableCmpFunc: sorted by the falling number, those of one number in their order. -/
theorem stable_any {P : Program} {k : Nat} (L : StP P k) (enc : α → List Value) (p : α → Int) (cf : α → α → Int) (hcf : ∀ x y, cf x y < 0 ↔ p y < p x) (g : Nat) (cb : Array Value) (blk off cap : Nat) (d : Array α) (w : World)
    (eg : ∀ args w, (callFunc g args).run P w = .ok (.enter g args) w) (hcmp : CmpLays P g cb enc k cf blk off d.size w) (R : RowK enc k w blk off d) (hsz : d.size < 1152921504606846976) :
    Calls P 50 #[.slice (some ⟨blk, off, none⟩) d.size cap, .int .i64 d.size, .func (.func g) #[] cb] w fun e w' => e = .returned (.tuple #[]) ∧ ∃ d', d'.size = d.size ∧ SWK enc k w blk off d' w' ∧ DescF p (arrF d') 0 d.size ∧ Alike p (segF (arrF d') 0 d.size) (segF (arrF d) 0 d.size) := by
  have mixed := L.mixed
  have t0 := L.t0; have a0 := L.a0; have z0 := L.z0; have v0 := L.v0
  have t3 := L.t3; have a3 := L.a3; have z3 := L.z3; have v3 := L.v3
  have t4 := L.t4; have a4 := L.a4; have z4 := L.z4; have v4 := L.v4
  have tS := L.tS; have aS := L.aS; have zS := L.zS; have vS := L.vS
  have tF := L.tF; have aF := L.aF; have zF := L.zF; have vF := L.vF
  have aE := L.aE; have zE := L.zE
  have FG := L.f_stable
  have e78 : ∀ args w, (callFunc 78 args).run P w = .ok (.enter 78 args) w := enters_of L.f_insertionSort (by kernel_rfl) rfl
  have e79 : ∀ args w, (callFunc 79 args).run P w = .ok (.enter 79 args) w := enters_of L.f_symMerge (by kernel_rfl) rfl
  obtain ⟨n, hn⟩ : ∃ n, n = d.size := ⟨_, rfl⟩
  have HI : Hid (∀ (a b : Nat) (dk : Array α) (W : World), n = dk.size → SWK enc k w blk off dk W → a ≤ b → b ≤ n → Calls P 78 #[.slice (some ⟨blk, off, none⟩) n cap, .int .i64 a, .int .i64 b, .func (.func g) #[] cb] W fun e w' => e = .returned (.tuple #[]) ∧ ∃ d', d'.size = n ∧ SWK enc k w blk off d' w' ∧ Merged p (arrF dk) (arrF d') a b) := fun a b dk W h1 h2 h3 h4 => by
    have := ins_any L enc p cf hcf g cb blk off cap d w eg hcmp R a b dk W (by omega) h2 h3 (by omega) (by omega)
    rw [← h1] at this; exact this
  have HM : Hid (∀ (a m b : Nat) (dk : Array α) (W : World), n = dk.size → SWK enc k w blk off dk W → a < m → m < b → b ≤ n → DescF p (arrF dk) a m → DescF p (arrF dk) m b → Calls P 79 #[.slice (some ⟨blk, off, none⟩) n cap, .int .i64 a, .int .i64 m, .int .i64 b, .func (.func g) #[] cb] W fun e w' => e = .returned (.tuple #[]) ∧ ∃ d', d'.size = n ∧ SWK enc k w blk off d' w' ∧ Merged p (arrF dk) (arrF d') a b) := fun a m b dk W h1 h2 h3 h4 h5 h6 h7 => by
    have := symMerge_any L enc p cf hcf g cb blk off cap d w eg hcmp R (b - a) a m b dk W (Nat.le_refl _) (by omega) h2 h3 h4 (by omega) (by omega) h6 h7
    rw [← h1] at this; exact this
  have S0 : Aside (SWK enc k w blk off d w) := SWK.start R.hH
  have HD : Hid (n = d.size) := hn
  rw [← hn] at hsz ⊢
  clear hcmp R hcf L hn eg
  go_enter FG, Tryz.ntmps50
  go_wp2
  go_loopg [7, 8] n (fun kx s7 s8 wr => ∃ (q a b : Nat) (dk : Array α), s7 = .int .i64 a ∧ s8 = .int .i64 b ∧ b = a + 20 ∧ a ≤ n ∧ n - a ≤ kx ∧ Hid (a = 20 * q ∧ BlkD p (arrF dk) 20 0 a) ∧ dk.size = n ∧ Aside (SWK enc k w blk off dk wr) ∧ Hid (Alike p (segF (arrF dk) 0 n) (segF (arrF d) 0 n)))
  case atStart => exact ⟨0, 0, 20, d, rfl, rfl, rfl, Nat.zero_le _, Nat.le_refl _, ⟨rfl, blk_none _ _⟩, HD.out.symm, S0, Alike.refl _ _⟩
  case round =>
    clear S0
    obtain ⟨q, a, b, dk, rfl, rfl, hb, han, hkx, HQ, hds, S1, HA⟩ := hrel
    have HBA : Hid (b = a + 20) := hb
    have hba : a < b := by omega
    by_cases hlt : b ≤ n
    · have hltz : (b : Int) ≤ (n : Int) := by omega
      have hc := HI.out a b dk wr hds.symm S1.out (by omega) hlt
      clear hb
      clear S1
      go_wp2_with (go_at_fn 78; refine hc.mono ?_; rintro e w1 ⟨rfl, d', hd', S3, hE⟩)
      go_roundg (n - b)
      case measure => omega
      case rel =>
        obtain ⟨q1, q2⟩ := HQ.out
        have hb := HBA.out
        refine ⟨q + 1, b, b + 20, d', rfl, by go_num, rfl, hlt, Nat.le_refl _, ⟨by omega, ?_⟩, hd', S3, (hE.whole (by omega) hlt).trans HA.out⟩
        rw [q1] at hE q2
        exact blk_more (by omega) q2 (by omega) (by omega) hE rfl
    · have hltz : ¬ (b : Int) ≤ (n : Int) := by omega
      have hc := HI.out a n dk wr hds.symm S1.out han (Nat.le_refl _)
      clear hb S1
      go_wp2_with (go_at_fn 78; refine hc.mono ?_; rintro e w1 ⟨rfl, d', hd', S3, hE⟩)
      have B1 : Hid (BlkD p (arrF d') 20 0 n ∧ Alike p (segF (arrF d') 0 n) (segF (arrF d) 0 n)) := by
        obtain ⟨q1, q2⟩ := HQ.out
        have hb := HBA.out
        refine ⟨?_, (hE.whole han (Nat.le_refl _)).trans HA.out⟩
        rw [q1] at hE q2
        exact blk_more (by omega) q2 (by omega) (by omega) hE rfl
      have S1 : Aside (SWK enc k w blk off d' w1) := S3
      clear S3 hE HQ HA hc
      obtain ⟨W1, hW1⟩ : ∃ W, W = w1 := ⟨_, rfl⟩
      rw [← hW1] at S1 ⊢
      clear hW1
      go_loopg [6, 7, 8, 9] n (fun kx s6 s7 s8 s9 wr => ∃ (s : Nat) (a b m : Value) (dk : Array α), s6 = .int .i64 s ∧ s7 = a ∧ s8 = b ∧ s9 = m ∧ 20 ≤ s ∧ n - s ≤ kx ∧ s ≤ n + n + 20 ∧ dk.size = n ∧ Aside (SWK enc k w blk off dk wr) ∧ Hid (BlkD p (arrF dk) s 0 n ∧ Alike p (segF (arrF dk) 0 n) (segF (arrF d) 0 n)))
      case atStart => exact ⟨20, _, _, _, d', rfl, rfl, rfl, rfl, by omega, by omega, by omega, hd', S1, B1⟩
      case round =>
        clear S1 B1
        obtain ⟨s, va, vb, vm, dk, rfl, rfl, rfl, rfl, hs20, hkx2, hs2, hds2, S1, B1⟩ := hrel
        by_cases hsn : s < n
        · have hsnz : (s : Int) < (n : Int) := by omega
          go_wp2
          obtain ⟨W2, hW2⟩ : ∃ W, W = wr := ⟨_, rfl⟩
          rw [← hW2] at S1 ⊢
          clear hW2
          go_loopg [7, 8] n (fun kx s7 s8 wr2 => ∃ (q a b : Nat) (dj : Array α), s7 = .int .i64 a ∧ s8 = .int .i64 b ∧ b = a + (s + s) ∧ a ≤ n ∧ n - a ≤ kx ∧ Hid (a = (s + s) * q ∧ BlkD p (arrF dj) (s + s) 0 a ∧ BlkD p (arrF dj) s a n) ∧ dj.size = n ∧ Aside (SWK enc k w blk off dj wr2) ∧ Hid (Alike p (segF (arrF dj) 0 n) (segF (arrF d) 0 n)))
          case atStart => exact ⟨0, 0, s + s, dk, rfl, by rw [show ((s + s : Nat) : Int) = 2 * (s : Int) by omega], by omega, Nat.zero_le _, Nat.le_refl _, ⟨by rw [Nat.mul_zero], blk_none _ _, B1.out.1⟩, hds2, S1, B1.out.2⟩
          case round =>
            clear S1 B1
            obtain ⟨q, a, b, dj, rfl, rfl, hb, han, hkx3, HQ, hdj, S1, HA⟩ := hrel
            have HBA : Hid (b = a + (s + s)) := hb
            have eas : ((a + s : Nat) : Int) = (a : Int) + (s : Int) := by omega
            have ess : (s + s) * q = s * (2 * q) := by rw [← Nat.two_mul, Nat.mul_comm 2 s, Nat.mul_assoc]
            have ess2 : (s + s) * q + s = s * (2 * q + 1) := by rw [ess, Nat.mul_add, Nat.mul_one]
            have ESS : Hid ((s + s) * q = s * (2 * q) ∧ (s + s) * q + s = s * (2 * q + 1)) := ⟨ess, ess2⟩
            clear ess ess2
            by_cases hlt : b ≤ n
            · have hltz : (b : Int) ≤ (n : Int) := by omega
              have hc := HM.out a (a + s) b dj wr hdj.symm S1.out (by omega) (by omega) hlt (by
                obtain ⟨q1, q2, q3⟩ := HQ.out
                have e1 := ESS.out.1
                rw [← q1] at e1
                have := blk_desc q3 (q := 2 * q) (by omega) (b := a + s) (by omega) (by omega)
                rw [← e1] at this; exact this) (by
                obtain ⟨q1, q2, q3⟩ := HQ.out
                have e1 := ESS.out.2
                rw [← q1] at e1
                have := blk_desc q3 (q := 2 * q + 1) (by omega) (b := b) (by omega) (by omega)
                rw [← e1] at this; exact this)
              rw [eas] at hc
              clear hb S1
              go_wp2_with (go_at_fn 79; refine hc.mono ?_; rintro e w1 ⟨rfl, d', hd', S3, hE⟩)
              go_roundg (n - b)
              case measure => have := HBA.out; omega
              case rel =>
                obtain ⟨q1, q2, q3⟩ := HQ.out
                have hb := HBA.out
                refine ⟨q + 1, b, b + (s + s), d', rfl, by rw [show ((b + (s + s) : Nat) : Int) = (b : Int) + 2 * (s : Int) by omega], rfl, hlt, Nat.le_refl _, ⟨by rw [Nat.mul_add, Nat.mul_one, ← q1]; exact hb, ?_, blk_behind q3 (by omega) hE⟩, hd', S3, (hE.whole (by omega) hlt).trans HA.out⟩
                rw [q1] at hE q2
                exact blk_more (by omega) q2 (by omega) (by omega) hE rfl
            · have hltz : ¬ (b : Int) ≤ (n : Int) := by omega
              by_cases hm : a + s < n
              · have hmz : (a : Int) + (s : Int) < (n : Int) := by omega
                have hc := HM.out a (a + s) n dj wr hdj.symm S1.out (by omega) hm (Nat.le_refl _) (by
                  obtain ⟨q1, q2, q3⟩ := HQ.out
                  have e1 := ESS.out.1
                  rw [← q1] at e1
                  have := blk_desc q3 (q := 2 * q) (by omega) (b := a + s) (by omega) (by omega)
                  rw [← e1] at this; exact this) (by
                  obtain ⟨q1, q2, q3⟩ := HQ.out
                  have e1 := ESS.out.2
                  rw [← q1] at e1
                  have := blk_desc q3 (q := 2 * q + 1) (by omega) (b := n) (by omega) (by omega)
                  rw [← e1] at this; exact this)
                rw [eas] at hc
                clear hb S1
                go_wp2_with (go_at_fn 79; refine hc.mono ?_; rintro e w1 ⟨rfl, d', hd', S3, hE⟩)
                go_roundg (n - (s + s))
                case measure => omega
                case rel =>
                  obtain ⟨q1, q2, q3⟩ := HQ.out
                  have hb := HBA.out
                  refine ⟨s + s, _, _, _, d', by rw [show ((s + s : Nat) : Int) = (s : Int) * 2 by omega], rfl, rfl, rfl, by omega, Nat.le_refl _, by omega, hd', S3, ⟨?_, (hE.whole han (Nat.le_refl _)).trans HA.out⟩⟩
                  rw [q1] at hE q2
                  exact blk_more (by omega) q2 (by omega) (by omega) hE rfl
              · have hmz : ¬ (a : Int) + (s : Int) < (n : Int) := by omega
                have M : Hid (BlkD p (arrF dj) (s + s) 0 n) := by
                  obtain ⟨q1, q2, q3⟩ := HQ.out
                  have e1 := ESS.out.1
                  rw [← q1] at e1
                  have hD := blk_desc q3 (q := 2 * q) (by omega) (b := n) (by omega) (Nat.le_refl _)
                  rw [← e1] at hD
                  have hE := Merged.refl hD
                  rw [q1] at hE q2
                  exact blk_more (by omega) q2 (by omega) (by omega) hE rfl
                clear hb
                go_wp2
                go_roundg (n - (s + s))
                case measure => omega
                case rel => exact ⟨s + s, _, _, _, dj, by rw [show ((s + s : Nat) : Int) = (s : Int) * 2 by omega], rfl, rfl, rfl, by omega, Nat.le_refl _, by omega, hdj, S1, ⟨M.out, HA.out⟩⟩
        · have hsnz : ¬ (s : Int) < (n : Int) := by omega
          go_wp2
          go_end0
          exact ⟨rfl, dk, hds2, S1.out, blk_all B1.out.1 (by omega), B1.out.2⟩
end Go.Proofs.YtnbklmmampdbfaaGreatDoor
namespace Go.Proofs.YtnbklmmampdbfaaGreatDoor
open Go Go.Shelf Go.RowKit Go.Lib Go.Sort
set_option maxRecDepth 20000

section
variable {α : Type} [Inhabited α]
theorem segF_all (d : Array α) : segF (arrF d) 0 d.size = d.toList := by
  apply List.ext_getElem?
  intro i
  unfold segF arrF
  by_cases hi : i < d.size
  · simp [hi]
  · simp [hi]
theorem gcells_len {β : Type} {enc : β → Array Value} {k : Nat} (hk : ∀ x, (enc x).size = k) (C : List β) : (gcells enc C).length = C.length * k := by
  induction C with
  | nil => simp [gcells]
  | cons c C ih => rw [gcells_cons, List.length_append, ih, Array.length_toList, hk, List.length_cons, Nat.add_mul, Nat.one_mul, Nat.add_comm]
theorem gcells_get {enc : α → Array Value} {k : Nat} (hk : ∀ x, (enc x).size = k) (C : List α) (t : Nat) (ht : t < C.length * k) : (gcells enc C)[t]? = some ((enc C.toArray[t / k]!).toList[t % k]!) := by
  have k0 : 0 < k := by
    rcases Nat.eq_zero_or_pos k with h | h
    · subst h; simp at ht
    · exact h
  have hi : t / k < C.length := (Nat.div_lt_iff_lt_mul k0).2 ht
  have hj : t % k < k := Nat.mod_lt _ k0
  have := gcells_at enc k C (fun c _ => hk c) (t / k) hi (t % k) hj
  rw [Nat.div_add_mod] at this
  rw [this]
  have e : C.toArray[t / k]! = C[t / k] := by simp [hi]
  rw [e]
  simp [hk, hj]
/-- A row of one's own, as the sort has it. -/
theorem holds_of_own {enc : α → Array Value} {k : Nat} (hk : ∀ x, (enc x).size = k) {w : World} {g : Nat} {cur : Array Value} {ty : TypeId} {C : List α} (hg : w.heap[g]? = some (.cells cur ty (0, 0))) (hc : cur.toList.take (C.length * k) = gcells enc C) :
    HoldsK (fun x => (enc x).toList) k w g 0 C.toArray := by
  intro t ht
  rw [size_flatK] at ht
  have ht' : t < C.length * k := by simpa using ht
  rw [get_flatK _ _ _ _ ht]
  refine ⟨?_, ?_⟩
  · rw [Nat.zero_add, cell_of_row w g t cur ty _ hg]
    have h1 := gcells_get hk C t ht'
    rw [← hc, List.getElem?_take_of_lt ht', Array.getElem?_toList] at h1
    exact h1
  · simp [World.frozen?, hg]
theorem SWK.grownBy {enc : α → List Value} {k : Nat} {w W : World} {g off : Nat} {d : Array α} (h : SWK enc k w g off d W) : w.grownBy W (some g) := by
  obtain ⟨n, os, rfl⟩ := h
  refine ⟨rfl, rfl, rfl, ?_, fun j hj hne => ?_⟩
  · unfold sortWorldK
    rw [size_grow, size_putRowK]
    exact Nat.le_add_right _ _
  · unfold sortWorldK grow putRowK putRow mapBlock Sort.ahead
    have : g ≠ j := fun e => hne (by rw [e])
    rw [Array.getElem?_append_left (by simpa using hj), Array.getElem?_modify, if_neg this]
/-- .. and as it is then. -/
theorem own_of_swk {enc : α → Array Value} {k : Nat} (hk : ∀ x, (enc x).size = k) {w W : World} {g : Nat} {cur : Array Value} {ty : TypeId} {d : Array α} (h : SWK (fun x => (enc x).toList) k w g 0 d W) (hg : w.heap[g]? = some (.cells cur ty (0, 0))) (hc : d.size * k ≤ cur.size) :
    ∃ cur', W.heap[g]? = some (.cells cur' ty (0, 0)) ∧ cur'.size = cur.size ∧ cur'.toList.take (d.size * k) = gcells enc d.toList := by
  obtain ⟨n, os, rfl⟩ := h
  have hlt : g < w.heap.size := (Array.getElem?_eq_some_iff.1 hg).1
  refine ⟨putCells id 0 (flatK (fun x => (enc x).toList) k d) cur, ?_, ?_, ?_⟩
  · unfold sortWorldK grow putRowK putRow mapBlock Sort.ahead
    simp only
    rw [Array.getElem?_append_left (by simpa using hlt), Array.getElem?_modify, if_pos rfl, hg]
    rfl
  · simp [putCells]
  · apply List.ext_getElem?
    intro t
    by_cases ht : t < d.size * k
    · rw [List.getElem?_take_of_lt ht]
      have := gcells_get hk d.toList t (by simpa using ht)
      rw [this, Array.getElem?_toList]
      unfold putCells
      rw [Array.getElem?_mapIdx, Array.getElem?_eq_getElem (by omega), Option.map_some, if_pos (by rw [size_flatK]; omega), Nat.sub_zero, get_flatK _ _ _ _ ht]
      simp
    · rw [List.getElem?_take_eq_none (by omega), List.getElem?_eq_none (by rw [gcells_len hk]; simp; omega)]
end
/-- A slice's elements appended to one's own row, and where the new row lies. -/
theorem wl_appendL {E : El} (H : E.Ok) {α : Type} (enc : α → Array Value) (hE : ∀ x, Fits E (enc x)) {ops : Array Oper} {rest : List Oper} {o : Oper} {a : Act} {w : World} {Q : Exit → Act → World → Prop} (hgd : o.guard = none) (s x : Operand) (ho : o.op = .call { callee := .builtin .append, args := #[s, x], argTypes := #[E.slice, E.slice] })
    (base base' : Nat) (v u : Value) (C D : List α) (hs : a.eval s = v) (hown : w.ownsRow base E.elem E.size v C.length (gcells enc C)) (hx : a.eval x = u) (hu : w.ownsRow base' E.elem E.size u D.length (gcells enc D))
    (hn : C.length + D.length ≤ 1000000) (hbase : base ≤ w.heap.size)
    (h : ∀ v' w', w'.ownsRow base E.elem E.size v' (C ++ D).length (gcells enc (C ++ D)) → w.grownBy w' v.ownBlock → (v'.ownBlock = v.ownBlock ∨ v'.ownBlock = some w.heap.size) → wpList Tryz.prog ops Q rest (a.put o.dst v') w') : wpList Tryz.prog ops Q (o :: rest) a w := by
  obtain ⟨i0, hi, hz0, hz1, hz2⟩ := H.info
  have hb := H.hb
  have hu0 := hu
  have hl : (gcells enc D).length = D.length * E.size := hu.1
  obtain ⟨_, ⟨rfl, h0⟩ | ⟨g, cap, cur, rfl, hB, hcur, h1, h2, h3, h4⟩⟩ := hu
  · have hD0 : D = [] := List.eq_nil_of_length_eq_zero h0
    subst hD0
    refine wpList_append_own_none hgd s x E.slice ho base E.elem i0 E.size H.hs hi v _ _ hs hown hx (h v w ?_ ?_ (.inl rfl))
    · rw [List.append_nil]; exact hown
    · exact ⟨rfl, rfl, rfl, Nat.le_refl _, fun k _ _ => rfl⟩
  · refine wpList_append_own_at w hgd s x E.slice ho base E.elem i0 (.agg E.zero) E.size E.bytes H.hs hi hz0 hz1 hz2 (by simpa [Value.cells] using H.hz) H.hp v _ _ hs hown ⟨g, 0, none⟩ D.length cap (gcells enc D) hx hl (fun j y hy => ?_) (fun y hy => ?_) (by unfold maxLen; omega) ?_ hbase ?_
    · have hj : j < D.length * E.size := by rw [← hl]; exact (List.getElem?_eq_some_iff.1 hy).1
      have hadd : (⟨g, 0, none⟩ : Addr).add j = ⟨g, j, none⟩ := by unfold Addr.add; split <;> simp_all
      rw [hadd, cell_of_row w g j _ _ _ hcur, ← hy, ← h4, List.getElem?_take_of_lt hj, Array.getElem?_toList]
    · unfold gcells at hy
      obtain ⟨c, _, hc⟩ := List.mem_flatMap.1 hy
      exact (Array.all_eq_true_iff_forall_mem.1 (hE c).2) y (by simpa using hc)
    · exact Nat.le_trans (Nat.mul_le_mul (show C.length + D.length ≤ 1000000 by omega) hb) (by decide)
    · intro v' w' h5 h6 _ h7
      refine h v' w' ?_ h6 h7
      rw [List.length_append, gcells_append]; exact h5
end Go.Proofs.YtnbklmmampdbfaaGreatDoor
namespace Go.Proofs.YtnbklmmampdbfaaGreatDoor
open Go.ChangeShapes Go.WideShapes Go.ChangeAt Go.WideMaps Go.WideElems Go.RowKit
set_option maxRecDepth 20000

theorem ownK : ownKnob Tryz.prog.godebug = none := by kernel_rfl
theorem laidK : laidOutB Tryz.prog = true := by kernel_rfl
end Go.Proofs.YtnbklmmampdbfaaGreatDoor
namespace Go.Proofs.YtnbklmmampdbfaaGreatDoor
open Go.ChangeShapes Go.WideShapes Go.ChangeAt Go.WideMaps Go.WideElems Go.RowKit
set_option maxRecDepth 20000

theorem El.Ok.cellsOf {E : El} (H : E.Ok) : Tryz.prog.cellsOf E.elem = E.size := by
  obtain ⟨i, h1, _, h2, _⟩ := H.info
  simp [Program.cellsOf, h1, h2]

/-- A slice that comes in, of elements that are opened one by one. -/
theorem open_any {E : El} (HE : E.Ok) {α : Type} [Inhabited α] (row : α → Array Value) (hrow : ∀ a, (row a).size = E.size) (Q : α → Prop) {H : Type} {enc : TypeId × Value → H} {W : World} {base : Nat} {spare : Nat → Bool} {held : Bool}
    (elem : ∀ (fuel : Nat) (cs : List Value) (x : DataW H × List MemPlace), cs.length = E.size → DataW.trod enc Tryz.prog W base spare held fuel E.elem cs = some x → ∃ a, cs = (row a).toList ∧ Q a)
    {fuel : Nat} {v : Value} {x : DataW H × List MemPlace} (hf : DataW.trod enc Tryz.prog W base spare held fuel E.slice [v] = some x) : ∃ C : List α, GSl E row W v C ∧ ∀ c ∈ C, Q c := by
  have hp := HE.hp
  rcases Deep.open_slice HE.hs hf with ⟨h0, _⟩ | ⟨a, len, cap, m, n, D, Pl, h0, hb, hl, hm, hmm, _, hx⟩
  · obtain rfl : v = .slice none 0 0 := by simpa using h0
    exact ⟨[], gsl_nil E row W, fun c hc => absurd hc (by simp)⟩
  · obtain rfl : v = .slice (some a) len cap := by simpa using h0
    rw [HE.cellsOf] at hx
    have hlm : len ≤ m := by rw [hmm]; split <;> omega
    have each : ∀ i, i < len → ∃ c : α, Q c ∧ ∀ j, j < E.size → W.cell? (a.add (i * E.size + j)) = (row c)[j]? := fun i hi => by
      obtain ⟨cs', h1, h2⟩ := hx i (by omega)
      obtain ⟨_, hlen, hcell⟩ := World.cells?_some h1
      obtain ⟨c, h3, h4⟩ := elem _ cs' _ hlen h2
      refine ⟨c, h4, fun j hj => ?_⟩
      have := hcell j hj
      rw [Deep.add_add] at this
      rw [this, h3]
      simp
    obtain ⟨f, hf⟩ := Deep.choose_lt each
    refine ⟨(List.range len).map f, ⟨some a, cap, by simp, by simpa using hl, hm, fun i hi => ?_⟩, fun c hc => ?_⟩
    · have hi' : i < len := by simpa using hi
      have h1 := (hf i hi').2
      obtain ⟨g, off, sp⟩ := a
      have hj : ∀ j, j < E.size → ∃ cur t fr, W.heap[g]? = some (.cells cur t fr) ∧ cur[off + i * E.size + j]? = (row (f i))[j]? ∧ (i * E.size + j = 0 → sp = none) := fun j hj => by
        have h2 := h1 j hj
        obtain ⟨y, hy⟩ : ∃ y, (row (f i))[j]? = some y := ⟨_, Array.getElem?_eq_getElem (by rw [hrow]; exact hj)⟩
        rw [hy] at h2 ⊢
        unfold World.cell? at h2
        split at h2
        · rename_i cur t fr hq
          have hbk : (Addr.add ⟨g, off, sp⟩ (i * E.size + j)).block = g := by unfold Addr.add; split <;> rfl
          have hof : (Addr.add ⟨g, off, sp⟩ (i * E.size + j)).off = off + i * E.size + j := by unfold Addr.add; split <;> simp_all [Nat.add_assoc]
          rw [hbk] at hq
          rw [hof] at h2
          split at h2
          · cases h2
          · rename_i hsp
            refine ⟨cur, t, fr, hq, h2, fun h0 => ?_⟩
            unfold Addr.add at hsp
            rw [if_pos h0] at hsp
            simpa using hsp
        · cases h2
      have hsp : sp = none := by
        obtain ⟨cur, t, fr, h2, h3, h4⟩ := hj 0 hp
        by_cases hi0 : i = 0
        · exact h4 (by rw [hi0]; simp)
        · have h5 := (hf 0 (by omega)).2 0 hp
          obtain ⟨y, hy⟩ : ∃ y, (row (f 0))[0]? = some y := ⟨_, Array.getElem?_eq_getElem (by rw [hrow]; exact hp)⟩
          rw [hy] at h5
          unfold World.cell? at h5
          split at h5
          · split at h5
            · cases h5
            · rename_i hs
              simpa [Addr.add] using hs
          · cases h5
      subst hsp
      obtain ⟨cur, t, fr, h2, _, _⟩ := hj 0 hp
      refine ⟨g, off, cur, t, fr, rfl, h2, fun j hjl => ?_⟩
      obtain ⟨cur', t', fr', h3, h4, _⟩ := hj j hjl
      rw [h2] at h3
      obtain ⟨rfl, rfl, rfl⟩ : cur = cur' ∧ t = t' ∧ fr = fr' := by simpa using h3
      rw [h4]
      simp
    · rw [List.mem_map] at hc
      obtain ⟨i, hi, rfl⟩ := hc
      exact (hf i (by simpa using hi)).1

/-- A list whose elements hold lists of their own: each row with the value of its inner list. -/
def NSl {α : Type} (E : El) (row : α → Value → Array Value) (R : World → α → Value → Prop) (w : World) (v : Value) (C : List α) : Prop :=
  ∃ P : List (α × Value), P.map (·.1) = C ∧ GSl E (fun p => row p.1 p.2) w v P ∧ ∀ p ∈ P, R w p.1 p.2
theorem NSl.below {α : Type} {E : El} {row : α → Value → Array Value} {R : World → α → Value → Prop} (hR : ∀ w w' a v, Below w.heap.size w w' → R w a v → R w' a v) {w w' : World} {v : Value} {C : List α} (h : NSl E row R w v C) (hb : Below w.heap.size w w') : NSl E row R w' v C := by
  obtain ⟨P, h1, h2, h3⟩ := h
  exact ⟨P, h1, h2.below hb, fun p hp => hR w w' _ _ hb (h3 p hp)⟩
theorem NSl.slice {α : Type} {E : El} {row : α → Value → Array Value} {R : World → α → Value → Prop} {w : World} {v : Value} {C : List α} (h : NSl E row R w v C) : ∃ (o : Option Addr) (cap : Nat), v = .slice o C.length cap ∧ C.length ≤ cap ∧ cap ≤ maxLen := by
  obtain ⟨P, h1, h2, _⟩ := h
  obtain ⟨o, cap, e, h4, h5⟩ := h2.slice
  have hl : P.length = C.length := by rw [← h1, List.length_map]
  rw [hl] at e h4
  exact ⟨o, cap, e, h4, h5⟩
theorem NSl.at {α : Type} {E : El} {row : α → Value → Array Value} {R : World → α → Value → Prop} {w : World} {o : Option Addr} {n cap : Nat} {C : List α} (h : NSl E row R w (.slice o n cap) C) (k : Nat) (hk : k < n) :
    ∃ g off cur t fr, ∃ (c : α) (u : Value), o = some ⟨g, off, none⟩ ∧ w.heap[g]? = some (.cells cur t fr) ∧ (∀ j, j < E.size → cur[off + k * E.size + j]? = (row c u)[j]?) ∧ C[k]? = some c ∧ R w c u := by
  obtain ⟨P, h1, h2, h3⟩ := h
  obtain ⟨g, off, cur, t, fr, c, e1, e2, e3, e4⟩ := h2.at k hk
  exact ⟨g, off, cur, t, fr, c.1, c.2, e1, e2, e3, by rw [← h1, List.getElem?_map, e4]; rfl, h3 c (List.mem_of_getElem? e4)⟩
/-- The same of one's own row. -/
def NOwn {α : Type} (E : El) (row : α → Value → Array Value) (R : World → α → Value → Prop) (w : World) (B : Nat) (v : Value) (C : List α) : Prop :=
  ∃ P : List (α × Value), P.map (·.1) = C ∧ w.ownsRow B E.elem E.size v P.length (gcells (fun p : α × Value => row p.1 p.2) P) ∧ ∀ p ∈ P, R w p.1 p.2
theorem NOwn.sl {α : Type} {E : El} {row : α → Value → Array Value} {R : World → α → Value → Prop} (hrow : ∀ a u, (row a u).size = E.size) {w : World} {B : Nat} {v : Value} {C : List α} (h : NOwn E row R w B v C) : NSl E row R w v C := by
  obtain ⟨P, h1, h2, h3⟩ := h
  exact ⟨P, h1, gsl_of h2 fun c _ => hrow c.1 c.2, h3⟩
theorem NOwn.nil {α : Type} (E : El) (row : α → Value → Array Value) (R : World → α → Value → Prop) (w : World) (B : Nat) : NOwn E row R w B (.slice none 0 0) [] :=
  ⟨[], rfl, World.ownsRow_nil _ _ _ _, fun p hp => by simp at hp⟩
theorem NOwn.below {α : Type} {E : El} {row : α → Value → Array Value} {R : World → α → Value → Prop} (hR : ∀ w w' a v, Below w.heap.size w w' → R w a v → R w' a v) {w w' : World} {B : Nat} {v : Value} {C : List α} (h : NOwn E row R w B v C) (hb : Below w.heap.size w w') : NOwn E row R w' B v C := by
  obtain ⟨P, h1, h2, h3⟩ := h
  exact ⟨P, h1, gown_below h2 hb, fun p hp => hR w w' _ _ hb (h3 p hp)⟩
/-- Rows of two types lie apart. -/
theorem own_apart {w : World} {B B' : Nat} {e e' : TypeId} {s s' : Nat} {v u : Value} {n m : Nat} {xs ys : List Value} (h : w.ownsRow B e s v n xs) (h' : w.ownsRow B' e' s' u m ys) (hne : e ≠ e') : ∀ g, v.ownBlock = some g → u.ownBlock ≠ some g := by
  intro g hg hu
  obtain ⟨_, ⟨rfl, _⟩ | ⟨g1, cap, cur, rfl, _, h1, _⟩⟩ := h
  · simp [Value.ownBlock] at hg
  · obtain ⟨_, ⟨rfl, _⟩ | ⟨g2, cap', cur', rfl, _, h2, _⟩⟩ := h'
    · simp [Value.ownBlock] at hu
    · simp only [Value.ownBlock, Option.some.injEq] at hg hu
      subst hg
      subst hu
      rw [h1] at h2
      simp only [Option.some.injEq, Obj.cells.injEq] at h2
      exact hne h2.2.1
/-- A row stays as it is while another one grows. -/
theorem own_grown {w w' : World} {b : Option Nat} (hgr : w.grownBy w' b) {B : Nat} {e : TypeId} {s : Nat} {u : Value} {m : Nat} {ys : List Value} (h : w.ownsRow B e s u m ys) (hne : ∀ g, b = some g → u.ownBlock ≠ some g) : w'.ownsRow B e s u m ys := by
  obtain ⟨h0, h1 | ⟨g, cap, cur, rfl, hB, hcur, h3⟩⟩ := h
  · exact ⟨h0, .inl h1⟩
  · refine ⟨h0, .inr ⟨g, cap, cur, rfl, hB, ?_, h3⟩⟩
    rw [hgr.block g (Array.getElem?_eq_some_iff.1 hcur).1 (fun hq => hne g hq.symm rfl)]
    exact hcur
theorem NOwn.grown {α : Type} {E : El} {row : α → Value → Array Value} {R : World → α → Value → Prop} {w w' : World} {b : Option Nat} (hgr : w.grownBy w' b) {B : Nat} {v : Value} {C : List α} (h : NOwn E row R w B v C) (hne : ∀ g, b = some g → v.ownBlock ≠ some g) (hR : ∀ a u, R w a u → R w' a u) : NOwn E row R w' B v C := by
  obtain ⟨P, h1, h2, h3⟩ := h
  exact ⟨P, h1, own_grown hgr h2 hne, fun p hp => hR _ _ (h3 p hp)⟩
theorem NOwn.snoc {α : Type} {E : El} {row : α → Value → Array Value} {R : World → α → Value → Prop} {w' : World} {B : Nat} {v' : Value} {C : List α} {c : α} {u : Value} {P : List (α × Value)} (h1 : P.map (·.1) = C) (h2 : w'.ownsRow B E.elem E.size v' (P ++ [(c, u)]).length (gcells (fun p : α × Value => row p.1 p.2) (P ++ [(c, u)])))
    (h3 : ∀ p ∈ P, R w' p.1 p.2) (h4 : R w' c u) : NOwn E row R w' B v' (C ++ [c]) :=
  ⟨P ++ [(c, u)], by rw [List.map_append, h1]; rfl, h2, fun p hp => by
    rcases List.mem_append.1 hp with hp | hp
    · exact h3 p hp
    · obtain rfl : p = (c, u) := by simpa using hp
      exact h4⟩
end Go.Proofs.YtnbklmmampdbfaaGreatDoor
namespace Go.Proofs.YtnbklmmampdbfaaGreatDoor
open Go.ChangeShapes Go.WideShapes Go.ChangeAt Go.WideMaps Go.WideElems Go.RowKit
set_option maxRecDepth 20000

theorem take_one {cs : List Value} {i : Nat} {v : Value} (h : (cs.drop i).take 1 = [v]) : cs[i]? = some v := by
  have := congrArg List.head? h
  rw [List.head?_take, if_neg (by decide), List.head?_drop] at this
  simpa using this
/-- The one cell of a field. -/
theorem field_int {P : Program} {H : Type} {enc : TypeId × Value → H} {W : World} {base : Nat} {spare : Nat → Bool} {held : Bool} {n : Nat} {t : TypeId} {cs : List Value} {y : Option (DataW H × List MemPlace)} {i : Nat} {k : IntKind} (ht : P.underlying t = some (.int k)) (hc : P.cellsOf t = 1)
    (h : DataW.trod enc P W base spare held n t ((cs.drop i).take (P.cellsOf t)) = y) (hy : y.isSome = true) : ∃ z : Int, cs[i]? = some (.int k z) ∧ (Lit.int k z).wf = true := by
  obtain ⟨y', rfl⟩ := Option.isSome_iff_exists.1 hy
  obtain ⟨z, h1, _, h3⟩ := DataW.trod_int ht h
  rw [hc] at h1
  exact ⟨z, take_one h1, h3⟩
theorem field_bool {P : Program} {H : Type} {enc : TypeId × Value → H} {W : World} {base : Nat} {spare : Nat → Bool} {held : Bool} {n : Nat} {t : TypeId} {cs : List Value} {y : Option (DataW H × List MemPlace)} {i : Nat} (ht : P.underlying t = some .bool) (hc : P.cellsOf t = 1)
    (h : DataW.trod enc P W base spare held n t ((cs.drop i).take (P.cellsOf t)) = y) (hy : y.isSome = true) : ∃ b : Bool, cs[i]? = some (.bool b) := by
  obtain ⟨y', rfl⟩ := Option.isSome_iff_exists.1 hy
  obtain ⟨b, h1, _⟩ := DataW.trod_bool ht h
  rw [hc] at h1
  exact ⟨b, take_one h1⟩
theorem field_string {P : Program} {H : Type} {enc : TypeId × Value → H} {W : World} {base : Nat} {spare : Nat → Bool} {held : Bool} {n : Nat} {t : TypeId} {cs : List Value} {y : Option (DataW H × List MemPlace)} {i : Nat} (ht : P.underlying t = some .string) (hc : P.cellsOf t = 1)
    (h : DataW.trod enc P W base spare held n t ((cs.drop i).take (P.cellsOf t)) = y) (hy : y.isSome = true) : ∃ s : ByteArray, cs[i]? = some (.string s) ∧ s.size ≤ maxLen := by
  obtain ⟨y', rfl⟩ := Option.isSome_iff_exists.1 hy
  obtain ⟨s, h1, _, h3⟩ := DataW.trod_string ht h
  rw [hc] at h1
  exact ⟨s, take_one h1, h3⟩
/-- A field that is a slice: its cell, and what is read of it. -/
theorem field_slice {P : Program} {H : Type} {enc : TypeId × Value → H} {W : World} {base : Nat} {spare : Nat → Bool} {held : Bool} {n : Nat} {t e : TypeId} {cs : List Value} {y : Option (DataW H × List MemPlace)} {i : Nat} (ht : P.underlying t = some (.slice e)) (hc : P.cellsOf t = 1)
    (h : DataW.trod enc P W base spare held n t ((cs.drop i).take (P.cellsOf t)) = y) (hy : y.isSome = true) : ∃ (v : Value) (x : DataW H × List MemPlace), cs[i]? = some v ∧ DataW.trod enc P W base spare held n t [v] = some x := by
  obtain ⟨y', rfl⟩ := Option.isSome_iff_exists.1 hy
  have hv : ∃ v, (cs.drop i).take (P.cellsOf t) = [v] := by
    rcases DataW.trod_slice ht h with ⟨e1, _⟩ | ⟨a, len, cap, _, _, _, _, e1, _⟩
    · exact ⟨_, e1⟩
    · exact ⟨_, e1⟩
  obtain ⟨v, hv⟩ := hv
  rw [hv] at h
  rw [hc] at hv
  exact ⟨v, y', take_one hv, h⟩
theorem xs_some {α : Type} {xs : List α} {n i : Nat} (h : xs.length = n) (hi : i < n) : (xs[i]?).isSome = true := by
  rw [List.getElem?_eq_getElem (by omega)]; rfl

/-- A token that comes in. -/
theorem tok_of {H : Type} {enc : TypeId × Value → H} {W : World} {base : Nat} {spare : Nat → Bool} {held : Bool} (fuel : Nat) (cs : List Value) (x : DataW H × List MemPlace) (hl : cs.length = 4)
    (h : DataW.trod enc Tryz.prog W base spare held fuel 117 cs = some x) : ∃ c : Int × Int × ByteArray × Int, cs = (tv c.1 c.2.1 c.2.2.1 c.2.2.2).toList ∧ c.2.2.1.size ≤ maxLen := by
  have c3 : Tryz.prog.cellsOf 3 = 1 := by kernel_rfl
  have c9 : Tryz.prog.cellsOf 9 = 1 := by kernel_rfl
  obtain ⟨xs, n, _, _, _, hxl, hf⟩ := DataW.trod_struct Tryz.underlying117 h
  obtain ⟨k, h0, _⟩ := field_int Tryz.underlying3 c3 (hf 0 _ rfl) (xs_some hxl (by decide))
  obtain ⟨p, h1, _⟩ := field_int Tryz.underlying3 c3 (hf 1 _ rfl) (xs_some hxl (by decide))
  obtain ⟨t, h2, hs⟩ := field_string Tryz.underlying9 c9 (hf 2 _ rfl) (xs_some hxl (by decide))
  obtain ⟨m, h3, _⟩ := field_int Tryz.underlying3 c3 (hf 3 _ rfl) (xs_some hxl (by decide))
  refine ⟨(k, p, t, m), ?_, hs⟩
  match cs, hl with
  | [a, b, c, d], _ =>
    obtain rfl : a = .int .i64 k := by simpa using h0
    obtain rfl : b = .int .i64 p := by simpa using h1
    obtain rfl : c = .string t := by simpa using h2
    obtain rfl : d = .int .i64 m := by simpa using h3
    rfl
end Go.Proofs.YtnbklmmampdbfaaGreatDoor
namespace Go.Proofs.YtnbklmmampdbfaaGreatDoor
open Go
set_option maxRecDepth 20000

/-- A number in a text, and where it begins. -/
structure Fig where
  n : Int
  pos : Int
/-- A word and its numbers. -/
structure Cla where
  word : List UInt8
  pos : Int
  nums : List Fig
  slash : Bool
  dash : Bool
/-- A line. -/
structure Raw where
  pos : Int
  dflt : Bool
  prio : Fig
  clauses : List Cla
  drop : Bool
  port : Fig

def wSrc : List UInt8 := [115, 114, 99]
def wDst : List UInt8 := [100, 115, 116]
def wSport : List UInt8 := [115, 112, 111, 114, 116]
def wDport : List UInt8 := [100, 112, 111, 114, 116]
def wProto : List UInt8 := [112, 114, 111, 116, 111]
def wDefault : List UInt8 := [100, 101, 102, 97, 117, 108, 116]
def wDrop : List UInt8 := [100, 114, 111, 112]
def wPort : List UInt8 := [112, 111, 114, 116]
def isAddrW (w : List UInt8) : Bool := w == wSrc || w == wDst
def isPortW (w : List UInt8) : Bool := w == wSport || w == wDport

abbrev Res (α : Type) := Except (Nat × Nat) α

/-- Where the token at hand begins, or the text ends. -/
def posOf (E : Nat) : List Tok → Nat
  | [] => E
  | t :: _ => t.pos
/-- A token of a kind. -/
def takeK (E k : Nat) : List Tok → Res (Tok × List Tok)
  | [] => .error (8, E)
  | t :: T => if t.kind = k then .ok (t, T) else .error (8, t.pos)
/-- A number. -/
def takeF (E : Nat) (T : List Tok) : Res (Fig × List Tok) := (takeK E 2 T).map fun x => (⟨(x.1.num : Int), (x.1.pos : Int)⟩, x.2)
/-- So many numbers more, with a Dot ahead of each. -/
def takeD (E : Nat) : Nat → List Tok → Res (List Fig × List Tok)
  | 0, T => .ok ([], T)
  | n + 1, T => (takeK E 3 T).bind fun x => (takeF E x.2).bind fun y => (takeD E n y.2).map fun z => (y.1 :: z.1, z.2)
/-- Perhaps a sign and a number. -/
def takeO (E k : Nat) : List Tok → Res (Option Fig × List Tok)
  | [] => .ok (none, [])
  | t :: T => if t.kind = k then (takeF E T).map fun y => (some y.1, y.2) else .ok (none, t :: T)
/-- A clause, its word being the token at hand. -/
def takeC (E : Nat) (had : List Cla) (t : Tok) (T : List Tok) : Res (Cla × List Tok) :=
  if !(isAddrW t.text) && !(isPortW t.text) && !(t.text == wProto) then .error (8, t.pos)
  else if had.any (fun c => c.word == t.text) then .error (9, t.pos)
  else (takeF E T).bind fun x =>
    if isAddrW t.text then (takeD E 3 x.2).bind fun y => (takeO E 4 y.2).map fun z => (⟨t.text, (t.pos : Int), x.1 :: y.1 ++ z.1.toList, z.1.isSome, false⟩, z.2)
    else if isPortW t.text then (takeO E 5 x.2).map fun z => (⟨t.text, (t.pos : Int), x.1 :: z.1.toList, false, z.1.isSome⟩, z.2)
    else .ok (⟨t.text, (t.pos : Int), [x.1], false, false⟩, x.2)
/-- Clauses, as many as there are (so many at most). -/
def takeCs (E : Nat) : Nat → List Cla → List Tok → Res (List Cla × List Tok)
  | 0, had, T => .ok (had, T)
  | _ + 1, had, [] => .ok (had, [])
  | f + 1, had, t :: T => if t.kind = 1 then (takeC E had t T).bind fun x => takeCs E f (had ++ [x.1]) x.2 else .ok (had, t :: T)
/-- What is done: the word 'drop', or 'port' and a number. -/
def takeA (E : Nat) : List Tok → Res ((Bool × Fig) × List Tok)
  | [] => .error (8, E)
  | t :: T => if t.kind = 1 ∧ t.text = wDrop then .ok ((true, ⟨0, 0⟩), T) else if t.kind = 1 ∧ t.text = wPort then (takeF E T).map fun x => ((false, x.1), x.2) else .error (8, t.pos)
/-- The end of a line, which is not taken. -/
def takeE : List Tok → Res (List Tok)
  | [] => .ok []
  | t :: T => if t.kind = 7 then .ok (t :: T) else .error (8, t.pos)
/-- What stands ahead of the Arrow. -/
def takeH (E : Nat) : List Tok → Res ((Bool × Fig × List Cla) × List Tok)
  | [] => .error (8, E)
  | t :: T => if t.kind = 1 ∧ t.text = wDefault then .ok ((true, ⟨0, 0⟩, []), T) else (takeF E (t :: T)).bind fun x => (takeCs E x.2.length [] x.2).map fun y => ((false, x.1, y.1), y.2)
/-- A line. -/
def takeR (E : Nat) (T : List Tok) : Res (Raw × List Tok) :=
  (takeH E T).bind fun x => (takeK E 6 x.2).bind fun y => (takeA E y.2).bind fun z => (takeE z.2).map fun u => (⟨(posOf E T : Int), x.1.1, x.1.2.1, x.1.2.2, z.1.1, z.1.2⟩, u)
/-- Lines (so many steps at most). -/
def takeL (E : Nat) : Nat → List Raw → List Tok → Res (List Raw)
  | 0, had, _ => .ok had
  | _ + 1, had, [] => .ok had
  | f + 1, had, t :: T => if t.kind = 7 then takeL E f had T else if had.length = 64 then .error (4, t.pos) else (takeR E (t :: T)).bind fun x => takeL E f (had ++ [x.1]) x.2
/-- A text's lines. -/
def parseT (S : List UInt8) : Res (List Raw) :=
  if 4096 < S.length then .error (5, 4096) else match lexW 0 S with
    | .error x => .error x
    | .ok T => takeL S.length (T.length + 1) [] T

/-- A number's digits. -/
def decF : Nat → Nat → List UInt8
  | 0, n => [UInt8.ofNat (48 + n % 10)]
  | f + 1, n => if n < 10 then [UInt8.ofNat (48 + n)] else decF f (n / 10) ++ [UInt8.ofNat (48 + n % 10)]
def dec (n : Nat) : List UInt8 := decF n n
def decI (n : Int) : List UInt8 := if 0 ≤ n then dec n.toNat else 45 :: dec (-n).toNat
/-- Numbers with a sign between. -/
def numsP (last : UInt8) : List Fig → List UInt8
  | [] => []
  | [x] => last :: decI x.n
  | x :: y :: l => 46 :: decI x.n ++ numsP last (y :: l)
def lastSign (c : Cla) : UInt8 := if c.slash then 47 else if c.dash then 45 else 46
def numsAll (c : Cla) : List UInt8 := match c.nums with
  | [] => []
  | x :: l => decI x.n ++ numsP (lastSign c) l
def claP (c : Cla) : List UInt8 := 32 :: c.word ++ (32 :: numsAll c)
def headP (x : Raw) : List UInt8 := (if x.dflt then wDefault else decI x.prio.n) ++ x.clauses.flatMap claP
def actP (x : Raw) : List UInt8 := if x.drop then wDrop else wPort ++ (32 :: decI x.port.n)
def rowP (x : Raw) : List UInt8 := headP x ++ ([32, 45, 62, 32] ++ (actP x ++ [10]))
def printT (l : List Raw) : List UInt8 := l.flatMap rowP
end Go.Proofs.YtnbklmmampdbfaaGreatDoor
namespace Go.Proofs.YtnbklmmampdbfaaGreatDoor
open Go.ChangeShapes Go.WideShapes Go.ChangeAt Go.WideMaps Go.WideElems Go.RowKit
set_option maxRecDepth 20000

def figV (f : Fig) : Array Value := #[.int .i64 f.n, .int .i64 f.pos]
def claV (c : Cla) (u : Value) : Array Value := #[.string ⟨c.word.toArray⟩, .int .i64 c.pos, u, .bool c.slash, .bool c.dash]
def rawV (x : Raw) (u : Value) : Array Value := #[.int .i64 x.pos, .bool x.dflt, .int .i64 x.prio.n, .int .i64 x.prio.pos, u, .bool x.drop, .int .i64 x.port.n, .int .i64 x.port.pos]
def FigE : El := ⟨89, 127, 2, 16, #[.int .i64 0, .int .i64 0]⟩
def ClaE : El := ⟨129, 90, 5, 56, #[.string ⟨#[]⟩, .int .i64 0, .slice none 0 0, .bool false, .bool false]⟩
def RawE : El := ⟨92, 55, 8, 80, #[.int .i64 0, .bool false, .int .i64 0, .int .i64 0, .slice none 0 0, .bool false, .int .i64 0, .int .i64 0]⟩
theorem FigOk : FigE.Ok := ⟨Tryz.underlying127, ⟨_, Tryz.underlying89, rfl⟩, by kernel_rfl, rfl, by decide, by decide, by decide⟩
theorem ClaOk : ClaE.Ok := ⟨Tryz.underlying90, ⟨_, Tryz.underlying129, rfl⟩, by kernel_rfl, rfl, by decide, by decide, by decide⟩
theorem RawOk : RawE.Ok := ⟨Tryz.underlying55, ⟨_, Tryz.underlying92, rfl⟩, by kernel_rfl, rfl, by decide, by decide, by decide⟩
theorem fig_fits (f : Fig) : Fits FigE (figV f) := ⟨rfl, by simp [figV, Value.oneCell']⟩

/-- A clause's numbers, a line's clauses, the lines, as they lie in memory. -/
def FigsAt (w : World) (c : Cla) (u : Value) : Prop := GSl FigE figV w u c.nums
def ClasAt (w : World) (x : Raw) (u : Value) : Prop := NSl ClaE claV FigsAt w u x.clauses
def RawsAt (w : World) (v : Value) (l : List Raw) : Prop := NSl RawE rawV ClasAt w v l
theorem figs_below (w w' : World) (c : Cla) (u : Value) (hb : Below w.heap.size w w') (h : FigsAt w c u) : FigsAt w' c u := GSl.below h hb
theorem clas_below (w w' : World) (x : Raw) (u : Value) (hb : Below w.heap.size w w') (h : ClasAt w x u) : ClasAt w' x u := NSl.below figs_below h hb
theorem raws_below {w w' : World} {v : Value} {l : List Raw} (h : RawsAt w v l) (hb : Below w.heap.size w w') : RawsAt w' v l := NSl.below clas_below h hb

theorem fig_of {H : Type} {enc : TypeId × Value → H} {W : World} {base : Nat} {spare : Nat → Bool} {held : Bool} (fuel : Nat) (cs : List Value) (x : DataW H × List MemPlace) (hl : cs.length = 2)
    (h : DataW.trod enc Tryz.prog W base spare held fuel 89 cs = some x) : ∃ f : Fig, cs = (figV f).toList ∧ (Lit.int .i64 f.n).wf = true := by
  have c3 : Tryz.prog.cellsOf 3 = 1 := by kernel_rfl
  obtain ⟨xs, n, _, _, _, hxl, hf⟩ := DataW.trod_struct Tryz.underlying89 h
  obtain ⟨k, h0, w0⟩ := field_int Tryz.underlying3 c3 (hf 0 _ rfl) (xs_some hxl (by decide))
  obtain ⟨p, h1, _⟩ := field_int Tryz.underlying3 c3 (hf 1 _ rfl) (xs_some hxl (by decide))
  refine ⟨⟨k, p⟩, ?_, w0⟩
  match cs, hl with
  | [a, b], _ =>
    obtain rfl : a = .int .i64 k := by simpa using h0
    obtain rfl : b = .int .i64 p := by simpa using h1
    rfl
/-- What is asked of the numbers that come in. -/
def wfN (n : Int) : Prop := (Lit.int .i64 n).wf = true
theorem cla_of {H : Type} {enc : TypeId × Value → H} {W : World} {base : Nat} {spare : Nat → Bool} {held : Bool} (fuel : Nat) (cs : List Value) (x : DataW H × List MemPlace) (hl : cs.length = 5)
    (h : DataW.trod enc Tryz.prog W base spare held fuel 129 cs = some x) : ∃ c : Cla × Value, cs = (claV c.1 c.2).toList ∧ (FigsAt W c.1 c.2 ∧ c.1.word.length ≤ maxLen ∧ ∀ f ∈ c.1.nums, wfN f.n) := by
  have c3 : Tryz.prog.cellsOf 3 = 1 := by kernel_rfl
  have c4 : Tryz.prog.cellsOf 4 = 1 := by kernel_rfl
  have c9 : Tryz.prog.cellsOf 9 = 1 := by kernel_rfl
  have cf : Tryz.prog.cellsOf 127 = 1 := by kernel_rfl
  obtain ⟨xs, n, _, _, _, hxl, hf⟩ := DataW.trod_struct Tryz.underlying129 h
  obtain ⟨t, h0, hs⟩ := field_string Tryz.underlying9 c9 (hf 0 _ rfl) (xs_some hxl (by decide))
  obtain ⟨p, h1, _⟩ := field_int Tryz.underlying3 c3 (hf 1 _ rfl) (xs_some hxl (by decide))
  obtain ⟨v, y, h2, hv⟩ := field_slice Tryz.underlying127 cf (hf 2 _ rfl) (xs_some hxl (by decide))
  obtain ⟨b1, h3⟩ := field_bool Tryz.underlying4 c4 (hf 3 _ rfl) (xs_some hxl (by decide))
  obtain ⟨b2, h4⟩ := field_bool Tryz.underlying4 c4 (hf 4 _ rfl) (xs_some hxl (by decide))
  have hin : Inhabited Fig := ⟨⟨0, 0⟩⟩
  obtain ⟨C, hC, hq⟩ := open_any (E := FigE) FigOk figV (fun _ => rfl) (fun f => wfN f.n) fig_of hv
  refine ⟨(⟨t.data.toList, p, C, b1, b2⟩, v), ?_, hC, by show t.data.toList.length ≤ maxLen; simpa using hs, hq⟩
  match cs, hl with
  | [a, b, c, d, e], _ =>
    obtain rfl : a = .string t := by simpa using h0
    obtain rfl : b = .int .i64 p := by simpa using h1
    obtain rfl : c = v := by simpa using h2
    obtain rfl : d = .bool b1 := by simpa using h3
    obtain rfl : e = .bool b2 := by simpa using h4
    rfl
theorem raw_of {H : Type} {enc : TypeId × Value → H} {W : World} {base : Nat} {spare : Nat → Bool} {held : Bool} (fuel : Nat) (cs : List Value) (x : DataW H × List MemPlace) (hl : cs.length = 8)
    (h : DataW.trod enc Tryz.prog W base spare held fuel 92 cs = some x) : ∃ c : Raw × Value, cs = (rawV c.1 c.2).toList ∧ (ClasAt W c.1 c.2 ∧ wfN c.1.prio.n ∧ wfN c.1.port.n ∧ ∀ d ∈ c.1.clauses, d.word.length ≤ maxLen ∧ ∀ f ∈ d.nums, wfN f.n) := by
  have c3 : Tryz.prog.cellsOf 3 = 1 := by kernel_rfl
  have c4 : Tryz.prog.cellsOf 4 = 1 := by kernel_rfl
  have cc : Tryz.prog.cellsOf 90 = 1 := by kernel_rfl
  have cfig : Tryz.prog.cellsOf 89 = 2 := by kernel_rfl
  obtain ⟨xs, n, _, _, _, hxl, hf⟩ := DataW.trod_struct Tryz.underlying92 h
  obtain ⟨p, h0, _⟩ := field_int Tryz.underlying3 c3 (hf 0 _ rfl) (xs_some hxl (by decide))
  obtain ⟨b1, h1⟩ := field_bool Tryz.underlying4 c4 (hf 1 _ rfl) (xs_some hxl (by decide))
  have g2 : DataW.trod enc Tryz.prog W base spare held n 89 ((cs.drop 2).take (Tryz.prog.cellsOf 89)) = xs[2]? := hf 2 _ rfl
  obtain ⟨y2, e2⟩ := Option.isSome_iff_exists.1 (xs_some (i := 2) hxl (by decide))
  rw [e2, cfig] at g2
  obtain ⟨pr, h2, w2⟩ := fig_of _ _ _ (by simp [hl]) g2
  obtain ⟨v, y, h3, hv⟩ := field_slice Tryz.underlying90 cc (hf 3 _ rfl) (xs_some hxl (by decide))
  obtain ⟨b2, h4⟩ := field_bool Tryz.underlying4 c4 (hf 4 _ rfl) (xs_some hxl (by decide))
  have g5 : DataW.trod enc Tryz.prog W base spare held n 89 ((cs.drop 6).take (Tryz.prog.cellsOf 89)) = xs[5]? := hf 5 _ rfl
  obtain ⟨y5, e5⟩ := Option.isSome_iff_exists.1 (xs_some (i := 5) hxl (by decide))
  rw [e5, cfig] at g5
  obtain ⟨po, h5, w5⟩ := fig_of _ _ _ (by simp [hl]) g5
  have hin : Inhabited (Cla × Value) := ⟨(⟨[], 0, [], false, false⟩, undef)⟩
  obtain ⟨C, hC, hq⟩ := open_any (E := ClaE) ClaOk (fun q : Cla × Value => claV q.1 q.2) (fun _ => rfl) (fun q => FigsAt W q.1 q.2 ∧ q.1.word.length ≤ maxLen ∧ ∀ f ∈ q.1.nums, wfN f.n) cla_of hv
  refine ⟨(⟨p, b1, pr, C.map (·.1), b2, po⟩, v), ?_, ⟨C, rfl, hC, fun q hq' => (hq q hq').1⟩, w2, w5, fun d hd => ?_⟩
  · match cs, hl with
    | [a0, a1, a2, a3, a4, a5, a6, a7], _ =>
      obtain rfl : a0 = .int .i64 p := by simpa using h0
      obtain rfl : a1 = .bool b1 := by simpa using h1
      obtain ⟨rfl, rfl⟩ : a2 = .int .i64 pr.n ∧ a3 = .int .i64 pr.pos := by simpa [figV] using h2
      obtain rfl : a4 = v := by simpa using h3
      obtain rfl : a5 = .bool b2 := by simpa using h4
      obtain ⟨rfl, rfl⟩ : a6 = .int .i64 po.n ∧ a7 = .int .i64 po.pos := by simpa [figV] using h5
      rfl
  · obtain ⟨q, hq', rfl⟩ := List.mem_map.1 hd
    exact (hq q hq').2
/-- Lines that come in. -/
theorem open_raws {H : Type} {enc : TypeId × Value → H} {W : World} {r : Reach} {b0 base : Nat} {spare : Nat → Bool} {held : Bool} {v : Value} {d : DataW H} {p : List MemPlace}
    (hok : Value.okWide Tryz.prog W r b0 55 v) (h : DataW.Trod enc Tryz.prog W base spare held 55 v d p) :
    ∃ l, RawsAt W v l ∧ ∀ x ∈ l, wfN x.prio.n ∧ wfN x.port.n ∧ ∀ d ∈ x.clauses, d.word.length ≤ maxLen ∧ ∀ f ∈ d.nums, wfN f.n := by
  obtain ⟨fuel, hf⟩ := h
  have hv1 : v.cells.toList = [v] := by
    simp only [Value.okWide, Cell.okWide, Cell.ok, Tryz.underlying55] at hok
    cases v <;> simp_all [Value.cells]
  rw [hv1] at hf
  have hin : Inhabited (Raw × Value) := ⟨(⟨0, false, ⟨0, 0⟩, [], false, ⟨0, 0⟩⟩, undef)⟩
  obtain ⟨C, hC, hq⟩ := open_any (E := RawE) RawOk (fun q : Raw × Value => rawV q.1 q.2) (fun _ => rfl) (fun q => ClasAt W q.1 q.2 ∧ wfN q.1.prio.n ∧ wfN q.1.port.n ∧ ∀ d ∈ q.1.clauses, d.word.length ≤ maxLen ∧ ∀ f ∈ d.nums, wfN f.n) raw_of hf
  refine ⟨C.map (·.1), ⟨C, rfl, hC, fun q hq' => (hq q hq').1⟩, fun x hx => ?_⟩
  obtain ⟨q, hq', rfl⟩ := List.mem_map.1 hx
  exact (hq q hq').2
end Go.Proofs.YtnbklmmampdbfaaGreatDoor
namespace Go.Proofs.YtnbklmmampdbfaaGreatDoor
open Go Go.RowKit
set_option maxRecDepth 20000

/-- What an error is told by: a panic with the error and its place. -/
def faultV (c q : Nat) : Value := .iface 84 (.agg #[.int .i64 (c : Int), .int .i64 (q : Int)])
def Fault (e : Ending) (c q : Nat) : Prop := e = .panicked [{ v := faultV c q, recovered := false }]
/-- The reader at block g: the tokens that are left, and where the text ends; the tokens lie in memory that was there ahead of it. -/
def Rd (W0 w : World) (g E : Nat) (T : List Tok) : Prop :=
  Below W0.heap.size W0 w ∧ W0.heap.size ≤ g ∧ ∃ v, w.heap[g]? = some (.cells #[v, .int .i64 (E : Int)] 86 (0, 0)) ∧ GSl TokE encT W0 v T
/-- What a call that takes tokens comes to. -/
def Took {α : Type} (W0 w : World) (g E : Nat) (R : World → α → Value → Prop) (r : Res (α × List Tok)) (e : Ending) (w' : World) : Prop :=
  w.grownBy w' (some g) ∧ match r with
  | .ok (a, T') => (∃ v, e = .returned v ∧ R w' a v) ∧ Rd W0 w' g E T'
  | .error (c, q) => Fault e c q
/-- The token at hand. -/
def hd (E : Nat) : List Tok → Tok
  | [] => ⟨0, E, [], 0⟩
  | t :: _ => t

theorem Rd.size {W0 w : World} {g E : Nat} {T : List Tok} (h : Rd W0 w g E T) : W0.heap.size ≤ g ∧ g < w.heap.size := by
  obtain ⟨_, h1, v, h2, _⟩ := h
  exact ⟨h1, (Array.getElem?_eq_some_iff.1 h2).1⟩
theorem below_by {W0 w w' : World} {g : Nat} (h : Below W0.heap.size W0 w) (hg : W0.heap.size ≤ g) (hgr : w.grownBy w' (some g)) : Below W0.heap.size W0 w' :=
  ⟨hgr.os.trans h.os, hgr.tape.trans h.tape, hgr.output.trans h.output, Nat.le_trans h.size hgr.size, fun k hk => (hgr.block k (by have := h.size; omega) (by simp; omega)).trans (h.block k hk)⟩
theorem Rd.below {W0 w w' : World} {g E : Nat} {T : List Tok} (h : Rd W0 w g E T) (hb : Below w.heap.size w w') : Rd W0 w' g E T := by
  obtain ⟨h0, h1, v, h2, h3⟩ := h
  exact ⟨h0.trans (hb.mono h0.size), h1, v, (hb.block g (Array.getElem?_eq_some_iff.1 h2).1).trans h2, h3⟩
theorem grown_below {w w' : World} {g : Nat} (hb : Below w.heap.size w w') : w.grownBy w' (some g) :=
  ⟨hb.os, hb.tape, hb.output, hb.size, fun k hk _ => hb.block k hk⟩
theorem grown_trans {a b c : World} {g : Nat} (h : a.grownBy b (some g)) (h' : b.grownBy c (some g)) : a.grownBy c (some g) :=
  ⟨h'.os.trans h.os, h'.tape.trans h.tape, h'.output.trans h.output, Nat.le_trans h.size h'.size, fun k hk hne => (h'.block k (Nat.lt_of_lt_of_le hk h.size) hne).trans (h.block k hk hne)⟩
theorem gb_refl (w : World) (g : Nat) : w.grownBy w (some g) := ⟨rfl, rfl, rfl, Nat.le_refl _, fun _ _ _ => rfl⟩
theorem gb_alloc {w w' : World} {g : Nat} (h : w.grownBy w' (some g)) (o : Obj) : w.grownBy (w'.alloc o) (some g) :=
  grown_trans h (grown_below ((Below.refl _ _).alloc (Nat.le_refl _) o))
theorem gb_setCell {w w' : World} {g : Nat} (h : w.grownBy w' (some g)) {k : Nat} (hk : k = g ∨ w.heap.size ≤ k) (i : Nat) (v : Value) : w.grownBy (w'.setCell ⟨k, i, none⟩ v) (some g) :=
  ⟨h.os, h.tape, h.output, by rw [tc_size]; exact h.size, fun j hj hne => (tc_far (by rintro rfl; rcases hk with rfl | hk; exact hne rfl; omega) v).trans (h.block j hj hne)⟩
theorem gb_setRow {w w' : World} {g : Nat} (h : w.grownBy w' (some g)) {k : Nat} (hk : k = g ∨ w.heap.size ≤ k) (cs : Array Value) : w.grownBy (w'.setRow k cs) (some g) :=
  ⟨h.os, h.tape, h.output, by rw [setRow_size]; exact h.size, fun j hj hne => (setRow_other w' k j cs (by rintro rfl; rcases hk with rfl | hk; exact hne rfl; omega)).trans (h.block j hj hne)⟩
theorem Rd.alloc {W0 w : World} {g E : Nat} {T : List Tok} (h : Rd W0 w g E T) (o : Obj) : Rd W0 (w.alloc o) g E T := h.below ((Below.refl _ _).alloc (Nat.le_refl _) o)
theorem rd_setRow {W0 w : World} {g E : Nat} {T : List Tok} (h : Rd W0 w g E T) {k : Nat} (hk : k ≠ g) (hk2 : W0.heap.size ≤ k) (cs : Array Value) : Rd W0 (w.setRow k cs) g E T := by
  obtain ⟨h0, h1, v, h2, h3⟩ := h
  exact ⟨below_setRow h0 hk2 _, h1, v, (setRow_other _ _ _ _ (Ne.symm hk)).trans h2, h3⟩
theorem rd_setCell {W0 w : World} {g E : Nat} {T : List Tok} (h : Rd W0 w g E T) {k : Nat} (hk : k ≠ g) (hk2 : W0.heap.size ≤ k) (i : Nat) (v : Value) : Rd W0 (w.setCell ⟨k, i, none⟩ v) g E T := by
  obtain ⟨h0, h1, u, h2, h3⟩ := h
  exact ⟨tc_below h0 hk2 _ _, h1, u, (tc_far hk _).trans h2, h3⟩
theorem gb_own {w w1 w2 : World} {g : Nat} {b : Option Nat} (h : w.grownBy w1 (some g)) (h' : w1.grownBy w2 b) (hb : ∀ k, b = some k → w.heap.size ≤ k) : w.grownBy w2 (some g) :=
  ⟨h'.os.trans h.os, h'.tape.trans h.tape, h'.output.trans h.output, Nat.le_trans h.size h'.size, fun k hk hne => (h'.block k (Nat.lt_of_lt_of_le hk h.size) (fun hq => by have := hb k hq.symm; omega)).trans (h.block k hk hne)⟩
theorem rd_own {W0 w1 w2 : World} {g E : Nat} {T : List Tok} {b : Option Nat} (h : Rd W0 w1 g E T) (h' : w1.grownBy w2 b) (hb : ∀ k, b = some k → g < k) : Rd W0 w2 g E T := by
  obtain ⟨h0, h1, v, h2, h3⟩ := h
  refine ⟨⟨h'.os.trans h0.os, h'.tape.trans h0.tape, h'.output.trans h0.output, Nat.le_trans h0.size h'.size, fun k hk => (h'.block k (by have := h0.size; omega) (fun hq => by have := hb k hq.symm; omega)).trans (h0.block k hk)⟩, h1, v, ?_, h3⟩
  exact (h'.block g (Array.getElem?_eq_some_iff.1 h2).1 (fun hq => by have := hb g hq.symm; omega)).trans h2
theorem own_by {w w' : World} {g B : Nat} (hgr : w.grownBy w' (some g)) (hB : g < B) {e : TypeId} {s : Nat} {u : Value} {m : Nat} {ys : List Value} (h : w.ownsRow B e s u m ys) : w'.ownsRow B e s u m ys :=
  own_grown hgr h fun k hk hu => by
    obtain rfl := Option.some.inj hk
    have := (h.lt g hu).1
    omega
/-- The tokens behind the first one. -/
theorem gsl_tail {w : World} {t : Tok} {T : List Tok} {b off cap : Nat} (h : GSl TokE encT w (.slice (some ⟨b, off, none⟩) (T.length + 1) cap) (t :: T)) (o' : Option Addr) (ho : T ≠ [] → o' = some ⟨b, off + 4, none⟩) : GSl TokE encT w (.slice o' T.length (cap - 1)) T := by
  obtain ⟨o, cap', h1, h2, h3, h4⟩ := h
  simp only [Value.slice.injEq, List.length_cons] at h1 h2
  obtain ⟨rfl, _, rfl⟩ := h1
  refine ⟨o', cap - 1, rfl, by omega, by omega, fun i hi => ?_⟩
  obtain ⟨g, off', cur, ty, fr, e1, e2, e3⟩ := h4 (i + 1) (by simpa using hi)
  simp only [Option.some.injEq, Addr.mk.injEq] at e1
  obtain ⟨rfl, rfl, _⟩ := e1
  refine ⟨b, off + 4, cur, ty, fr, ho (by rintro rfl; simp at hi), e2, fun j hj => ?_⟩
  have := e3 j hj
  rw [List.getElem_cons_succ] at this
  rw [← this]
  congr 1
  show off + 4 + i * 4 + j = off + (i + 1) * 4 + j
  omega
end Go.Proofs.YtnbklmmampdbfaaGreatDoor
namespace Go.Proofs.YtnbklmmampdbfaaGreatDoor
open Go Go.RowKit
set_option maxRecDepth 20000

theorem retE {E : El} (H : E.Ok) {fn : Func} {R : Ending → World → Prop} {a : Act} {w : World} {p : Tmp} (hr : fn.results = #[.cell p E.elem]) (hd : a.defers = []) (g : Nat) (hp : a.tmps.getD p undef = .pointer (some ⟨g, 0, none⟩)) (cs : Array Value) (hcs : cs.size = E.size)
    (hg : w.heap[g]? = some (.cells cs E.elem (0, 0))) (h : R (.returned (.agg cs)) w) : bodyPost Tryz.prog fn R .ret a w := by
  refine bodyPost_ret (v := .agg cs) ?_ hd h
  rw [Array.getD_eq_getD_getElem?] at hp
  have hl := H.load w g 0 cs E.elem (0, 0) cs hcs hg (own_cells _ _)
  simp [results, hr, hp, asAddr, hl]
theorem retBE {E : El} (H : E.Ok) {fn : Func} {R : Ending → World → Prop} {a : Act} {w : World} {u p : Tmp} (hr : fn.results = #[.tmp u, .cell p E.elem]) (hd : a.defers = []) (g : Nat) (hp : a.tmps.getD p undef = .pointer (some ⟨g, 0, none⟩)) (cs : Array Value) (hcs : cs.size = E.size)
    (hg : w.heap[g]? = some (.cells cs E.elem (0, 0))) (v : Value) (hu : a.tmps.getD u undef = v) (h : R (.returned (.tuple #[v, .agg cs])) w) : bodyPost Tryz.prog fn R .ret a w := by
  refine bodyPost_ret (v := .tuple #[v, .agg cs]) ?_ hd h
  rw [Array.getD_eq_getD_getElem?] at hp hu
  have hl := H.load w g 0 cs E.elem (0, 0) cs hcs hg (own_cells _ _)
  simp [results, hr, hp, hu, asAddr, hl]

set_option maxHeartbeats 2000000 in
theorem peek_any (W0 w : World) (g E : Nat) (T : List Tok) (h : Rd W0 w g E T) :
    Calls Tryz.prog 70 #[.pointer (some ⟨g, 0, none⟩)] w fun e w' => e = .returned (.agg (encT (hd E T))) ∧ Below w.heap.size w w' := by
  obtain ⟨h0, h1, v, h2, h3⟩ := h
  have hgl := (Array.getElem?_eq_some_iff.1 h2).1
  have h3' := h3.below h0
  cases T with
  | nil =>
    obtain ⟨o, cap, rfl, _, _⟩ := h3'.slice
    have c0 : ∀ x, (w.alloc x).cell? ⟨g, 0, none⟩ = some (.slice o 0 cap) := fun x => by rw [cell_of_row _ _ _ _ _ _ (heap_past _ _ _ _ h2)]; rfl
    have c1 : ∀ x, (w.alloc x).cell? ⟨g, 1, none⟩ = some (.int .i64 (E : Int)) := fun x => by rw [cell_of_row _ _ _ _ _ _ (heap_past _ _ _ _ h2)]; rfl
    clear h0 h1 h2 h3 h3'
    go_enter Tryz.func70, Tryz.ntmps70
    go_wp2_with (first
      | (refine wl_storeE (E := TokE) TokOk rfl _ _ rfl w.heap.size (tv 0 (E : Nat) ⟨#[]⟩ 0) (tv_fits _ _ _ _) rfl rfl _ (heap_new _ _ _ rfl) rfl _ (setRow_new _ _ _ _ _ rfl) ?_))
    refine retE (E := TokE) TokOk rfl rfl w.heap.size rfl (tv 0 (E : Nat) ⟨#[]⟩ 0) rfl (heap_new _ _ _ rfl) ?_
    exact ⟨rfl, (Below.refl _ _).alloc (Nat.le_refl _) _⟩
  | cons t T =>
    obtain ⟨o, cap, rfl, hcap, hm⟩ := h3'.slice
    obtain ⟨b, off, cur, ty, fr, c, rfl, hb, hc, hck⟩ := h3'.at 0 (by simp)
    obtain rfl : t = c := by simpa using hck
    have c0 : ∀ x, (w.alloc x).cell? ⟨g, 0, none⟩ = some (.slice (some ⟨b, off, none⟩) (T.length + 1) cap) := fun x => by rw [cell_of_row _ _ _ _ _ _ (heap_past _ _ _ _ h2)]; rfl
    have HB : Hid (∀ x, (w.alloc x).heap[b]? = some (.cells cur ty fr)) := fun x => heap_past _ _ _ _ hb
    have HC : Hid (∀ j, j < 4 → cur[off + 0 * 4 + j]? = (encT t)[j]?) := hc
    have hl : ((T.length : Int) + 1 == 0) = false := by simp; omega
    simp only [List.length_cons] at hcap
    unfold maxLen at hm
    clear h0 h1 h2 h3 h3' hb hc hck
    go_enter Tryz.func70, Tryz.ntmps70
    go_wp2_with (first
      | (refine wl_loadE (E := TokE) TokOk rfl _ rfl b (off + 0 * 4) rfl cur ty fr (encT t) rfl (HB.out _) HC.out ?_)
      | (refine wl_storeE (E := TokE) TokOk rfl _ _ rfl w.heap.size (encT t) (tv_fits _ _ _ _) rfl rfl _ (heap_new _ _ _ rfl) rfl _ (setRow_new _ _ _ _ _ rfl) ?_))
    refine retE (E := TokE) TokOk rfl rfl w.heap.size rfl (encT t) rfl (heap_new _ _ _ rfl) ?_
    exact ⟨rfl, (Below.refl _ _).alloc (Nat.le_refl _) _⟩
theorem tok_cells {w : World} {b : Nat} {t : Tok} {ty : TypeId} {fr : Nat × Nat} (h : w.heap[b]? = some (.cells (encT t) ty fr)) :
    w.cell? ⟨b, 0, none⟩ = some (.int .i64 (t.kind : Int)) ∧ w.cell? ⟨b, 1, none⟩ = some (.int .i64 (t.pos : Int)) ∧ w.cell? ⟨b, 2, none⟩ = some (.string ⟨t.text.toArray⟩) ∧ w.cell? ⟨b, 3, none⟩ = some (.int .i64 (t.num : Int)) := by
  refine ⟨?_, ?_, ?_, ?_⟩ <;> (rw [cell_of_row _ _ _ _ _ _ h]; rfl)
theorem tok_f0 (t : Tok) (W : World) : (Instr.field 117 (.agg (encT t)) 0).run Tryz.prog W = .ok (.int .i64 (t.kind : Int)) W := by kernel_rfl
theorem tok_f1 (t : Tok) (W : World) : (Instr.field 117 (.agg (encT t)) 1).run Tryz.prog W = .ok (.int .i64 (t.pos : Int)) W := by kernel_rfl
theorem tok_f2 (t : Tok) (W : World) : (Instr.field 117 (.agg (encT t)) 2).run Tryz.prog W = .ok (.string ⟨t.text.toArray⟩) W := by kernel_rfl
theorem takeK_no {E k : Nat} {T : List Tok} (h : (hd E T).kind ≠ k) : takeK E k T = .error (8, (hd E T).pos) := by
  cases T with
  | nil => rfl
  | cons t T => exact if_neg h
theorem takeK_yes {E k : Nat} (hk : k ≠ 0) {T : List Tok} (h : (hd E T).kind = k) : ∃ T', T = hd E T :: T' ∧ takeK E k T = .ok (hd E T, T') := by
  cases T with
  | nil => exact absurd h.symm hk
  | cons t T => exact ⟨T, rfl, if_pos h⟩

theorem slice_tail (b off n cap : Nat) (h : n + 1 ≤ cap) (hm : cap ≤ 2 ^ 63 - 1) (T' : List Tok) (hT : T'.length = n) : ∃ o' : Option Addr, (T' ≠ [] → o' = some ⟨b, off + 4, none⟩) ∧ ∀ W, (Instr.sliceAt 80 (.slice (some ⟨b, off, none⟩) (n + 1) cap) (some (.int .i64 1)) none none).run Tryz.prog W = .ok (.slice o' n (cap - 1)) W := by
  by_cases hc : cap = 1
  · subst hc
    refine ⟨some ⟨b, off, none⟩, fun hn => ?_, fun W => ?_⟩
    · exfalso
      exact hn (List.length_eq_zero_iff.1 (by omega))
    · obtain rfl : n = 0 := by omega
      simp [go_sem, Tryz.underlying80]
  · refine ⟨some ⟨b, off + 4, none⟩, fun _ => rfl, fun W => ?_⟩
    simp [go_sem, Tryz.underlying80]
    rw [if_pos (by omega), if_neg hc]

set_option maxHeartbeats 2000000 in
theorem take_any (W0 w : World) (g E k : Nat) (hk : k ≠ 0) (T : List Tok) (h : Rd W0 w g E T) :
    Calls Tryz.prog 71 #[.pointer (some ⟨g, 0, none⟩), .int .i64 (k : Int)] w fun e w' => Took W0 w g E (fun _ t v => v = .agg (encT t)) (takeK E k T) e w' := by
  have C1 : Hid (∀ W, Below w.heap.size w W → Calls Tryz.prog 70 #[.pointer (some ⟨g, 0, none⟩)] W fun e w' => e = .returned (.agg (encT (hd E T))) ∧ Below W.heap.size W w') := fun W hb => peek_any W0 W g E T (h.below hb)
  have hgl := h.size
  have H : Hid (Rd W0 w g E T) := h
  clear h
  by_cases hc : (hd E T).kind = k
  · obtain ⟨T', hT, hR⟩ := takeK_yes hk hc
    have HR : Hid (takeK E k T = .ok (hd E T, T')) := hR
    have hne : (((hd E T).kind : Int) != (k : Int)) = false := by simp; omega
    have HT : Hid (T = hd E T :: T') := hT
    obtain ⟨t, ht⟩ : ∃ t, t = hd E T := ⟨_, rfl⟩
    rw [← ht] at C1 hne HR HT
    clear hc hR ht hT
    go_enter Tryz.func71, Tryz.ntmps71
    go_wp2_with fail
    refine (C1.out _ ?_).mono ?_
    · exact (Below.refl _ _).alloc (Nat.le_refl _) _
    rintro e w1 ⟨rfl, hb1⟩
    have B1 : Below w.heap.size w w1 := ((Below.refl _ _).alloc (Nat.le_refl _) _).trans (hb1.mono (by simp))
    have z1 : w.heap.size < w1.heap.size := by have := hb1.size; simp at this; omega
    have hr1 : Hid (w1.heap[w.heap.size]? = some (.cells (tv 0 0 ⟨#[]⟩ 0) 117 (0, 0))) := (hb1.block _ (by simp)).trans (heap_new _ _ _ rfl)
    have R1 := H.out.below B1
    obtain ⟨q0, q1, v, q2, q3⟩ := R1
    rw [HT.out] at q3
    obtain ⟨o, cap, rfl, hcap, hm⟩ := q3.slice
    obtain ⟨b, off, cur, ty, fr, c, rfl, _, _, _⟩ := q3.at 0 (by simp)
    have c0 : ∀ x, (w1.alloc x).cell? ⟨g, 0, none⟩ = some (.slice (some ⟨b, off, none⟩) (T'.length + 1) cap) := fun x => by rw [cell_of_row _ _ _ _ _ _ (heap_past _ _ _ _ q2)]; rfl
    have z0 : ∀ x, (w1.alloc x).frozen? ⟨g, 0, none⟩ = false := fun x => tc_frozen (heap_past _ _ _ _ q2) rfl
    obtain ⟨t0, t1, t2, t3⟩ := tok_cells (heap_new w1 (.cells (encT t) 117) _ rfl)
    simp only [List.length_cons] at hcap
    unfold maxLen at hm
    obtain ⟨o', ho', hsl⟩ : ∃ o' : Option Addr, (T' ≠ [] → o' = some ⟨b, off + 4, none⟩) ∧ ∀ W, (Instr.sliceAt 80 (.slice (some ⟨b, off, none⟩) (T'.length + 1) cap) (some (.int .i64 1)) none none).run Tryz.prog W = .ok (.slice o' T'.length (cap - 1)) W := slice_tail b off T'.length cap (by omega) hm T' rfl
    have HQ : Hid (GSl TokE encT W0 (.slice o' T'.length (cap - 1)) T') := gsl_tail q3 o' ho'
    have HQ2 : Hid (w1.heap[g]? = some (.cells #[.slice (some ⟨b, off, none⟩) (T'.length + 1) cap, .int .i64 (E : Int)] 86 (0, 0))) := q2
    have hrr : Hid (((w1.alloc (.cells (encT t) 117)).setCell ⟨g, 0, none⟩ (.slice o' T'.length (cap - 1))).heap[w.heap.size]? = some (.cells (tv 0 0 ⟨#[]⟩ 0) 117 (0, 0))) := (tc_far (by omega) _).trans (heap_past _ _ _ _ hr1.out)
    clear q2 q3 ho' hr1
    go_wp2_with (first
      | (refine wl_storeE (E := TokE) TokOk rfl _ _ rfl w1.heap.size (encT t) (tv_fits _ _ _ _) rfl rfl _ (heap_new _ _ _ rfl) rfl _ (setRow_new _ _ _ _ _ rfl) ?_)
      | (refine wl_loadE (E := TokE) TokOk rfl _ rfl w1.heap.size 0 rfl _ _ _ (encT t) rfl ((tc_far (by omega) _).trans (heap_new _ _ _ rfl)) (own_cells _ _) ?_)
      | (refine wl_storeE (E := TokE) TokOk rfl _ _ rfl w.heap.size (encT t) (tv_fits _ _ _ _) rfl rfl _ hrr.out rfl _ rfl ?_))
    refine retE (E := TokE) TokOk rfl rfl w.heap.size rfl (encT t) rfl (setRow_heap _ _ _ _ _ _ hrr.out) ?_
    have G1 : w.grownBy w1 (some g) := grown_below B1
    refine ⟨gb_setRow (gb_setCell (gb_alloc G1 _) (.inl rfl) _ _) (.inr (Nat.le_refl _)) _, ?_⟩
    rw [HR.out]
    refine ⟨⟨_, rfl, rfl⟩, below_setRow (tc_below (q0.alloc q0.size _) q1 _ _) (by omega) _, q1, _, ?_, HQ.out⟩
    rw [setRow_other _ _ _ _ (by omega), tc_row (heap_past _ _ _ _ HQ2.out)]
    rfl
  · have hR := takeK_no hc
    have HR : Hid (takeK E k T = .error (8, (hd E T).pos)) := hR
    have hne : (((hd E T).kind : Int) != (k : Int)) = true := by simp; omega
    obtain ⟨t, ht⟩ : ∃ t, t = hd E T := ⟨_, rfl⟩
    rw [← ht] at C1 hne HR
    clear hc hR ht
    go_enter Tryz.func71, Tryz.ntmps71
    go_wp2_with fail
    refine (C1.out _ ?_).mono ?_
    · exact (Below.refl _ _).alloc (Nat.le_refl _) _
    rintro e w1 ⟨rfl, hb1⟩
    have B1 : Below w.heap.size w w1 := ((Below.refl _ _).alloc (Nat.le_refl _) _).trans (hb1.mono (by simp))
    obtain ⟨t0, t1, t2, t3⟩ := tok_cells (heap_new w1 (.cells (encT t) 117) _ rfl)
    go_wp2_with (first
      | (refine wl_storeE (E := TokE) TokOk rfl _ _ rfl w1.heap.size (encT t) (tv_fits _ _ _ _) rfl rfl _ (heap_new _ _ _ rfl) rfl _ (setRow_new _ _ _ _ _ rfl) ?_))
    refine ⟨rfl, gb_alloc (grown_below B1) _, ?_⟩
    rw [HR.out]
    rfl
end Go.Proofs.YtnbklmmampdbfaaGreatDoor
namespace Go.Proofs.YtnbklmmampdbfaaGreatDoor
open Go Go.RowKit
set_option maxRecDepth 20000

set_option maxHeartbeats 2000000 in
theorem sameWord_any (w : World) (k : Nat) (t : Tok) (c : Cla) (u : Value) (hu : ∃ o n m, u = .slice o n m) (hk : w.heap[k]? = some (.cells (encT t) 117 (0, 0))) :
    Calls Tryz.prog 114 #[.agg (claV c u), .pointer (some ⟨k, 0, none⟩)] w fun e w' => e = .returned (.bool (c.word == t.text)) ∧ Below w.heap.size w w' := by
  obtain ⟨o, n, m, rfl⟩ := hu
  have t2 : ∀ x, (w.alloc x).cell? ⟨k, 2, none⟩ = some (.string ⟨t.text.toArray⟩) := fun x => (tok_cells (heap_past _ x _ _ hk)).2.2.1
  have n0 := heap_new w (.cells (claV c (.slice o n m)) 129) _ rfl
  have c0 : (w.alloc (.cells (claV c (.slice o n m)) 129)).cell? ⟨w.heap.size, 0, none⟩ = some (.string ⟨c.word.toArray⟩) := by rw [cell_of_row _ _ _ _ _ _ n0]; rfl
  clear hk n0
  go_enter Tryz.func114, Tryz.ntmps114
  go_wp2_with fail
  go_ret
  exact ⟨rfl, (Below.refl _ _).alloc (Nat.le_refl _) _⟩

theorem any_take_succ {C : List Cla} {j : Nat} {c : Cla} (h : C[j]? = some c) (q : Cla → Bool) : (C.take (j + 1)).any q = ((C.take j).any q || q c) := by
  obtain ⟨hj, rfl⟩ := List.getElem?_eq_some_iff.1 h
  rw [List.take_succ_eq_append_getElem hj, List.any_append]
  simp
set_option maxHeartbeats 4000000 in
theorem indexFunc_any {R : World → Cla → Value → Prop} (hR : ∀ w c u, R w c u → ∃ o n m, u = .slice o n m) (w : World) (v : Value) (C : List Cla) (h : NSl ClaE claV R w v C) (k : Nat) (t : Tok) (hk : w.heap[k]? = some (.cells (encT t) 117 (0, 0))) :
    Calls Tryz.prog 116 #[v, .func (.func 114) #[] #[.pointer (some ⟨k, 0, none⟩)]] w fun e w' => (∃ i : Int, e = .returned (.int .i64 i) ∧ ((decide (0 ≤ i)) = C.any (fun c => c.word == t.text))) ∧ Below w.heap.size w w' := by
  obtain ⟨o, cap, rfl, hcap, hm⟩ := h.slice
  have CS : Hid (∀ W c u, (∃ o n m, u = .slice o n m) → Below w.heap.size w W → Calls Tryz.prog 114 #[.agg (claV c u), .pointer (some ⟨k, 0, none⟩)] W fun e w' => e = .returned (.bool (c.word == t.text)) ∧ Below W.heap.size W w') := fun W c u hu hb => sameWord_any W k t c u hu ((hb.block k (Array.getElem?_eq_some_iff.1 hk).1).trans hk)
  obtain ⟨n, hn⟩ : ∃ n, n = C.length := ⟨_, rfl⟩
  have HN : Hid (n = C.length) := hn
  rw [← hn] at h hcap ⊢
  have H : Hid (NSl ClaE claV R w (.slice o n cap) C) := h
  unfold maxLen at hm
  clear h hk hn
  go_enter Tryz.func116, Tryz.ntmps116
  go_wp2_with fail
  go_loopw [8] (fun x wr => ∃ j : Nat, j ≤ n ∧ x = .int .i64 (j : Int) ∧ Hid ((C.take j).any (fun c => c.word == t.text) = false) ∧ Below w.heap.size w wr) (fun x _ => n - (intOf x).toNat)
  case atStart => exact ⟨0, Nat.zero_le _, rfl, rfl, Below.refl _ _⟩
  case round =>
    obtain ⟨j, hj, rfl, HJ, hb⟩ := hrel
    by_cases hlt : j < n
    · obtain ⟨g, off, cur, ty, fr, c, u, rfl, hg, hc, hCj, hr⟩ := H.out.at j hlt
      obtain ⟨o1, n1, m1, rfl⟩ := hR _ _ _ hr
      have k1 : Hid (wr.heap[g]? = some (.cells cur ty fr)) := (hb.block g (Array.getElem?_eq_some_iff.1 hg).1).trans hg
      have H1 : Hid (∀ i, i < 5 → cur[off + j * 5 + i]? = (claV c (.slice o1 n1 m1))[i]?) := hc
      have HT := any_take_succ hCj (fun c => c.word == t.text)
      rw [HJ.out, Bool.false_or] at HT
      have HTT : Hid ((C.take (j + 1)).any (fun c => c.word == t.text) = (c.word == t.text)) := HT
      have hlt' : (j : Int) < (n : Int) := by omega
      clear hg hc hCj hr HT
      go_wp2_with (first
        | (refine wl_loadE (E := ClaE) ClaOk rfl _ rfl g (off + j * 5) rfl cur ty fr (claV c (.slice o1 n1 m1)) rfl k1.out H1.out ?_))
      refine (CS.out _ c _ ⟨_, _, _, rfl⟩ hb).mono ?_
      rintro e w1 ⟨rfl, hb1⟩
      have B1 := hb.trans (hb1.mono hb.size)
      clear hb hb1
      by_cases hq : (c.word == t.text) = true
      · have HALL : Hid (C.any (fun c => c.word == t.text) = true) := by
          show _ = _
          have := HTT.out
          rw [hq] at this
          obtain ⟨x, hx, hx2⟩ := List.any_eq_true.1 this
          exact List.any_eq_true.2 ⟨x, List.mem_of_mem_take hx, hx2⟩
        rw [hq]
        clear hq
        go_wp2_with fail
        go_ret
        refine ⟨⟨_, rfl, ?_⟩, B1⟩
        rw [HALL.out]
        simp
      · have hq' : (c.word == t.text) = false := by simpa using hq
        rw [hq'] at HTT
        rw [hq']
        clear hq hq'
        go_wp2_with fail
        go_roundw
        case rel => exact ⟨j + 1, by omega, by go_num, HTT, B1⟩
        case measure => simp [intOf]; omega
    · have hlt' : (n : Int) ≤ (j : Int) := by omega
      have HALL : Hid (C.any (fun c => c.word == t.text) = false) := by
        show _ = _
        have := HJ.out
        rwa [List.take_of_length_le (by have := HN.out; omega)] at this
      go_wp2_with fail
      go_ret
      refine ⟨⟨_, rfl, ?_⟩, hb⟩
      rw [HALL.out]
      decide
set_option maxHeartbeats 2000000 in
theorem containsFunc_any {R : World → Cla → Value → Prop} (hR : ∀ w c u, R w c u → ∃ o n m, u = .slice o n m) (w : World) (v : Value) (C : List Cla) (h : NSl ClaE claV R w v C) (k : Nat) (t : Tok) (hk : w.heap[k]? = some (.cells (encT t) 117 (0, 0))) :
    Calls Tryz.prog 99 #[v, .func (.func 114) #[] #[.pointer (some ⟨k, 0, none⟩)]] w fun e w' => e = .returned (.bool (C.any (fun c => c.word == t.text))) ∧ Below w.heap.size w w' := by
  have C1 : Hid (Calls Tryz.prog 116 #[v, .func (.func 114) #[] #[.pointer (some ⟨k, 0, none⟩)]] w fun e w' => (∃ i : Int, e = .returned (.int .i64 i) ∧ ((decide (0 ≤ i)) = C.any (fun c => c.word == t.text))) ∧ Below w.heap.size w w') := indexFunc_any hR w v C h k t hk
  obtain ⟨b, hb⟩ : ∃ b, b = C.any (fun c => c.word == t.text) := ⟨_, rfl⟩
  rw [← hb] at C1 ⊢
  clear h hk hb
  go_enter Tryz.func99, Tryz.ntmps99
  go_wp2_with fail
  refine C1.out.mono ?_
  rintro e w1 ⟨⟨i, rfl, hi⟩, hb1⟩
  have HI : Hid (decide (0 ≤ i) = b) := hi
  clear hi
  go_wp2_with fail
  go_ret
  refine ⟨?_, hb1⟩
  rw [← HI.out]
  rfl
end Go.Proofs.YtnbklmmampdbfaaGreatDoor
namespace Go.Proofs.YtnbklmmampdbfaaGreatDoor
open Go
set_option maxRecDepth 20000

/-- A token but for its place. -/
def st (t : Tok) : Nat × List UInt8 × Nat := (t.kind, t.text, t.num)
abbrev St := Nat × List UInt8 × Nat
def Any (_ : List UInt8) : Prop := True
/-- What doesn't go on with a word or a number. -/
def sepY (Y : List UInt8) : Prop := ∀ y, Y.head? = some y → isLet y = false ∧ isDig y = false
def no62 (Y : List UInt8) : Prop := (Y.head? == some 62) = false
/-- Bytes that come to these tokens, ahead of what is fit. -/
def Lexes (X : List UInt8) (ts : List St) (ok : List UInt8 → Prop) : Prop := ∀ (p : Nat) (Y : List UInt8), ok Y → ∃ T, T.map st = ts ∧ lexW p (X ++ Y) = glue T (lexW (p + X.length) Y)
theorem Lexes.append {A B : List UInt8} {ta tb : List St} {okA okB : List UInt8 → Prop} (h1 : Lexes A ta okA) (h2 : Lexes B tb okB) (h : ∀ Y, okB Y → okA (B ++ Y)) : Lexes (A ++ B) (ta ++ tb) okB := by
  intro p Y hY
  obtain ⟨T1, e1, g1⟩ := h1 p (B ++ Y) (h Y hY)
  obtain ⟨T2, e2, g2⟩ := h2 (p + A.length) Y hY
  refine ⟨T1 ++ T2, by rw [List.map_append, e1, e2], ?_⟩
  rw [List.append_assoc, g1, g2, glue_glue, List.length_append, Nat.add_assoc]
theorem Lexes.nil (ok : List UInt8 → Prop) : Lexes [] [] ok := fun p Y _ => ⟨[], rfl, by rw [glue_nil]; rfl⟩
theorem Lexes.weaken {A : List UInt8} {ta : List St} {ok ok' : List UInt8 → Prop} (h : Lexes A ta ok) (hw : ∀ Y, ok' Y → ok Y) : Lexes A ta ok' := fun p Y hY => h p Y (hw Y hY)

theorem takeWhile_none (q : UInt8 → Bool) (Y : List UInt8) (h : ∀ y, Y.head? = some y → q y = false) : Y.takeWhile q = [] := by
  cases Y with
  | nil => rfl
  | cons y Y => rw [List.takeWhile_cons, if_neg (by rw [h y rfl]; decide)]
theorem let_not {c : UInt8} (h : isLet c = true) : isBlank c = false := by
  unfold isLet at h
  simp only [Bool.and_eq_true, decide_eq_true_eq] at h
  unfold isBlank
  simp only [Bool.or_eq_false_iff, beq_eq_false_iff_ne]
  refine ⟨⟨?_, ?_⟩, ?_⟩ <;> rintro rfl <;> simp at h
theorem dig_not {c : UInt8} (h : isDig c = true) : isBlank c = false ∧ isLet c = false := by
  unfold isDig at h
  simp only [Bool.and_eq_true, decide_eq_true_eq] at h
  refine ⟨?_, ?_⟩
  · unfold isBlank
    simp only [Bool.or_eq_false_iff, beq_eq_false_iff_ne]
    refine ⟨⟨?_, ?_⟩, ?_⟩ <;> rintro rfl <;> simp at h
  · unfold isLet
    simp only [Bool.and_eq_false_iff, decide_eq_false_iff_not]
    omega

theorem lx_word (w : List UInt8) (hw : ∀ c ∈ w, isLet c = true) (hne : w ≠ []) : Lexes w [(1, w, 0)] sepY := by
  intro p Y hY
  cases w with
  | nil => exact absurd rfl hne
  | cons c r =>
    have hc := hw c (by simp)
    have ht : (r ++ Y).takeWhile isLet = r := takeWhile_append_stop isLet Y (fun y hy => (hY y hy).1) r fun x hx => hw x (by simp [hx])
    have hx : lexeme c (r ++ Y) = (Lx.tok 1 (c :: r) 0, r.length) := by
      unfold lexeme
      rw [if_neg (by rw [let_not hc]; decide), if_pos hc, ht]
    refine ⟨[⟨1, p, c :: r, 0⟩], rfl, ?_⟩
    rw [List.cons_append, lexW_tok hx, List.drop_left, List.length_cons]
    congr 2; omega
theorem lx_blank : Lexes [32] [] Any := fun p Y _ => ⟨[], rfl, by
  rw [List.singleton_append, lexW_none (lexeme_blank (by decide) Y), glue_nil]; rfl⟩
theorem lx_one (c : UInt8) (k : Nat) (h : ∀ r, lexeme c r = (Lx.tok k [] 0, 0)) : Lexes [c] [(k, [], 0)] Any := fun p Y _ => ⟨[⟨k, p, [], 0⟩], rfl, by
  rw [List.singleton_append, lexW_tok (h Y)]; rfl⟩
theorem lx_dot : Lexes [46] [(3, [], 0)] Any := lx_one 46 3 fun r => by
  unfold lexeme
  rw [if_neg (by decide), if_neg (by decide), if_neg (by decide), if_pos (by decide)]
theorem lx_slash : Lexes [47] [(4, [], 0)] Any := lx_one 47 4 fun r => by
  unfold lexeme
  rw [if_neg (by decide), if_neg (by decide), if_neg (by decide), if_neg (by decide), if_pos (by decide)]
theorem lx_line : Lexes [10] [(7, [], 0)] Any := lx_one 10 7 lexeme_line
theorem lx_dash : Lexes [45] [(5, [], 0)] no62 := fun p Y hY => ⟨[⟨5, p, [], 0⟩], rfl, by
  have hx : lexeme 45 Y = (Lx.tok 5 [] 0, 0) := by
    unfold lexeme
    rw [if_neg (by decide), if_neg (by decide), if_neg (by decide), if_neg (by decide), if_neg (by decide), if_pos (by decide), if_neg (by rw [hY]; decide)]
  rw [List.singleton_append, lexW_tok hx]; rfl⟩
theorem lx_arrow : Lexes [45, 62] [(6, [], 0)] Any := fun p Y _ => ⟨[⟨6, p, [], 0⟩], rfl, by
  have hx : lexeme 45 (62 :: Y) = (Lx.tok 6 [] 0, 1) := by
    unfold lexeme
    rw [if_neg (by decide), if_neg (by decide), if_neg (by decide), if_neg (by decide), if_neg (by decide), if_pos (by decide), if_pos (by simp)]
  rw [List.cons_append, List.singleton_append, lexW_tok hx]; rfl⟩

/-! Digits. -/
theorem dig_of (k : Nat) (h : k < 10) : isDig (UInt8.ofNat (48 + k)) = true ∧ (UInt8.ofNat (48 + k)).toNat - 48 = k ∧ (UInt8.ofNat (48 + k) == 48) = decide (k = 0) := by
  rcases (show k = 0 ∨ k = 1 ∨ k = 2 ∨ k = 3 ∨ k = 4 ∨ k = 5 ∨ k = 6 ∨ k = 7 ∨ k = 8 ∨ k = 9 by omega) with e | e | e | e | e | e | e | e | e | e <;> subst e <;> decide
theorem val_append (A : List UInt8) (c : UInt8) : val (A ++ [c]) = val A * 10 + (c.toNat - 48) := by simp [val]
theorem decF_facts : ∀ (f n : Nat), n ≤ f → (∀ c ∈ decF f n, isDig c = true) ∧ decF f n ≠ [] ∧ val (decF f n) = n ∧ (n ≠ 0 → (decF f n).head? ≠ some 48) ∧ (n = 0 → (decF f n).length = 1)
  | 0, n, h => by
    obtain rfl : n = 0 := by omega
    refine ⟨?_, ?_, ?_, ?_, ?_⟩ <;> decide
  | f + 1, n, h => by
    rw [decF]
    by_cases hn : n < 10
    · rw [if_pos hn]
      obtain ⟨h1, h2, h3⟩ := dig_of n hn
      refine ⟨fun c hc => by rw [List.mem_singleton.1 hc]; exact h1, by simp, by simp [val]; exact h2, fun h0 => ?_, fun _ => rfl⟩
      rw [List.head?_cons]
      intro he
      rw [Option.some.inj he] at h3
      simp at h3
      exact h0 h3
    · rw [if_neg hn]
      obtain ⟨g1, g2, g3, g4, g5⟩ := decF_facts f (n / 10) (by omega)
      obtain ⟨h1, h2, _⟩ := dig_of (n % 10) (by omega)
      refine ⟨fun c hc => ?_, by simp, ?_, fun _ => ?_, fun h0 => by omega⟩
      · rcases List.mem_append.1 hc with hc | hc
        · exact g1 c hc
        · rw [List.mem_singleton.1 hc]; exact h1
      · rw [val_append, g3, h2]; omega
      · have := g4 (by omega)
        cases hd : decF f (n / 10) with
        | nil => exact absurd hd g2
        | cons c r => rw [hd] at this; simpa using this
theorem dec_facts (n : Nat) : (∀ c ∈ dec n, isDig c = true) ∧ dec n ≠ [] ∧ val (dec n) = n ∧ (n ≠ 0 → (dec n).head? ≠ some 48) ∧ (n = 0 → (dec n).length = 1) := decF_facts n n (Nat.le_refl _)
theorem numOf_dec (n : Nat) (h : n ≤ 4294967295) : numOf (dec n) = some n := by
  obtain ⟨_, _, h3, h4, h5⟩ := dec_facts n
  unfold numOf
  rw [h3, if_neg]
  simp only [Bool.or_eq_true, decide_eq_true_eq, Bool.and_eq_true, beq_iff_eq]
  rintro (h6 | ⟨h6, h7⟩)
  · omega
  · by_cases h0 : n = 0
    · have := h5 h0; omega
    · exact h4 h0 h7
theorem lx_num (n : Nat) (h : n ≤ 4294967295) : Lexes (dec n) [(2, [], n)] sepY := by
  intro p Y hY
  have hn := numOf_dec n h
  obtain ⟨h1, h2, _⟩ := dec_facts n
  cases hd : dec n with
  | nil => exact absurd hd h2
  | cons c r =>
    rw [hd] at h1 hn
    have hc := h1 c (by simp)
    have ht : (r ++ Y).takeWhile isDig = r := takeWhile_append_stop isDig Y (fun y hy => (hY y hy).2) r fun x hx => h1 x (by simp [hx])
    have hx : lexeme c (r ++ Y) = (Lx.tok 2 [] n, r.length) := by
      unfold lexeme
      rw [if_neg (by rw [(dig_not hc).1]; decide), if_neg (by rw [(dig_not hc).2]; decide), if_pos hc, ht, hn]
    refine ⟨[⟨2, p, [], n⟩], rfl, ?_⟩
    rw [List.cons_append, lexW_tok hx, List.drop_left, List.length_cons]
    congr 2; omega

/-- A number that a text may hold. -/
def okF (x : Fig) : Prop := 0 ≤ x.n ∧ x.n ≤ 4294967295
theorem lx_fig (x : Fig) (h : okF x) : Lexes (decI x.n) [(2, [], x.n.toNat)] sepY := by
  unfold decI
  rw [if_pos h.1]
  exact lx_num _ (by have := h.2; omega)
theorem decI_head (x : Fig) (h : okF x) (Y : List UInt8) : no62 (decI x.n ++ Y) := by
  unfold decI no62
  rw [if_pos h.1]
  obtain ⟨h1, h2, _⟩ := dec_facts x.n.toNat
  cases hd : dec x.n.toNat with
  | nil => exact absurd hd h2
  | cons c r =>
    rw [hd] at h1
    have hc := h1 c (by simp)
    simp only [List.cons_append, List.head?_cons]
    cases e : ((some c : Option UInt8) == some 62) with
    | false => rfl
    | true =>
      obtain rfl : c = 62 := by simpa using e
      exact absurd hc (by decide)
def signT (s : UInt8) : St := (if s = 47 then 4 else if s = 45 then 5 else 3, [], 0)
/-- The tokens of numbers with a sign between. -/
def numsT (s : UInt8) : List Fig → List St
  | [] => []
  | [x] => [signT s, (2, [], x.n.toNat)]
  | x :: y :: l => (3, [], 0) :: (2, [], x.n.toNat) :: numsT s (y :: l)
theorem sep_cons {c : UInt8} (h : isLet c = false ∧ isDig c = false) (Y : List UInt8) : sepY (c :: Y) := fun y hy => by
  obtain rfl : c = y := by simpa using hy
  exact h
theorem lx_sign (s : UInt8) (hs : s = 47 ∨ s = 45 ∨ s = 46) (x : Fig) (hx : okF x) : Lexes (s :: decI x.n) [signT s, (2, [], x.n.toNat)] sepY := by
  rcases hs with rfl | rfl | rfl
  · exact lx_slash.append (lx_fig x hx) (fun _ _ => trivial)
  · exact lx_dash.append (lx_fig x hx) (fun Y _ => decI_head x hx Y)
  · exact lx_dot.append (lx_fig x hx) (fun _ _ => trivial)
theorem numsP_sep (s : UInt8) (hs : s = 47 ∨ s = 45 ∨ s = 46) : ∀ (l : List Fig) (Y : List UInt8), sepY Y → sepY (numsP s l ++ Y)
  | [], Y, hY => hY
  | [x], Y, _ => by rcases hs with rfl | rfl | rfl <;> exact sep_cons (by decide) _
  | x :: y :: l, Y, _ => sep_cons (by decide) _
theorem lx_nums (s : UInt8) (hs : s = 47 ∨ s = 45 ∨ s = 46) : ∀ l : List Fig, (∀ x ∈ l, okF x) → Lexes (numsP s l) (numsT s l) sepY
  | [], _ => Lexes.nil _
  | [x], h => lx_sign s hs x (h x (by simp))
  | x :: y :: l, h => by
    have h1 := lx_dot.append (lx_fig x (h x (by simp))) (fun _ _ => trivial)
    exact h1.append (lx_nums s hs (y :: l) fun z hz => h z (by simp [hz])) (fun Y hY => numsP_sep s hs (y :: l) Y hY)
theorem lastSign_ok (c : Cla) : lastSign c = 47 ∨ lastSign c = 45 ∨ lastSign c = 46 := by
  unfold lastSign
  cases c.slash <;> cases c.dash <;> simp
end Go.Proofs.YtnbklmmampdbfaaGreatDoor
namespace Go.Proofs.YtnbklmmampdbfaaGreatDoor
open Go
set_option maxRecDepth 20000

/-- A clause as it may be. -/
def okC (c : Cla) : Prop := (∀ x ∈ c.nums, okF x) ∧
  ((isAddrW c.word = true ∧ c.dash = false ∧ c.nums.length = if c.slash then 5 else 4) ∨ (isPortW c.word = true ∧ isAddrW c.word = false ∧ c.slash = false ∧ c.nums.length = if c.dash then 2 else 1) ∨
    (c.word = wProto ∧ c.slash = false ∧ c.dash = false ∧ c.nums.length = 1))
/-- A line as it may be. -/
structure okR (x : Raw) : Prop where
  prio : okF x.prio
  port : okF x.port
  clauses : ∀ c ∈ x.clauses, okC c
  apart : x.clauses.Pairwise fun a b => a.word ≠ b.word
  dflt : x.dflt = true → x.clauses = [] ∧ x.prio.n = 0
  drop : x.drop = true → x.port.n = 0

def tokC (c : Cla) : List St := (1, c.word, 0) :: (match c.nums with | [] => [] | x :: l => (2, [], x.n.toNat) :: numsT (lastSign c) l)
def tokH (x : Raw) : List St := if x.dflt then [(1, wDefault, 0)] else (2, [], x.prio.n.toNat) :: x.clauses.flatMap tokC
def tokA (x : Raw) : List St := if x.drop then [(1, wDrop, 0)] else [(1, wPort, 0), (2, [], x.port.n.toNat)]
def tokR (x : Raw) : List St := tokH x ++ ([(6, [], 0)] ++ (tokA x ++ [(7, [], 0)]))

theorem word_let {c : Cla} (h : okC c) : (∀ b ∈ c.word, isLet b = true) ∧ c.word ≠ [] := by
  have hw : c.word = wSrc ∨ c.word = wDst ∨ c.word = wSport ∨ c.word = wDport ∨ c.word = wProto := by
    rcases h.2 with ⟨h1, _⟩ | ⟨h1, _⟩ | ⟨h1, _⟩
    · unfold isAddrW at h1; simp only [Bool.or_eq_true, beq_iff_eq] at h1; rcases h1 with h1 | h1 <;> simp [h1]
    · unfold isPortW at h1; simp only [Bool.or_eq_true, beq_iff_eq] at h1; rcases h1 with h1 | h1 <;> simp [h1]
    · simp [h1]
  rcases hw with e | e | e | e | e <;> rw [e] <;> exact ⟨by decide, by decide⟩
theorem lx_cla (c : Cla) (h : okC c) : Lexes (claP c) (tokC c) sepY := by
  obtain ⟨h1, h2⟩ := word_let h
  have hnum : Lexes (numsAll c) (match c.nums with | [] => [] | x :: l => (2, [], x.n.toNat) :: numsT (lastSign c) l) sepY := by
    unfold numsAll
    cases hn : c.nums with
    | nil => exact Lexes.nil _
    | cons x l =>
      have hx : ∀ y ∈ x :: l, okF y := by rw [← hn]; exact h.1
      exact (lx_fig x (hx x (by simp))).append (lx_nums _ (lastSign_ok c) l fun y hy => hx y (by simp [hy])) (fun Y hY => numsP_sep _ (lastSign_ok c) l Y hY)
  have hb : Lexes (32 :: numsAll c) _ sepY := lx_blank.append hnum (fun _ _ => trivial)
  have hw : Lexes (c.word ++ (32 :: numsAll c)) _ sepY := (lx_word c.word h1 h2).append hb (fun Y _ => sep_cons (by decide) _)
  exact lx_blank.append hw (fun _ _ => trivial)
theorem lx_clas : ∀ l : List Cla, (∀ c ∈ l, okC c) → Lexes (l.flatMap claP) (l.flatMap tokC) sepY
  | [], _ => Lexes.nil _
  | c :: l, h => by
    rw [List.flatMap_cons, List.flatMap_cons]
    refine (lx_cla c (h c (by simp))).append (lx_clas l fun d hd => h d (by simp [hd])) (fun Y hY => ?_)
    cases l with
    | nil => exact hY
    | cons d l => rw [List.flatMap_cons]; exact sep_cons (by decide) _
theorem clas_sep (l : List Cla) (Y : List UInt8) (hY : sepY Y) : sepY (l.flatMap claP ++ Y) := by
  cases l with
  | nil => exact hY
  | cons d l => rw [List.flatMap_cons]; exact sep_cons (by decide) _
theorem lx_row (x : Raw) (h : okR x) : Lexes (rowP x) (tokR x) Any := by
  have hh : Lexes (headP x) (tokH x) sepY := by
    unfold headP tokH
    cases hd : x.dflt with
    | true =>
      rw [(h.dflt hd).1, if_pos rfl, if_pos rfl, List.flatMap_nil, List.append_nil]
      exact lx_word wDefault (by decide) (by decide)
    | false =>
      rw [if_neg (by decide), if_neg (by decide)]
      exact (lx_fig x.prio h.prio).append (lx_clas x.clauses h.clauses) (fun Y hY => clas_sep _ Y hY)
  have ha : Lexes (actP x ++ [10]) (tokA x ++ [(7, [], 0)]) Any := by
    unfold actP tokA
    cases hd : x.drop with
    | true => exact (lx_word wDrop (by decide) (by decide)).append lx_line (fun Y _ => sep_cons (by decide) _)
    | false =>
      have h1 := lx_blank.append (lx_fig x.port h.port) (fun _ _ => trivial)
      have h2 := (lx_word wPort (by decide) (by decide)).append h1 (fun Y _ => sep_cons (by decide) _)
      exact h2.append lx_line (fun Y _ => sep_cons (by decide) _)
  have hm : Lexes [32, 45, 62, 32] [(6, [], 0)] Any := (lx_blank.append lx_arrow (fun _ _ => trivial)).append lx_blank (fun _ _ => trivial)
  exact hh.append (hm.append ha (fun _ _ => trivial)) (fun Y _ => sep_cons (by decide) _)
theorem lx_print : ∀ l : List Raw, (∀ x ∈ l, okR x) → Lexes (printT l) (l.flatMap tokR) Any
  | [], _ => Lexes.nil _
  | x :: l, h => by
    unfold printT
    rw [List.flatMap_cons, List.flatMap_cons]
    exact (lx_row x (h x (by simp))).append (lx_print l fun y hy => h y (by simp [hy])) (fun _ _ => trivial)
/-- WHAT IS PRINTED COMES TO ITS TOKENS. -/
theorem lex_print (l : List Raw) (h : ∀ x ∈ l, okR x) : ∃ T, T.map st = l.flatMap tokR ∧ lexW 0 (printT l) = .ok T := by
  obtain ⟨T, h1, h2⟩ := lx_print l h 0 [] trivial
  rw [List.append_nil, lexW_nil] at h2
  exact ⟨T, h1, by rw [h2]; simp [glue]⟩

/-! The tokens of a line, parsed. -/
def clC (c : Cla) : List UInt8 × List Int × Bool × Bool := (c.word, c.nums.map (·.n), c.slash, c.dash)
def clR (x : Raw) : Bool × Int × List (List UInt8 × List Int × Bool × Bool) × Bool × Int := (x.dflt, x.prio.n, x.clauses.map clC, x.drop, x.port.n)

theorem map_cons {T : List Tok} {a : St} {b : List St} (h : T.map st = a :: b) : ∃ t T', T = t :: T' ∧ st t = a ∧ T'.map st = b := by
  cases T with
  | nil => simp at h
  | cons t T' =>
    rw [List.map_cons] at h
    exact ⟨t, T', rfl, (List.cons.inj h).1, (List.cons.inj h).2⟩
theorem takeK_ok (E k : Nat) {T : List Tok} {w : List UInt8} {v : Nat} {b : List St} (h : T.map st = (k, w, v) :: b) : ∃ t T', takeK E k T = .ok (t, T') ∧ st t = (k, w, v) ∧ T'.map st = b := by
  obtain ⟨t, T', rfl, h1, h2⟩ := map_cons h
  refine ⟨t, T', ?_, h1, h2⟩
  have : t.kind = k := congrArg Prod.fst h1
  rw [takeK, if_pos this]
theorem takeF_ok (E : Nat) {T : List Tok} {x : Int} {b : List St} (hx : 0 ≤ x) (h : T.map st = (2, [], x.toNat) :: b) : ∃ f T', takeF E T = .ok (f, T') ∧ f.n = x ∧ T'.map st = b := by
  obtain ⟨t, T', h1, h2, h3⟩ := takeK_ok E 2 h
  refine ⟨⟨(t.num : Int), (t.pos : Int)⟩, T', by unfold takeF; rw [h1]; rfl, ?_, h3⟩
  have : t.num = x.toNat := congrArg (fun s => s.2.2) h2
  show (t.num : Int) = x
  omega
theorem takeD_ok (E : Nat) : ∀ (n : Nat) (l : List Fig) (T : List Tok) (b : List St), l.length = n → (∀ x ∈ l, okF x) → T.map st = numsT 46 l ++ b → ∃ l' T', takeD E n T = .ok (l', T') ∧ l'.map (·.n) = l.map (·.n) ∧ T'.map st = b
  | 0, l, T, b, hl, _, h => by
    obtain rfl : l = [] := List.eq_nil_of_length_eq_zero hl
    exact ⟨[], T, rfl, rfl, h⟩
  | n + 1, [], T, b, hl, _, _ => by simp at hl
  | n + 1, x :: l, T, b, hl, hx, h => by
    have h' : T.map st = (3, [], 0) :: (2, [], x.n.toNat) :: (numsT 46 l ++ b) := by
      cases l with
      | nil => exact h
      | cons y l => exact h
    obtain ⟨t, T1, e1, _, h1⟩ := takeK_ok E 3 h'
    obtain ⟨f, T2, e2, hf, h2⟩ := takeF_ok E (hx x (by simp)).1 h1
    obtain ⟨l', T3, e3, hl', h3⟩ := takeD_ok E n l T2 b (by simpa using hl) (fun y hy => hx y (by simp [hy])) h2
    refine ⟨f :: l', T3, ?_, by rw [List.map_cons, List.map_cons, hf, hl'], h3⟩
    rw [takeD, e1]
    simp [Except.bind, Except.map, e2, e3]
theorem numsT_split (s : UInt8) : ∀ (l : List Fig) (x : Fig), numsT s (l ++ [x]) = numsT 46 l ++ [signT s, (2, [], x.n.toNat)]
  | [], x => rfl
  | [y], x => rfl
  | y :: z :: l, x => by
    have := numsT_split s (z :: l) x
    rw [List.cons_append, List.cons_append] at *
    simp only [numsT, List.cons_append, this]
/-- No sign of a kind at hand. -/
def notK (k : Nat) (b : List St) : Prop := ∀ s, b.head? = some s → s.1 ≠ k
theorem takeO_no (E k : Nat) {T : List Tok} {b : List St} (h : T.map st = b) (hb : notK k b) : takeO E k T = .ok (none, T) := by
  cases T with
  | nil => rfl
  | cons t T =>
    rw [takeO, if_neg]
    intro hk
    refine hb (st t) ?_ hk
    rw [← h]; rfl
theorem takeO_yes (E k : Nat) {T : List Tok} {x : Int} {b : List St} (hx : 0 ≤ x) (h : T.map st = (k, [], 0) :: (2, [], x.toNat) :: b) : ∃ f T', takeO E k T = .ok (some f, T') ∧ f.n = x ∧ T'.map st = b := by
  obtain ⟨t, T1, rfl, h1, h2⟩ := map_cons h
  obtain ⟨f, T2, e2, hf, h3⟩ := takeF_ok E hx h2
  refine ⟨f, T2, ?_, hf, h3⟩
  have : t.kind = k := congrArg Prod.fst h1
  rw [takeO, if_pos this, e2]
  rfl

theorem proto_not : isAddrW wProto = false ∧ isPortW wProto = false := by decide
theorem claT_ok (E : Nat) (had : List Cla) (c : Cla) (hc : okC c) (hh : had.any (fun d => d.word == c.word) = false) {T : List Tok} {b : List St} (h : T.map st = tokC c ++ b) (h4 : notK 4 b) (h5 : notK 5 b) :
    ∃ t T0 c' T', T = t :: T0 ∧ t.kind = 1 ∧ takeC E had t T0 = .ok (c', T') ∧ clC c' = clC c ∧ T'.map st = b := by
  obtain ⟨t, T0, rfl, ht, h0⟩ := map_cons (show T.map st = (1, c.word, 0) :: _ from h)
  have hk : t.kind = 1 := congrArg Prod.fst ht
  have hw : t.text = c.word := congrArg (fun s => s.2.1) ht
  obtain ⟨hx, hcase⟩ := hc
  have hne : c.nums ≠ [] := by
    intro e
    rw [e] at hcase
    rcases hcase with ⟨_, _, hl⟩ | ⟨_, _, _, hl⟩ | ⟨_, _, _, hl⟩
    · split at hl <;> simp at hl
    · split at hl <;> simp at hl
    · simp at hl
  obtain ⟨n0, l, hn⟩ : ∃ n0 l, c.nums = n0 :: l := by
    cases e : c.nums with
    | nil => exact absurd e hne
    | cons n0 l => exact ⟨n0, l, rfl⟩
  rw [hn] at h0 hx hcase
  obtain ⟨f0, T1, e1, hf0, h1⟩ := takeF_ok E (hx n0 (by simp)).1 (show T0.map st = (2, [], n0.n.toNat) :: (numsT (lastSign c) l ++ b) from h0)
  refine ⟨t, T0, ?_⟩
  have hxl : ∀ y ∈ l, okF y := fun y hy => hx y (by simp [hy])
  rcases hcase with ⟨ha, hd, hl⟩ | ⟨hp, ha, hs, hl⟩ | ⟨hpw, hs, hd, hl⟩
  · cases hsl : c.slash with
    | false =>
      rw [hsl] at hl
      have hls : lastSign c = 46 := by unfold lastSign; rw [hsl, hd]; rfl
      rw [hls] at h1
      obtain ⟨l', T2, e2, hl', h2⟩ := takeD_ok E 3 l T1 b (by simpa using hl) hxl h1
      have e3 := takeO_no E 4 h2 h4
      refine ⟨⟨t.text, (t.pos : Int), f0 :: l' ++ (none : Option Fig).toList, (none : Option Fig).isSome, false⟩, T2, rfl, hk, ?_, ?_, h2⟩
      · unfold takeC
        rw [hw, ha, hh, if_neg (by simp), if_neg (by simp), e1]
        simp [Except.bind, Except.map, e2, e3]
      · simp [clC, hw, hn, hf0, hl', hsl, hd]
    | true =>
      rw [hsl] at hl
      have hls : lastSign c = 47 := by unfold lastSign; rw [hsl]; rfl
      obtain ⟨l3, x, rfl⟩ : ∃ l3 x, l = l3 ++ [x] := by
        have hne2 : l ≠ [] := by intro e; rw [e] at hl; simp at hl
        exact ⟨l.dropLast, l.getLast hne2, (List.dropLast_concat_getLast hne2).symm⟩
      rw [hls, numsT_split, List.append_assoc] at h1
      obtain ⟨l', T2, e2, hl', h2⟩ := takeD_ok E 3 l3 T1 _ (by simp at hl; omega) (fun y hy => hxl y (by simp [hy])) h1
      obtain ⟨f1, T3, e3, hf1, h3⟩ := takeO_yes E 4 (hxl x (by simp)).1 (show T2.map st = (4, [], 0) :: (2, [], x.n.toNat) :: b from h2)
      refine ⟨⟨t.text, (t.pos : Int), f0 :: l' ++ (some f1).toList, (some f1).isSome, false⟩, T3, rfl, hk, ?_, ?_, h3⟩
      · unfold takeC
        rw [hw, ha, hh, if_neg (by simp), if_neg (by simp), e1]
        simp [Except.bind, Except.map, e2, e3]
      · simp [clC, hw, hn, hf0, hl', hsl, hd, hf1]
  · cases hda : c.dash with
    | false =>
      rw [hda] at hl
      obtain rfl : l = [] := by simpa using hl
      have e3 := takeO_no E 5 (show T1.map st = b from h1) h5
      refine ⟨⟨t.text, (t.pos : Int), f0 :: (none : Option Fig).toList, false, (none : Option Fig).isSome⟩, T1, rfl, hk, ?_, ?_, h1⟩
      · unfold takeC
        rw [hw, ha, hp, hh, if_neg (by simp), if_neg (by simp), e1]
        simp [Except.bind, Except.map, e3]
      · simp [clC, hw, hn, hf0, hs, hda]
    | true =>
      rw [hda] at hl
      obtain ⟨x, rfl⟩ : ∃ x, l = [x] := List.length_eq_one_iff.1 (by simpa using hl)
      have hls : lastSign c = 45 := by unfold lastSign; rw [hs, hda]; rfl
      rw [hls] at h1
      obtain ⟨f1, T3, e3, hf1, h3⟩ := takeO_yes E 5 (hxl x (by simp)).1 (show T1.map st = (5, [], 0) :: (2, [], x.n.toNat) :: b from h1)
      refine ⟨⟨t.text, (t.pos : Int), f0 :: (some f1).toList, false, (some f1).isSome⟩, T3, rfl, hk, ?_, ?_, h3⟩
      · unfold takeC
        rw [hw, ha, hp, hh, if_neg (by simp), if_neg (by simp), e1]
        simp [Except.bind, Except.map, e3]
      · simp [clC, hw, hn, hf0, hs, hda, hf1]
  · obtain rfl : l = [] := by simpa using hl
    refine ⟨⟨t.text, (t.pos : Int), [f0], false, false⟩, T1, rfl, hk, ?_, ?_, h1⟩
    · unfold takeC
      rw [hw, hpw, proto_not.1, proto_not.2]
      rw [hpw] at hh
      rw [hh, if_neg (by simp), if_neg (by simp), e1]
      simp [Except.bind]
    · simp [clC, hw, hn, hf0, hs, hd]

theorem clas_ok (E : Nat) : ∀ (l : List Cla) (f : Nat) (had : List Cla) (T : List Tok) (b : List St), l.length ≤ f → (∀ c ∈ l, okC c) → l.Pairwise (fun a b => a.word ≠ b.word) → (∀ d ∈ had, ∀ c ∈ l, d.word ≠ c.word) → T.map st = l.flatMap tokC ++ b → notK 1 b → notK 4 b → notK 5 b →
    ∃ l' T', takeCs E f had T = .ok (had ++ l', T') ∧ l'.map clC = l.map clC ∧ T'.map st = b
  | [], f, had, T, b, _, _, _, _, h, h1, _, _ => by
    refine ⟨[], T, ?_, rfl, h⟩
    rw [List.append_nil]
    cases f with
    | zero => rfl
    | succ f =>
      cases T with
      | nil => rfl
      | cons t T =>
        rw [takeCs, if_neg]
        intro hk
        exact h1 (st t) (by rw [← show (t :: T).map st = b from h]; rfl) hk
  | c :: l, 0, had, T, b, hf, _, _, _, _, _, _, _ => by simp at hf
  | c :: l, f + 1, had, T, b, hf, hok, hpw, hhad, h, h1, h4, h5 => by
    rw [List.flatMap_cons, List.append_assoc] at h
    have nk : ∀ k, k ≠ 1 → notK k b → notK k (l.flatMap tokC ++ b) := fun k hk1 hb => by
      cases l with
      | nil => exact hb
      | cons d l =>
        intro s hs
        obtain rfl : (1, d.word, 0) = s := by simpa [tokC] using hs
        exact fun e => hk1 e.symm
    have hany : had.any (fun d => d.word == c.word) = false := by
      rw [List.any_eq_false]
      intro d hd
      have := hhad d hd c (by simp)
      simpa using this
    obtain ⟨t, T0, c', T', rfl, hk, e1, hc', h2⟩ := claT_ok E had c (hok c (by simp)) hany h (nk 4 (by decide) h4) (nk 5 (by decide) h5)
    rw [List.pairwise_cons] at hpw
    have hw : c'.word = c.word := congrArg Prod.fst hc'
    obtain ⟨l', T2, e2, hl', h3⟩ := clas_ok E l f (had ++ [c']) T' b (by simpa using hf) (fun d hd => hok d (by simp [hd])) hpw.2 (fun d hd e he => by
      rcases List.mem_append.1 hd with hd | hd
      · exact hhad d hd e (by simp [he])
      · rw [List.mem_singleton.1 hd, hw]; exact hpw.1 e he) h2 h1 h4 h5
    refine ⟨c' :: l', T2, ?_, by rw [List.map_cons, List.map_cons, hc', hl'], h3⟩
    rw [takeCs, if_pos hk, e1]
    simp only [Except.bind]
    rw [e2, List.append_assoc]; rfl

theorem tok_len (c : Cla) : 1 ≤ (tokC c).length := by unfold tokC; simp
theorem toks_len (l : List Cla) : l.length ≤ (l.flatMap tokC).length := by
  induction l with
  | nil => exact Nat.le_refl _
  | cons c l ih =>
    have := tok_len c
    rw [List.flatMap_cons, List.length_append, List.length_cons]; omega
theorem rowT_ok (E : Nat) (x : Raw) (hx : okR x) {T : List Tok} {b : List St} (h : T.map st = tokR x ++ b) :
    ∃ x' T', takeR E T = .ok (x', T') ∧ clR x' = clR x ∧ T'.map st = (7, [], 0) :: b := by
  have hhead : ∀ b', T.map st = tokH x ++ (6, [], 0) :: b' → ∃ d p cs T1, takeH E T = .ok ((d, p, cs), T1) ∧ d = x.dflt ∧ p.n = x.prio.n ∧ cs.map clC = x.clauses.map clC ∧ T1.map st = (6, [], 0) :: b' := by
    intro b' hT
    unfold tokH at hT
    cases hd : x.dflt with
    | true =>
      rw [hd, if_pos rfl] at hT
      obtain ⟨t, T0, rfl, ht, h0⟩ := map_cons (show T.map st = (1, wDefault, 0) :: (6, [], 0) :: b' from hT)
      have hk : t.kind = 1 := congrArg Prod.fst ht
      have hw : t.text = wDefault := congrArg (fun s => s.2.1) ht
      refine ⟨true, ⟨0, 0⟩, [], T0, by rw [takeH, if_pos ⟨hk, hw⟩], rfl, (hx.dflt hd).2.symm, by rw [(hx.dflt hd).1], h0⟩
    | false =>
      rw [hd, if_neg (by decide)] at hT
      obtain ⟨f, T1, e1, hf, h1⟩ := takeF_ok E hx.prio.1 (show T.map st = (2, [], x.prio.n.toNat) :: (x.clauses.flatMap tokC ++ (6, [], 0) :: b') from hT)
      have hlen : x.clauses.length ≤ T1.length := by
        have h2 := congrArg List.length h1
        rw [List.length_map, List.length_append] at h2
        have := toks_len x.clauses
        omega
      have nk : ∀ k, k ≠ 6 → notK k ((6, [], 0) :: b') := fun k hk s hs => by
        obtain rfl : (6, [], 0) = s := by simpa using hs
        exact fun e => hk e.symm
      obtain ⟨l', T2, e2, hl', h2⟩ := clas_ok E x.clauses T1.length [] T1 _ hlen hx.clauses hx.apart (fun d hd => by simp at hd) h1 (nk 1 (by decide)) (nk 4 (by decide)) (nk 5 (by decide))
      cases T with
      | nil => simp at hT
      | cons t T0 =>
        have hk2 : t.kind = 2 := congrArg Prod.fst (List.cons.inj (show st t :: T0.map st = (2, [], x.prio.n.toNat) :: _ from hT)).1
        refine ⟨false, f, l', T2, ?_, rfl, hf, hl', h2⟩
        rw [takeH, if_neg (by rintro ⟨hk, _⟩; omega), e1]
        simp [Except.bind, Except.map, e2]
  have hact : ∀ {T2 : List Tok}, T2.map st = tokA x ++ (7, [], 0) :: b → ∃ d p T3, takeA E T2 = .ok ((d, p), T3) ∧ d = x.drop ∧ p.n = x.port.n ∧ T3.map st = (7, [], 0) :: b := by
    intro T2 hT
    unfold tokA at hT
    cases hd : x.drop with
    | true =>
      rw [hd, if_pos rfl] at hT
      obtain ⟨t, T0, rfl, ht, h0⟩ := map_cons (show T2.map st = (1, wDrop, 0) :: (7, [], 0) :: b from hT)
      have hk : t.kind = 1 := congrArg Prod.fst ht
      have hw : t.text = wDrop := congrArg (fun s => s.2.1) ht
      exact ⟨true, ⟨0, 0⟩, T0, by rw [takeA, if_pos ⟨hk, hw⟩], rfl, (hx.drop hd).symm, h0⟩
    | false =>
      rw [hd, if_neg (by decide)] at hT
      obtain ⟨t, T0, rfl, ht, h0⟩ := map_cons (show T2.map st = (1, wPort, 0) :: (2, [], x.port.n.toNat) :: (7, [], 0) :: b from hT)
      have hk : t.kind = 1 := congrArg Prod.fst ht
      have hw : t.text = wPort := congrArg (fun s => s.2.1) ht
      obtain ⟨f, T3, e3, hf, h3⟩ := takeF_ok E hx.port.1 h0
      refine ⟨false, f, T3, ?_, rfl, hf, h3⟩
      rw [takeA, if_neg (by rintro ⟨_, e⟩; rw [hw] at e; exact absurd e (by decide)), if_pos ⟨hk, hw⟩, e3]
      rfl
  have hT : T.map st = tokH x ++ (6, [], 0) :: (tokA x ++ (7, [], 0) :: b) := by
    rw [h]; simp [tokR]
  obtain ⟨d, p, cs, T1, e1, rfl, hp, hcs, h1⟩ := hhead _ hT
  obtain ⟨t, T2, e2, _, h2⟩ := takeK_ok E 6 h1
  obtain ⟨d2, p2, T3, e3, rfl, hp2, h3⟩ := hact h2
  have e4 : takeE T3 = .ok T3 := by
    obtain ⟨u, T4, rfl, hu, _⟩ := map_cons h3
    have hk : u.kind = 7 := congrArg Prod.fst hu
    rw [takeE, if_pos hk]
  refine ⟨⟨(posOf E T : Int), x.dflt, p, cs, x.drop, p2⟩, T3, ?_, by simp [clR, hp, hcs, hp2], h3⟩
  unfold takeR
  rw [e1]
  simp [Except.bind, Except.map, e2, e3, e4]
theorem tokR_head (x : Raw) : ∃ s r, tokR x = s :: r ∧ s.1 ≠ 7 := by
  unfold tokR tokH
  cases x.dflt
  · exact ⟨_, _, rfl, show (2 : Nat) ≠ 7 by decide⟩
  · exact ⟨_, _, rfl, show (1 : Nat) ≠ 7 by decide⟩
theorem rows_ok (E : Nat) : ∀ (l : List Raw) (f : Nat) (had : List Raw) (T : List Tok), T.length < f → had.length + l.length ≤ 64 → (∀ x ∈ l, okR x) → T.map st = l.flatMap tokR → ∃ l', takeL E f had T = .ok (had ++ l') ∧ l'.map clR = l.map clR
  | [], f, had, T, hf, _, _, h => by
    obtain rfl : T = [] := by simpa using h
    refine ⟨[], ?_, rfl⟩
    rw [List.append_nil]
    cases f with
    | zero => rfl
    | succ f => rfl
  | x :: l, 0, had, T, hf, _, _, _ => by omega
  | x :: l, 1, had, T, hf, _, _, h => by
    obtain rfl : T = [] := List.eq_nil_of_length_eq_zero (by omega)
    obtain ⟨s, r, e, _⟩ := tokR_head x
    rw [List.flatMap_cons, e] at h
    simp at h
  | x :: l, f + 2, had, T, hf, h64, hok, h => by
    rw [List.flatMap_cons] at h
    obtain ⟨x', T', e1, hx', h1⟩ := rowT_ok E x (hok x (by simp)) h
    obtain ⟨s, r, e, hs⟩ := tokR_head x
    rw [e, List.cons_append] at h
    obtain ⟨t, T0, rfl, ht, _⟩ := map_cons h
    have hk : t.kind ≠ 7 := by rw [show t.kind = s.1 from congrArg Prod.fst ht]; exact hs
    obtain ⟨u, T2, rfl, hu, h2⟩ := map_cons h1
    have hku : u.kind = 7 := congrArg Prod.fst hu
    have hlen : T2.length < f := by
      have a1 := congrArg List.length h
      have a2 := congrArg List.length h2
      have a3 : 4 ≤ (tokR x).length := by
        unfold tokR tokH tokA
        cases x.dflt <;> cases x.drop <;> simp <;> omega
      rw [e] at a3
      simp only [List.length_map, List.length_cons, List.length_append] at a1 a2 a3 hf
      omega
    obtain ⟨l', e2, hl'⟩ := rows_ok E l f (had ++ [x']) T2 hlen (by simp at h64 ⊢; omega) (fun y hy => hok y (by simp [hy])) h2
    refine ⟨x' :: l', ?_, by rw [List.map_cons, List.map_cons, hx', hl']⟩
    rw [takeL, if_neg hk, if_neg (by simp at h64; omega), e1]
    simp only [Except.bind]
    rw [takeL, if_pos hku, e2, List.append_assoc]; rfl
/-- WHAT IS PRINTED IS PARSED AGAIN AS THE SAME, BUT FOR PLACES. -/
theorem parse_print (l : List Raw) (h : ∀ x ∈ l, okR x) (h64 : l.length ≤ 64) (hlen : (printT l).length ≤ 4096) : ∃ l', parseT (printT l) = .ok l' ∧ l'.map clR = l.map clR := by
  obtain ⟨T, h1, h2⟩ := lex_print l h
  obtain ⟨l', e, hl'⟩ := rows_ok (printT l).length l (T.length + 1) [] T (by omega) (by simpa using h64) h h1
  refine ⟨l', ?_, hl'⟩
  unfold parseT
  rw [if_neg (by omega), h2]
  exact e

/-! What is parsed is as it may be. -/
def okT (T : List Tok) : Prop := ∀ t ∈ T, t.num ≤ 4294967295
theorem okT_tail {t : Tok} {T : List Tok} (h : okT (t :: T)) : okT T := fun u hu => h u (by simp [hu])
theorem lexeme_num {c : UInt8} {r : List UInt8} {n k v : Nat} {t : List UInt8} (h : lexeme c r = (Lx.tok k t v, n)) : v ≤ 4294967295 := by
  unfold lexeme at h
  repeat' split at h
  all_goals simp only [Prod.mk.injEq, Except.ok.injEq, Option.some.injEq, reduceCtorEq, false_and] at h
  all_goals try omega
  rename_i m hm
  obtain ⟨⟨_, _, rfl⟩, _⟩ := h
  unfold numOf at hm
  split at hm
  · simp at hm
  · rename_i hc
    simp only [Bool.or_eq_true, decide_eq_true_eq, not_or] at hc
    have := Option.some.inj hm
    omega
theorem lexW_okT : ∀ (S : List UInt8) (p : Nat) (l : List Tok), lexW p S = .ok l → okT l := by
  refine lexW_induct _ (fun p l h => ?_) (fun p c r n hx ih l h => ?_) (fun p c r n k t v hx ih l h => ?_) (fun p c r n e hx l h => ?_)
  · rw [lexW_nil] at h
    obtain rfl : [] = l := Except.ok.inj h
    intro t ht; simp at ht
  · rw [lexW_none hx] at h; exact ih l h
  · rw [lexW_tok hx] at h
    cases hy : lexW (p + 1 + n) (r.drop n) with
    | error x => rw [hy] at h; simp [glue] at h
    | ok l' =>
      rw [hy] at h
      obtain rfl : ⟨k, p, t, v⟩ :: l' = l := by simpa [glue] using h
      intro u hu
      rcases List.mem_cons.1 hu with rfl | hu
      · exact lexeme_num hx
      · exact ih l' hy u hu
  · rw [lexW_err hx] at h; cases h

theorem bind_ok {α β : Type} {x : Res α} {f : α → Res β} {b : β} (h : x.bind f = .ok b) : ∃ a, x = .ok a ∧ f a = .ok b := by
  cases x with
  | error e => simp [Except.bind] at h
  | ok a => exact ⟨a, rfl, h⟩
theorem map_ok {α β : Type} {x : Res α} {f : α → β} {b : β} (h : x.map f = .ok b) : ∃ a, x = .ok a ∧ f a = b := by
  cases x with
  | error e => simp [Except.map] at h
  | ok a => exact ⟨a, rfl, Except.ok.inj h⟩
theorem takeK_in {E k : Nat} {T T' : List Tok} {t : Tok} (h : takeK E k T = .ok (t, T')) : T = t :: T' ∧ t.kind = k := by
  cases T with
  | nil => simp [takeK] at h
  | cons u T =>
    rw [takeK] at h
    split at h
    · rename_i hk
      obtain ⟨rfl, rfl⟩ := Prod.mk.inj (Except.ok.inj h)
      exact ⟨rfl, hk⟩
    · cases h
theorem takeF_in {E : Nat} {T T' : List Tok} {f : Fig} (h : takeF E T = .ok (f, T')) (hT : okT T) : okF f ∧ okT T' := by
  obtain ⟨⟨t, T1⟩, h1, h2⟩ := map_ok h
  obtain ⟨rfl, _⟩ := takeK_in h1
  obtain ⟨rfl, rfl⟩ := Prod.mk.inj h2
  have := hT t (by simp)
  exact ⟨⟨show (0 : Int) ≤ (t.num : Int) by omega, show ((t.num : Nat) : Int) ≤ 4294967295 by omega⟩, okT_tail hT⟩
theorem takeD_in {E : Nat} : ∀ {n : Nat} {T T' : List Tok} {l : List Fig}, takeD E n T = .ok (l, T') → okT T → (∀ x ∈ l, okF x) ∧ l.length = n ∧ okT T'
  | 0, T, T', l, h, hT => by
    obtain ⟨rfl, rfl⟩ := Prod.mk.inj (Except.ok.inj h)
    exact ⟨fun x hx => by simp at hx, rfl, hT⟩
  | n + 1, T, T', l, h, hT => by
    rw [takeD] at h
    obtain ⟨⟨t, T1⟩, h1, ha⟩ := bind_ok h
    obtain ⟨⟨f, T2⟩, h2, hb⟩ := bind_ok ha
    obtain ⟨⟨l2, T3⟩, h3, hc⟩ := map_ok hb
    obtain ⟨hTe, _⟩ := takeK_in h1
    rw [hTe] at hT
    obtain ⟨f1, g1⟩ := takeF_in h2 (okT_tail hT)
    obtain ⟨f2, f3, g2⟩ := takeD_in h3 g1
    obtain ⟨rfl, rfl⟩ := Prod.mk.inj hc
    refine ⟨fun x hx => ?_, by simp [f3], g2⟩
    rcases List.mem_cons.1 hx with rfl | hx
    · exact f1
    · exact f2 x hx
theorem takeO_in {E k : Nat} {T T' : List Tok} {o : Option Fig} (h : takeO E k T = .ok (o, T')) (hT : okT T) : (∀ x ∈ o.toList, okF x) ∧ okT T' := by
  cases T with
  | nil =>
    obtain ⟨rfl, rfl⟩ := Prod.mk.inj (Except.ok.inj h)
    exact ⟨fun x hx => by simp at hx, hT⟩
  | cons t T =>
    rw [takeO] at h
    split at h
    · obtain ⟨⟨f, T1⟩, h1, h2⟩ := map_ok h
      obtain ⟨f1, g1⟩ := takeF_in h1 (okT_tail hT)
      obtain ⟨rfl, rfl⟩ := Prod.mk.inj h2
      refine ⟨fun x hx => ?_, g1⟩
      obtain rfl : x = f := by simpa using hx
      exact f1
    · obtain ⟨rfl, rfl⟩ := Prod.mk.inj (Except.ok.inj h)
      exact ⟨fun x hx => by simp at hx, hT⟩
theorem optLen (o : Option Fig) : o.toList.length = if o.isSome then 1 else 0 := by cases o <;> rfl
theorem takeC_in {E : Nat} {had : List Cla} {t : Tok} {T T' : List Tok} {c : Cla} (h : takeC E had t T = .ok (c, T')) (hT : okT T) : okC c ∧ c.word = t.text ∧ (∀ d ∈ had, d.word ≠ c.word) ∧ okT T' := by
  unfold takeC at h
  split at h
  · cases h
  rename_i hw
  split at h
  · cases h
  rename_i hany
  obtain ⟨⟨f, T1⟩, h1, h⟩ := bind_ok h
  obtain ⟨f1, g1⟩ := takeF_in h1 hT
  have hhad : ∀ d ∈ had, d.word ≠ t.text := fun d hd e => hany (by rw [List.any_eq_true]; exact ⟨d, hd, by simp [e]⟩)
  simp only at h
  split at h
  · rename_i ha
    obtain ⟨⟨l, T2⟩, h2, h⟩ := bind_ok h
    obtain ⟨⟨o, T3⟩, h3, h⟩ := map_ok h
    obtain ⟨f2, f3, g2⟩ := takeD_in h2 g1
    obtain ⟨f4, g3⟩ := takeO_in h3 g2
    obtain ⟨rfl, rfl⟩ := Prod.mk.inj h
    refine ⟨⟨fun x hx => ?_, .inl ⟨ha, rfl, ?_⟩⟩, rfl, hhad, g3⟩
    · rcases List.mem_append.1 hx with hx | hx
      · rcases List.mem_cons.1 hx with rfl | hx
        · exact f1
        · exact f2 x hx
      · exact f4 x hx
    · simp only [List.length_append, List.length_cons, f3, optLen]
      cases o <;> rfl
  · rename_i ha
    split at h
    · rename_i hp
      obtain ⟨⟨o, T3⟩, h3, h⟩ := map_ok h
      obtain ⟨f4, g3⟩ := takeO_in h3 g1
      obtain ⟨rfl, rfl⟩ := Prod.mk.inj h
      refine ⟨⟨fun x hx => ?_, .inr (.inl ⟨hp, by simpa using ha, rfl, ?_⟩)⟩, rfl, hhad, g3⟩
      · rcases List.mem_cons.1 hx with rfl | hx
        · exact f1
        · exact f4 x hx
      · simp only [List.length_cons, optLen]
        cases o <;> rfl
    · rename_i hp
      obtain ⟨rfl, rfl⟩ := Prod.mk.inj (Except.ok.inj h)
      refine ⟨⟨fun x hx => ?_, .inr (.inr ⟨?_, rfl, rfl, rfl⟩)⟩, rfl, hhad, g1⟩
      · rw [List.mem_singleton.1 hx]; exact f1
      · simp only [Bool.and_eq_true, Bool.not_eq_true'] at hw
        have ha' : isAddrW t.text = false := by simpa using ha
        have hp' : isPortW t.text = false := by simpa using hp
        cases e : (t.text == wProto) with
        | true => simpa using e
        | false => exact absurd ⟨⟨ha', hp'⟩, e⟩ hw
theorem takeCs_in {E : Nat} : ∀ {f : Nat} {had : List Cla} {T T' : List Tok} {l : List Cla}, takeCs E f had T = .ok (l, T') → okT T → (∀ c ∈ had, okC c) → had.Pairwise (fun a b => a.word ≠ b.word) → (∀ c ∈ l, okC c) ∧ l.Pairwise (fun a b => a.word ≠ b.word) ∧ okT T'
  | 0, had, T, T', l, h, hT, h1, h2 => by
    obtain ⟨rfl, rfl⟩ := Prod.mk.inj (Except.ok.inj h)
    exact ⟨h1, h2, hT⟩
  | f + 1, had, [], T', l, h, hT, h1, h2 => by
    obtain ⟨rfl, rfl⟩ := Prod.mk.inj (Except.ok.inj h)
    exact ⟨h1, h2, hT⟩
  | f + 1, had, t :: T, T', l, h, hT, h1, h2 => by
    rw [takeCs] at h
    split at h
    · obtain ⟨⟨c, T1⟩, h3, h⟩ := bind_ok h
      obtain ⟨g1, _, g3, g4⟩ := takeC_in h3 (okT_tail hT)
      refine takeCs_in h g4 (fun d hd => ?_) ?_
      · rcases List.mem_append.1 hd with hd | hd
        · exact h1 d hd
        · rw [List.mem_singleton.1 hd]; exact g1
      · rw [List.pairwise_append]
        exact ⟨h2, List.pairwise_singleton _ _, fun a ha b hb => by rw [List.mem_singleton.1 hb]; exact g3 a ha⟩
    · obtain ⟨rfl, rfl⟩ := Prod.mk.inj (Except.ok.inj h)
      exact ⟨h1, h2, hT⟩
theorem okF0 : okF ⟨0, 0⟩ := ⟨by decide, by decide⟩
theorem takeR_in {E : Nat} {T T' : List Tok} {x : Raw} (h : takeR E T = .ok (x, T')) (hT : okT T) : okR x ∧ okT T' := by
  unfold takeR at h
  obtain ⟨⟨⟨d, p, cs⟩, T1⟩, h1, ha⟩ := bind_ok h
  obtain ⟨⟨t, T2⟩, h2, hb⟩ := bind_ok ha
  obtain ⟨⟨⟨dr, po⟩, T3⟩, h3, hc⟩ := bind_ok hb
  obtain ⟨T4, h4, hd⟩ := map_ok hc
  obtain ⟨rfl, rfl⟩ := Prod.mk.inj hd
  clear h ha hb hc hd
  have hH : okF p ∧ (∀ c ∈ cs, okC c) ∧ cs.Pairwise (fun a b => a.word ≠ b.word) ∧ (d = true → cs = [] ∧ p.n = 0) ∧ okT T1 := by
    cases T with
    | nil => simp [takeH] at h1
    | cons u T =>
      rw [takeH] at h1
      split at h1
      · obtain ⟨e1, rfl⟩ := Prod.mk.inj (Except.ok.inj h1)
        obtain ⟨rfl, e2⟩ := Prod.mk.inj e1
        obtain ⟨rfl, rfl⟩ := Prod.mk.inj e2
        exact ⟨okF0, fun c hc => by simp at hc, List.Pairwise.nil, fun _ => ⟨rfl, rfl⟩, okT_tail hT⟩
      · obtain ⟨⟨f, T5⟩, h5, h7⟩ := bind_ok h1
        obtain ⟨⟨l, T6⟩, h6, h8⟩ := map_ok h7
        obtain ⟨e1, rfl⟩ := Prod.mk.inj h8
        obtain ⟨rfl, e2⟩ := Prod.mk.inj e1
        obtain ⟨rfl, rfl⟩ := Prod.mk.inj e2
        obtain ⟨f1, g1⟩ := takeF_in h5 hT
        obtain ⟨f2, f3, g2⟩ := takeCs_in h6 g1 (fun c hc => by simp at hc) List.Pairwise.nil
        exact ⟨f1, f2, f3, (fun hd => by cases hd), g2⟩
  obtain ⟨p1, p2, p3, p4, p5⟩ := hH
  obtain ⟨rfl, _⟩ := takeK_in h2
  have hA : okF po ∧ (dr = true → po.n = 0) ∧ okT T3 := by
    have hT2 := okT_tail p5
    cases T2 with
    | nil => simp [takeA] at h3
    | cons u T2 =>
      rw [takeA] at h3
      split at h3
      · obtain ⟨e1, rfl⟩ := Prod.mk.inj (Except.ok.inj h3)
        obtain ⟨rfl, rfl⟩ := Prod.mk.inj e1
        exact ⟨okF0, fun _ => rfl, okT_tail hT2⟩
      · split at h3
        · obtain ⟨⟨f, T5⟩, h5, h7⟩ := map_ok h3
          obtain ⟨e1, rfl⟩ := Prod.mk.inj h7
          obtain ⟨rfl, rfl⟩ := Prod.mk.inj e1
          obtain ⟨f1, g1⟩ := takeF_in h5 (okT_tail hT2)
          exact ⟨f1, (fun hd => by cases hd), g1⟩
        · cases h3
  obtain ⟨q1, q2, q3⟩ := hA
  have hE : okT T4 := by
    cases T3 with
    | nil => obtain rfl : [] = T4 := Except.ok.inj h4; exact q3
    | cons u T3 =>
      rw [takeE] at h4
      split at h4
      · obtain rfl : u :: T3 = T4 := Except.ok.inj h4; exact q3
      · cases h4
  exact ⟨⟨p1, q1, p2, p3, p4, q2⟩, hE⟩
theorem takeL_in {E : Nat} : ∀ {f : Nat} {had : List Raw} {T : List Tok} {l : List Raw}, takeL E f had T = .ok l → okT T → (∀ x ∈ had, okR x) → had.length ≤ 64 → (∀ x ∈ l, okR x) ∧ l.length ≤ 64
  | 0, had, T, l, h, _, h1, h2 => by
    obtain rfl : had = l := Except.ok.inj h
    exact ⟨h1, h2⟩
  | f + 1, had, [], l, h, _, h1, h2 => by
    obtain rfl : had = l := Except.ok.inj h
    exact ⟨h1, h2⟩
  | f + 1, had, t :: T, l, h, hT, h1, h2 => by
    rw [takeL] at h
    split at h
    · exact takeL_in h (okT_tail hT) h1 h2
    · split at h
      · cases h
      · rename_i h64
        obtain ⟨⟨x, T1⟩, h3, h⟩ := bind_ok h
        obtain ⟨g1, g2⟩ := takeR_in h3 hT
        refine takeL_in h g2 (fun y hy => ?_) (by simp; omega)
        rcases List.mem_append.1 hy with hy | hy
        · exact h1 y hy
        · rw [List.mem_singleton.1 hy]; exact g1
theorem parseT_in {S : List UInt8} {l : List Raw} (h : parseT S = .ok l) : (∀ x ∈ l, okR x) ∧ l.length ≤ 64 := by
  unfold parseT at h
  split at h
  · cases h
  · cases hx : lexW 0 S with
    | error e => rw [hx] at h; cases h
    | ok T =>
      rw [hx] at h
      exact takeL_in h (lexW_okT S 0 T hx) (fun x hx => by simp at hx) (Nat.zero_le _)
/-- Prints do not tell places. -/
theorem numsP_same (s : UInt8) : ∀ l l' : List Fig, l.map (·.n) = l'.map (·.n) → numsP s l = numsP s l'
  | [], [], _ => rfl
  | [], _ :: _, h => by simp at h
  | _ :: _, [], h => by simp at h
  | [x], [y], h => by simp only [List.map_cons, List.cons.injEq] at h; rw [numsP, numsP, h.1]
  | [x], y :: z :: l, h => by simp at h
  | x :: z :: l, [y], h => by simp at h
  | x :: z :: l, x' :: z' :: l', h => by
    rw [List.map_cons, List.map_cons (a := x')] at h
    obtain ⟨h1, h2⟩ := List.cons.inj h
    rw [numsP, numsP, h1, numsP_same s (z :: l) (z' :: l') h2]
theorem claP_same {c c' : Cla} (h : clC c = clC c') : claP c = claP c' := by
  unfold clC at h
  simp only [Prod.mk.injEq] at h
  obtain ⟨h1, h2, h3, h4⟩ := h
  have hl : lastSign c = lastSign c' := by unfold lastSign; rw [h3, h4]
  have hn : numsAll c = numsAll c' := by
    unfold numsAll
    rw [hl]
    cases hn : c.nums with
    | nil =>
      rw [hn] at h2
      have : c'.nums = [] := by simpa using h2.symm
      rw [this]
    | cons x l =>
      rw [hn] at h2
      cases hn' : c'.nums with
      | nil => rw [hn'] at h2; simp at h2
      | cons y l' =>
        rw [hn', List.map_cons, List.map_cons] at h2
        obtain ⟨g1, g2⟩ := List.cons.inj h2
        show decI x.n ++ _ = decI y.n ++ _
        rw [g1, numsP_same _ l l' g2]
  unfold claP
  rw [h1, hn]
theorem clas_same : ∀ l l' : List Cla, l.map clC = l'.map clC → l.flatMap claP = l'.flatMap claP
  | [], [], _ => rfl
  | [], _ :: _, h => by simp at h
  | _ :: _, [], h => by simp at h
  | c :: l, c' :: l', h => by
    rw [List.map_cons, List.map_cons] at h
    obtain ⟨h1, h2⟩ := List.cons.inj h
    rw [List.flatMap_cons, List.flatMap_cons, claP_same h1, clas_same l l' h2]
theorem print_same : ∀ l l' : List Raw, l.map clR = l'.map clR → printT l = printT l'
  | [], [], _ => rfl
  | [], _ :: _, h => by simp at h
  | _ :: _, [], h => by simp at h
  | x :: l, x' :: l', h => by
    rw [List.map_cons, List.map_cons] at h
    obtain ⟨h1, h2⟩ := List.cons.inj h
    have ih := print_same l l' h2
    unfold printT at ih ⊢
    rw [List.flatMap_cons, List.flatMap_cons, ih]
    congr 1
    unfold clR at h1
    simp only [Prod.mk.injEq] at h1
    obtain ⟨g1, g2, g3, g4, g5⟩ := h1
    unfold rowP headP actP
    rw [g1, g2, g4, g5, clas_same _ _ g3]
/-- WHAT IS PARSED IS, PRINTED AND PARSED AGAIN, THE SAME BUT FOR PLACES. -/
theorem parse_back {S : List UInt8} {l : List Raw} (h : parseT S = .ok l) (hlen : (printT l).length ≤ 4096) : ∃ l', parseT (printT l) = .ok l' ∧ l'.map clR = l.map clR ∧ printT l' = printT l := by
  obtain ⟨h1, h2⟩ := parseT_in h
  obtain ⟨l', h3, h4⟩ := parse_print l h1 h2 hlen
  exact ⟨l', h3, h4, print_same _ _ h4⟩
end Go.Proofs.YtnbklmmampdbfaaGreatDoor
namespace Go.Proofs.YtnbklmmampdbfaaGreatDoor
open Go
set_option maxRecDepth 20000

/-- Neither Arrow nor Line. -/
def Free (A : List Tok) : Prop := ∀ t ∈ A, t.kind ≠ 6 ∧ t.kind ≠ 7
def Eats (T T' : List Tok) : Prop := ∃ A, T = A ++ T' ∧ Free A
theorem Eats.refl (T : List Tok) : Eats T T := ⟨[], rfl, fun t ht => by simp at ht⟩
theorem Eats.trans {T T' T'' : List Tok} (h1 : Eats T T') (h2 : Eats T' T'') : Eats T T'' := by
  obtain ⟨A, rfl, hA⟩ := h1
  obtain ⟨B, rfl, hB⟩ := h2
  refine ⟨A ++ B, by rw [List.append_assoc], fun t ht => ?_⟩
  rcases List.mem_append.1 ht with ht | ht
  · exact hA t ht
  · exact hB t ht
theorem Eats.one {t : Tok} {T : List Tok} (h6 : t.kind ≠ 6) (h7 : t.kind ≠ 7) : Eats (t :: T) T := ⟨[t], rfl, fun u hu => by rw [List.mem_singleton.1 hu]; exact ⟨h6, h7⟩⟩
theorem eats_K {E k : Nat} {T T' : List Tok} {t : Tok} (h : takeK E k T = .ok (t, T')) (h6 : k ≠ 6) (h7 : k ≠ 7) : Eats T T' := by
  obtain ⟨rfl, hk⟩ := takeK_in h
  exact Eats.one (by omega) (by omega)
theorem eats_F {E : Nat} {T T' : List Tok} {f : Fig} (h : takeF E T = .ok (f, T')) : Eats T T' := by
  obtain ⟨⟨t, T1⟩, h1, h2⟩ := map_ok h
  obtain ⟨_, rfl⟩ := Prod.mk.inj h2
  exact eats_K h1 (by decide) (by decide)
theorem eats_D {E : Nat} : ∀ {n : Nat} {T T' : List Tok} {l : List Fig}, takeD E n T = .ok (l, T') → Eats T T'
  | 0, T, T', l, h => by
    obtain ⟨_, rfl⟩ := Prod.mk.inj (Except.ok.inj h)
    exact Eats.refl _
  | n + 1, T, T', l, h => by
    rw [takeD] at h
    obtain ⟨⟨t, T1⟩, h1, ha⟩ := bind_ok h
    obtain ⟨⟨f, T2⟩, h2, hb⟩ := bind_ok ha
    obtain ⟨⟨l2, T3⟩, h3, hc⟩ := map_ok hb
    obtain ⟨_, rfl⟩ := Prod.mk.inj hc
    exact ((eats_K h1 (by decide) (by decide)).trans (eats_F h2)).trans (eats_D h3)
theorem eats_O {E k : Nat} {T T' : List Tok} {o : Option Fig} (h : takeO E k T = .ok (o, T')) (h6 : k ≠ 6) (h7 : k ≠ 7) : Eats T T' := by
  cases T with
  | nil =>
    obtain ⟨_, rfl⟩ := Prod.mk.inj (Except.ok.inj h)
    exact Eats.refl _
  | cons t T =>
    rw [takeO] at h
    split at h
    · rename_i hk
      obtain ⟨⟨f, T1⟩, h1, h2⟩ := map_ok h
      obtain ⟨_, rfl⟩ := Prod.mk.inj h2
      exact (Eats.one (by omega) (by omega)).trans (eats_F h1)
    · obtain ⟨_, rfl⟩ := Prod.mk.inj (Except.ok.inj h)
      exact Eats.refl _
theorem eats_C {E : Nat} {had : List Cla} {t : Tok} {T T' : List Tok} {c : Cla} (h : takeC E had t T = .ok (c, T')) : Eats T T' := by
  unfold takeC at h
  split at h
  · cases h
  split at h
  · cases h
  obtain ⟨⟨f, T1⟩, h1, ha⟩ := bind_ok h
  have e1 := eats_F h1
  simp only at ha
  split at ha
  · obtain ⟨⟨l, T2⟩, h2, hb⟩ := bind_ok ha
    obtain ⟨⟨o, T3⟩, h3, hc⟩ := map_ok hb
    obtain ⟨_, rfl⟩ := Prod.mk.inj hc
    exact (e1.trans (eats_D h2)).trans (eats_O h3 (by decide) (by decide))
  · split at ha
    · obtain ⟨⟨o, T3⟩, h3, hc⟩ := map_ok ha
      obtain ⟨_, rfl⟩ := Prod.mk.inj hc
      exact e1.trans (eats_O h3 (by decide) (by decide))
    · obtain ⟨_, rfl⟩ := Prod.mk.inj (Except.ok.inj ha)
      exact e1
theorem eats_Cs {E : Nat} : ∀ {f : Nat} {had : List Cla} {T T' : List Tok} {l : List Cla}, takeCs E f had T = .ok (l, T') → Eats T T'
  | 0, had, T, T', l, h => by
    obtain ⟨_, rfl⟩ := Prod.mk.inj (Except.ok.inj h)
    exact Eats.refl _
  | f + 1, had, [], T', l, h => by
    obtain ⟨_, rfl⟩ := Prod.mk.inj (Except.ok.inj h)
    exact Eats.refl _
  | f + 1, had, t :: T, T', l, h => by
    rw [takeCs] at h
    split at h
    · rename_i hk
      obtain ⟨⟨c, T1⟩, h3, ha⟩ := bind_ok h
      exact ((Eats.one (by omega) (by omega)).trans (eats_C h3)).trans (eats_Cs ha)
    · obtain ⟨_, rfl⟩ := Prod.mk.inj (Except.ok.inj h)
      exact Eats.refl _
/-- A line has one Arrow, and no Line. -/
theorem eats_R {E : Nat} {T T' : List Tok} {x : Raw} (h : takeR E T = .ok (x, T')) : ∃ A t B, T = A ++ t :: (B ++ T') ∧ Free A ∧ t.kind = 6 ∧ Free B ∧ ∀ u, T'.head? = some u → u.kind = 7 := by
  unfold takeR at h
  obtain ⟨⟨⟨d, p, cs⟩, T1⟩, h1, ha⟩ := bind_ok h
  obtain ⟨⟨t, T2⟩, h2, hb⟩ := bind_ok ha
  obtain ⟨⟨⟨dr, po⟩, T3⟩, h3, hc⟩ := bind_ok hb
  obtain ⟨T4, h4, hd⟩ := map_ok hc
  obtain ⟨_, rfl⟩ := Prod.mk.inj hd
  have e1 : Eats T T1 := by
    cases T with
    | nil => simp [takeH] at h1
    | cons u T =>
      rw [takeH] at h1
      split at h1
      · rename_i hu
        obtain ⟨_, rfl⟩ := Prod.mk.inj (Except.ok.inj h1)
        exact Eats.one (by omega) (by omega)
      · obtain ⟨⟨f, T5⟩, h5, h7⟩ := bind_ok h1
        obtain ⟨⟨l, T6⟩, h6, h8⟩ := map_ok h7
        obtain ⟨_, rfl⟩ := Prod.mk.inj h8
        exact (eats_F h5).trans (eats_Cs h6)
  have e2 : Eats T2 T3 := by
    cases T2 with
    | nil => simp [takeA] at h3
    | cons u T2 =>
      rw [takeA] at h3
      split at h3
      · rename_i hu
        obtain ⟨_, rfl⟩ := Prod.mk.inj (Except.ok.inj h3)
        exact Eats.one (by omega) (by omega)
      · split at h3
        · rename_i hu
          obtain ⟨⟨f, T5⟩, h5, h7⟩ := map_ok h3
          obtain ⟨_, rfl⟩ := Prod.mk.inj h7
          exact (Eats.one (by omega) (by omega)).trans (eats_F h5)
        · cases h3
  have e3 : T3 = T4 ∧ ∀ u, T4.head? = some u → u.kind = 7 := by
    cases T3 with
    | nil =>
      obtain rfl : [] = T4 := Except.ok.inj h4
      exact ⟨rfl, fun u hu => by simp at hu⟩
    | cons u T3 =>
      rw [takeE] at h4
      split at h4
      · rename_i hk
        obtain rfl : u :: T3 = T4 := Except.ok.inj h4
        exact ⟨rfl, fun v hv => by
          obtain rfl : u = v := by simpa using hv
          exact hk⟩
      · cases h4
  obtain ⟨rfl, e4⟩ := e3
  obtain ⟨A, rfl, hA⟩ := e1
  obtain ⟨rfl, hk⟩ := takeK_in h2
  obtain ⟨B, rfl, hB⟩ := e2
  exact ⟨A, t, B, rfl, hA, hk, hB, e4⟩
/-- Arrows are counted, in all and in a row. -/
def arrGo : Nat → Nat → List Tok → Option Nat
  | n, _, [] => some n
  | n, row, t :: T =>
    if 1 < (if t.kind = 7 then 0 else if t.kind = 6 then row + 1 else row) then none
    else arrGo (if t.kind = 6 then n + 1 else n) (if t.kind = 7 then 0 else if t.kind = 6 then row + 1 else row) T
theorem arr_free (n row : Nat) (hr : row ≤ 1) (T : List Tok) : ∀ A : List Tok, Free A → arrGo n row (A ++ T) = arrGo n row T
  | [], _ => rfl
  | t :: A, h => by
    have ht := h t (by simp)
    rw [List.cons_append, arrGo, if_neg ht.2, if_neg ht.1, if_neg ht.1, if_neg (by omega)]
    exact arr_free n row hr T A fun u hu => h u (by simp [hu])
theorem arr_rows {E : Nat} : ∀ {f : Nat} {had : List Raw} {T : List Tok} {l : List Raw} (n row : Nat), takeL E f had T = .ok l → T.length < f → (row = 0 ∨ row = 1 ∧ ∀ u, T.head? = some u → u.kind = 7) → had.length ≤ l.length ∧ arrGo n row T = some (n + (l.length - had.length))
  | 0, had, T, l, n, row, h, hf, _ => by omega
  | f + 1, had, [], l, n, row, h, _, _ => by
    obtain rfl : had = l := Except.ok.inj h
    exact ⟨Nat.le_refl _, by rw [arrGo]; simp⟩
  | f + 1, had, t :: T, l, n, row, h, hf, hr => by
    rw [takeL] at h
    split at h
    · rename_i hk
      have ih := arr_rows n 0 h (by simpa using hf) (.inl rfl)
      refine ⟨ih.1, ?_⟩
      rw [arrGo, if_pos hk, if_neg (by omega), if_neg (by omega)]
      exact ih.2
    · rename_i hk
      have hrow : row = 0 := by
        rcases hr with hr | ⟨_, hr⟩
        · exact hr
        · exact absurd (hr t rfl) hk
      subst hrow
      split at h
      · cases h
      · obtain ⟨⟨x, T1⟩, h3, ha⟩ := bind_ok h
        obtain ⟨A, u, B, hT, hA, hu, hB, hl⟩ := eats_R h3
        have hlen : T1.length < f := by
          have := congrArg List.length hT
          simp only [List.length_cons, List.length_append] at this hf
          omega
        have ih := arr_rows (n + 1) 1 ha hlen (.inr ⟨rfl, hl⟩)
        rw [List.length_append, List.length_singleton] at ih
        refine ⟨by omega, ?_⟩
        have e : arrGo n 0 (u :: (B ++ T1)) = arrGo (n + 1) 1 (B ++ T1) := by simp [arrGo, hu]
        rw [hT, arr_free n 0 (by omega) _ A hA, e, arr_free (n + 1) 1 (by omega) _ B hB, ih.2]
        congr 1
        omega
/-- AS MANY LINES AS ARROWS, ONE IN EACH. -/
theorem parse_arrows {S : List UInt8} {l : List Raw} (h : parseT S = .ok l) : ∃ T, lexW 0 S = .ok T ∧ arrGo 0 0 T = some l.length ∧ l.length ≤ 64 := by
  have h64 := (parseT_in h).2
  unfold parseT at h
  split at h
  · cases h
  · cases hx : lexW 0 S with
    | error e => rw [hx] at h; cases h
    | ok T =>
      rw [hx] at h
      have := (arr_rows 0 0 h (by omega) (.inl rfl)).2
      exact ⟨T, rfl, by simpa using this, h64⟩

/-- Lines ahead of others. -/
theorem rows_go (E : Nat) (b : List St) : ∀ (l : List Raw) (f : Nat) (had : List Raw) (T : List Tok), T.length < f → had.length + l.length ≤ 64 → (∀ x ∈ l, okR x) → T.map st = l.flatMap tokR ++ b →
    ∃ l' A T' f', takeL E f had T = takeL E f' (had ++ l') T' ∧ l'.length = l.length ∧ T = A ++ T' ∧ T'.map st = b ∧ T'.length < f'
  | [], f, had, T, hf, _, _, h => ⟨[], [], T, f, by rw [List.append_nil], rfl, rfl, h, hf⟩
  | x :: l, 0, had, T, hf, _, _, _ => by omega
  | x :: l, 1, had, T, hf, _, _, h => by
    obtain rfl : T = [] := List.eq_nil_of_length_eq_zero (by omega)
    obtain ⟨s, r, e, _⟩ := tokR_head x
    rw [List.flatMap_cons, e] at h
    simp at h
  | x :: l, f + 2, had, T, hf, h64, hok, h => by
    rw [List.flatMap_cons, List.append_assoc] at h
    obtain ⟨x', T', e1, hx', h1⟩ := rowT_ok E x (hok x (by simp)) h
    obtain ⟨A1, t1, B1, hT1, _⟩ := eats_R e1
    obtain ⟨s, r, e, hs⟩ := tokR_head x
    rw [e, List.cons_append] at h
    obtain ⟨t, T0, rfl, ht, _⟩ := map_cons h
    have hk : t.kind ≠ 7 := by rw [show t.kind = s.1 from congrArg Prod.fst ht]; exact hs
    obtain ⟨u, T2, rfl, hu, h2⟩ := map_cons h1
    have hku : u.kind = 7 := congrArg Prod.fst hu
    have hlen : T2.length < f := by
      have := congrArg List.length hT1
      simp only [List.length_cons, List.length_append] at this hf
      omega
    obtain ⟨l', A, T3, f', e2, hl', hA, hb, hf'⟩ := rows_go E b l f (had ++ [x']) T2 hlen (by simp at h64 ⊢; omega) (fun y hy => hok y (by simp [hy])) h2
    refine ⟨x' :: l', A1 ++ t1 :: (B1 ++ u :: A), T3, f', ?_, by simp [hl'], ?_, hb, hf'⟩
    · rw [takeL, if_neg hk, if_neg (by simp at h64; omega), e1]
      simp only [Except.bind]
      rw [takeL, if_pos hku, e2, List.append_assoc]; rfl
    · rw [hT1, hA]; simp
/-- A line of no clauses: '1 -> drop'. -/
def row1 : Raw := ⟨0, false, ⟨1, 0⟩, [], true, ⟨0, 0⟩⟩
theorem row1_ok : okR row1 := ⟨⟨by decide, by decide⟩, okF0, fun c hc => by simp [row1] at hc, List.Pairwise.nil, (fun h => by cases h), fun _ => rfl⟩
theorem row1_text : rowP row1 = [49, 32, 45, 62, 32, 100, 114, 111, 112, 10] := by decide
theorem print_rep (n : Nat) : (printT (List.replicate n row1)).length = 10 * n := by
  unfold printT
  induction n with
  | zero => rfl
  | succ n ih => rw [List.replicate_succ, List.flatMap_cons, List.length_append, ih, row1_text]; simp; omega
theorem print_add (m n : Nat) : printT (List.replicate (m + n) row1) = printT (List.replicate m row1) ++ printT (List.replicate n row1) := by
  unfold printT; rw [← List.replicate_append_replicate, List.flatMap_append]
/-- SO MANY LINES AS MAY BE, AND ONE MORE. -/
theorem parse_many (n : Nat) (hn : n ≤ 127) : (n ≤ 64 → ∃ l, parseT (printT (List.replicate n row1)) = .ok l ∧ l.length = n) ∧ (64 < n → parseT (printT (List.replicate n row1)) = .error (4, 640)) := by
  have hok : ∀ m, ∀ x ∈ List.replicate m row1, okR x := fun m x hx => by rw [List.eq_of_mem_replicate hx]; exact row1_ok
  have hlen : (printT (List.replicate n row1)).length ≤ 4096 := by rw [print_rep]; omega
  constructor
  · intro h
    obtain ⟨l', e, hl⟩ := parse_print (List.replicate n row1) (hok n) (by simpa using h) hlen
    refine ⟨l', e, ?_⟩
    have := congrArg List.length hl
    simpa using this
  · intro h
    obtain ⟨k, rfl⟩ : ∃ k, n = 64 + (k + 1) := ⟨n - 65, by omega⟩
    obtain ⟨T1, h1, e1⟩ := lx_print (List.replicate 64 row1) (hok 64) 0 (printT (List.replicate (k + 1) row1)) trivial
    obtain ⟨T2, h2, e2⟩ := lx_print (List.replicate (k + 1) row1) (hok (k + 1)) 640 [] trivial
    rw [List.append_nil, lexW_nil] at e2
    rw [print_rep, show 0 + 10 * 64 = 640 from rfl, e2, ← print_add] at e1
    have hlex : lexW 0 (printT (List.replicate (64 + (k + 1)) row1)) = .ok (T1 ++ T2) := by rw [e1]; simp [glue]
    have hT2 : ∃ t T3, T2 = t :: T3 ∧ t.pos = 640 ∧ t.kind = 2 := by
      have hx : lexeme 49 ([32, 45, 62, 32, 100, 114, 111, 112, 10] ++ printT (List.replicate k row1)) = (Lx.tok 2 [] 1, 0) := by
        unfold lexeme
        rw [if_neg (by decide), if_neg (by decide), if_pos (by decide), List.cons_append, List.takeWhile_cons, if_neg (by decide)]
        rfl
      have hp : printT (List.replicate (k + 1) row1) = 49 :: ([32, 45, 62, 32, 100, 114, 111, 112, 10] ++ printT (List.replicate k row1)) := by
        unfold printT
        rw [List.replicate_succ, List.flatMap_cons, row1_text]; rfl
      rw [hp, lexW_tok hx] at e2
      cases hy : lexW (640 + 1 + 0) (List.drop 0 ([32, 45, 62, 32, 100, 114, 111, 112, 10] ++ printT (List.replicate k row1))) with
      | error x => rw [hy] at e2; simp [glue] at e2
      | ok l' =>
        rw [hy] at e2
        refine ⟨⟨2, 640, [], 1⟩, l', ?_, rfl, rfl⟩
        simpa [glue] using e2.symm
    obtain ⟨t, T3, rfl, hpos, hkind⟩ := hT2
    unfold parseT
    rw [if_neg (by omega), hlex]
    obtain ⟨l', A, T', f', e3, hl', hA, hb, hf'⟩ := rows_go (printT (List.replicate (64 + (k + 1)) row1)).length ((t :: T3).map st) (List.replicate 64 row1) ((T1 ++ t :: T3).length + 1) [] (T1 ++ t :: T3) (by omega) (by simp) (hok 64) (by rw [List.map_append, h1])
    have hT' : T' = t :: T3 := by
      have hl : T'.length = (t :: T3).length := by simpa using congrArg List.length hb
      exact ((List.append_inj' hA.symm hl).2)
    subst hT'
    show takeL _ _ _ _ = _
    rw [e3]
    cases f' with
    | zero => omega
    | succ f' => rw [takeL, if_neg (by omega), if_pos (by simpa using hl'), hpos]
end Go.Proofs.YtnbklmmampdbfaaGreatDoor
namespace Go.Proofs.YtnbklmmampdbfaaGreatDoor
open Go
set_option maxRecDepth 20000

/-- What a line means. -/
structure Ent where
  dflt : Bool
  prio : Int
  action : Int
  src : Int
  srcBits : Int
  dst : Int
  dstBits : Int
  slow : Int
  shigh : Int
  dlow : Int
  dhigh : Int
  proto : Int

abbrev ResI (α : Type) := Except (Nat × Int) α
def mustN (c : Cla) : Nat := if isAddrW c.word then (if c.slash then 5 else 4) else if isPortW c.word then (if c.dash then 2 else 1) else if c.word == wProto then 1 else 0
def mostN (w : List UInt8) (k : Nat) : Int := if isPortW w then 65535 else if !(w == wProto) && k == 4 then 32 else 255
/-- The first number of a clause that may not be. -/
def faultN (c : Cla) (first : Int) : Nat → List Fig → ResI Unit
  | _, [] => .ok ()
  | k, x :: l => if decide (x.n < 0) || decide (mostN c.word k < x.n) || (c.dash && isPortW c.word && k == 1 && decide (x.n < first)) then .error (10, x.pos) else faultN c first (k + 1) l
def nth (c : Cla) (k : Nat) : Int := (c.nums.getD k ⟨0, 0⟩).n
def faultC (had : List Cla) (c : Cla) : ResI Unit :=
  if mustN c == 0 || c.nums.length != mustN c then .error (8, c.pos) else if had.any (fun d => d.word == c.word) then .error (9, c.pos) else faultN c (nth c 0) 0 c.nums
def faultCs : List Cla → List Cla → ResI Unit
  | _, [] => .ok ()
  | had, c :: l => (faultC had c).bind fun _ => faultCs (had ++ [c]) l
/-- What is wrong with a line first, and where. -/
def faultR (r : Raw) : ResI Unit := if decide (r.prio.n < 0) || decide (65535 < r.prio.n) then .error (10, r.prio.pos) else faultCs [] r.clauses

def findC (w : List UInt8) (l : List Cla) : Option Cla := l.find? fun c => c.word == w
def preOf (l : List Cla) (w : List UInt8) : Int × Int := match findC w l with
  | none => (0, 0)
  | some c => (((nth c 0 * 256 + nth c 1) * 256 + nth c 2) * 256 + nth c 3, if c.slash then nth c 4 else 32)
def porOf (l : List Cla) (w : List UInt8) : Int × Int := match findC w l with
  | none => (0, 65535)
  | some c => (nth c 0, if c.dash then nth c 1 else nth c 0)
def proOf (l : List Cla) : Int := match findC wProto l with
  | none => -1
  | some c => nth c 0
def actOf (r : Raw) : Int := if r.drop then 0 else r.port.n
/-- What a line without faults means. -/
def meaning (r : Raw) : Ent := if r.dflt then ⟨true, 0, actOf r, 0, 0, 0, 0, 0, 0, 0, 0, 0⟩ else
  ⟨false, r.prio.n, actOf r, (preOf r.clauses wSrc).1, (preOf r.clauses wSrc).2, (preOf r.clauses wDst).1, (preOf r.clauses wDst).2, (porOf r.clauses wSport).1, (porOf r.clauses wSport).2, (porOf r.clauses wDport).1, (porOf r.clauses wDport).2, proOf r.clauses⟩
/-- Lines, one behind the other. -/
def checkGo (size : Int) : Nat → Bool → List Raw → ResI (List Ent)
  | _, had, [] => if had then .ok [] else .error (11, size)
  | i, had, r :: l => if 64 ≤ i then .error (4, r.pos) else if r.dflt && had then .error (9, r.pos) else
    (if r.dflt then .ok () else faultR r).bind fun _ => if !r.drop && (decide (r.port.n < 1) || decide (99 < r.port.n)) then .error (10, r.port.pos) else (checkGo size (i + 1) (had || r.dflt) l).map fun m => meaning r :: m
/-- What a text means. -/
def readT (S : List UInt8) : ResI (List Ent) := match parseT S with
  | .error x => .error (x.1, (x.2 : Int))
  | .ok l => checkGo (S.length : Int) 0 false l

def fig0 (n : Int) : Fig := ⟨n, 0⟩
def addrC7 (w : List UInt8) (v n : Int) : Cla := ⟨w, 0, [fig0 (v / 16777216), fig0 (v / 65536 % 256), fig0 (v / 256 % 256), fig0 (v % 256), fig0 n], true, false⟩
def portC7 (w : List UInt8) (a b : Int) : Cla := if a = b then ⟨w, 0, [fig0 a], false, false⟩ else ⟨w, 0, [fig0 a, fig0 b], false, true⟩
def partA (w : List UInt8) (v n : Int) : List Cla := if v = 0 ∧ n = 0 then [] else [addrC7 w v n]
def partP (w : List UInt8) (a b : Int) : List Cla := if a = 0 ∧ b = 65535 then [] else [portC7 w a b]
def partO (p : Int) : List Cla := if p = -1 then [] else [⟨wProto, 0, [fig0 p], false, false⟩]
/-- An entry as it would be written. -/
def lineOf (x : Ent) : Raw := ⟨0, x.dflt, fig0 x.prio, if x.dflt then [] else partA wSrc x.src x.srcBits ++ (partA wDst x.dst x.dstBits ++ (partP wSport x.slow x.shigh ++ (partP wDport x.dlow x.dhigh ++ partO x.proto))), decide (x.action = 0), fig0 x.action⟩
def printE (l : List Ent) : List UInt8 := printT (l.map lineOf)

/-- An entry as it may be. -/
structure okE (x : Ent) : Prop where
  act : 0 ≤ x.action ∧ x.action ≤ 99
  zero : x.dflt = true → x = ⟨true, 0, x.action, 0, 0, 0, 0, 0, 0, 0, 0, 0⟩
  prio : 0 ≤ x.prio ∧ x.prio ≤ 65535
  src : 0 ≤ x.src ∧ x.src < 4294967296 ∧ 0 ≤ x.srcBits ∧ x.srcBits ≤ 32
  dst : 0 ≤ x.dst ∧ x.dst < 4294967296 ∧ 0 ≤ x.dstBits ∧ x.dstBits ≤ 32
  sp : 0 ≤ x.slow ∧ x.slow ≤ x.shigh ∧ x.shigh ≤ 65535
  dp : 0 ≤ x.dlow ∧ x.dlow ≤ x.dhigh ∧ x.dhigh ≤ 65535
  proto : x.dflt = false → -1 ≤ x.proto ∧ x.proto ≤ 255

theorem okC_addr (w : List UInt8) (hw : isAddrW w = true) (v n : Int) (hv : 0 ≤ v ∧ v < 4294967296 ∧ 0 ≤ n ∧ n ≤ 32) : okC (addrC7 w v n) := by
  refine ⟨fun x hx => ?_, .inl ⟨hw, rfl, rfl⟩⟩
  simp only [addrC7, List.mem_cons, List.not_mem_nil, or_false] at hx
  rcases hx with rfl | rfl | rfl | rfl | rfl <;> exact ⟨by simp only [fig0]; omega, by simp only [fig0]; omega⟩
theorem portW_not {w : List UInt8} (hw : isPortW w = true) : isAddrW w = false := by
  unfold isPortW at hw
  simp only [Bool.or_eq_true, beq_iff_eq] at hw
  rcases hw with rfl | rfl <;> decide
theorem okC_port (w : List UInt8) (hw : isPortW w = true) (a b : Int) (h : 0 ≤ a ∧ a ≤ b ∧ b ≤ 65535) : okC (portC7 w a b) := by
  unfold portC7
  split
  · refine ⟨fun x hx => ?_, .inr (.inl ⟨hw, portW_not hw, rfl, rfl⟩)⟩
    rw [List.mem_singleton.1 hx]
    exact ⟨by simp only [fig0]; omega, by simp only [fig0]; omega⟩
  · refine ⟨fun x hx => ?_, .inr (.inl ⟨hw, portW_not hw, rfl, rfl⟩)⟩
    simp only [List.mem_cons, List.not_mem_nil, or_false] at hx
    rcases hx with rfl | rfl <;> exact ⟨by simp only [fig0]; omega, by simp only [fig0]; omega⟩
theorem portC7_word (w : List UInt8) (a b : Int) : (portC7 w a b).word = w := by unfold portC7; split <;> rfl
theorem partA_word {w : List UInt8} {v n : Int} {c : Cla} (h : c ∈ partA w v n) : c.word = w := by
  unfold partA at h
  split at h
  · simp at h
  · rw [List.mem_singleton.1 h]; rfl
theorem partP_word {w : List UInt8} {v n : Int} {c : Cla} (h : c ∈ partP w v n) : c.word = w := by
  unfold partP at h
  split at h
  · simp at h
  · rw [List.mem_singleton.1 h]; exact portC7_word _ _ _
theorem partO_word {p : Int} {c : Cla} (h : c ∈ partO p) : c.word = wProto := by
  unfold partO at h
  split at h
  · simp at h
  · rw [List.mem_singleton.1 h]
def lineC (x : Ent) : List Cla := partA wSrc x.src x.srcBits ++ (partA wDst x.dst x.dstBits ++ (partP wSport x.slow x.shigh ++ (partP wDport x.dlow x.dhigh ++ partO x.proto)))
theorem pw_short (l : List Cla) (h : l.length ≤ 1) : l.Pairwise fun a b => a.word ≠ b.word := by
  rcases l with _ | ⟨a, _ | ⟨b, l⟩⟩
  · exact List.Pairwise.nil
  · exact List.pairwise_singleton _ _
  · simp at h
theorem partA_len (w : List UInt8) (v n : Int) : (partA w v n).length ≤ 1 := by unfold partA; split <;> simp
theorem partP_len (w : List UInt8) (v n : Int) : (partP w v n).length ≤ 1 := by unfold partP; split <;> simp
theorem partO_len (p : Int) : (partO p).length ≤ 1 := by unfold partO; split <;> simp
theorem okR_line (x : Ent) (h : okE x) : okR (lineOf x) := by
  have hcl : x.dflt = false → (∀ c ∈ lineC x, okC c) ∧ (lineC x).Pairwise fun a b => a.word ≠ b.word := by
    intro hd
    refine ⟨fun c hc => ?_, ?_⟩
    · unfold lineC at hc
      simp only [List.mem_append] at hc
      rcases hc with hc | hc | hc | hc | hc
      · unfold partA at hc
        split at hc
        · simp at hc
        · rw [List.mem_singleton.1 hc]; exact okC_addr _ (by decide) _ _ h.src
      · unfold partA at hc
        split at hc
        · simp at hc
        · rw [List.mem_singleton.1 hc]; exact okC_addr _ (by decide) _ _ h.dst
      · unfold partP at hc
        split at hc
        · simp at hc
        · rw [List.mem_singleton.1 hc]; exact okC_port _ (by decide) _ _ h.sp
      · unfold partP at hc
        split at hc
        · simp at hc
        · rw [List.mem_singleton.1 hc]; exact okC_port _ (by decide) _ _ h.dp
      · unfold partO at hc
        split at hc
        · simp at hc
        · rename_i hp
          rw [List.mem_singleton.1 hc]
          have := h.proto hd
          refine ⟨fun y hy => ?_, .inr (.inr ⟨rfl, rfl, rfl, rfl⟩)⟩
          rw [List.mem_singleton.1 hy]
          exact ⟨by simp only [fig0]; omega, by simp only [fig0]; omega⟩
    · unfold lineC
      rw [List.pairwise_append]
      refine ⟨pw_short _ (partA_len _ _ _), ?_, fun a ha b hb => ?_⟩
      · rw [List.pairwise_append]
        refine ⟨pw_short _ (partA_len _ _ _), ?_, fun a ha b hb => ?_⟩
        · rw [List.pairwise_append]
          refine ⟨pw_short _ (partP_len _ _ _), ?_, fun a ha b hb => ?_⟩
          · rw [List.pairwise_append]
            refine ⟨pw_short _ (partP_len _ _ _), pw_short _ (partO_len _), fun a ha b hb => ?_⟩
            rw [partP_word ha, partO_word hb]; decide
          · rw [partP_word ha]
            rcases List.mem_append.1 hb with hb | hb
            · rw [partP_word hb]; decide
            · rw [partO_word hb]; decide
        · rw [partA_word ha]
          simp only [List.mem_append] at hb
          rcases hb with hb | hb | hb
          · rw [partP_word hb]; decide
          · rw [partP_word hb]; decide
          · rw [partO_word hb]; decide
      · rw [partA_word ha]
        simp only [List.mem_append] at hb
        rcases hb with hb | hb | hb | hb
        · rw [partA_word hb]; decide
        · rw [partP_word hb]; decide
        · rw [partP_word hb]; decide
        · rw [partO_word hb]; decide
  refine ⟨?_, ?_, ?_, ?_, ?_, ?_⟩
  · exact ⟨h.prio.1, by have := h.prio.2; show x.prio ≤ _; omega⟩
  · exact ⟨h.act.1, by have := h.act.2; show x.action ≤ _; omega⟩
  · unfold lineOf
    cases hd : x.dflt with
    | true => intro c hc; simp at hc
    | false => exact (hcl hd).1
  · unfold lineOf
    cases hd : x.dflt with
    | true => exact List.Pairwise.nil
    | false => exact (hcl hd).2
  · intro hd
    have hd' : x.dflt = true := hd
    have hz := h.zero hd'
    refine ⟨by unfold lineOf; rw [hd']; rfl, ?_⟩
    show x.prio = 0
    rw [hz]
  · intro hd
    have : x.action = 0 := by simpa [lineOf] using hd
    exact this
end Go.Proofs.YtnbklmmampdbfaaGreatDoor
namespace Go.Proofs.YtnbklmmampdbfaaGreatDoor
open Go
set_option maxRecDepth 20000

theorem find_none {w w' : List UInt8} {l : List Cla} (h : ∀ c ∈ l, c.word = w') (hw : w' ≠ w) : findC w l = none := by
  unfold findC
  rw [List.find?_eq_none]
  intro c hc
  rw [h c hc]
  simpa using hw
theorem find_append (w : List UInt8) (a b : List Cla) : findC w (a ++ b) = (findC w a).or (findC w b) := List.find?_append
theorem find_one {w : List UInt8} {c : Cla} (h : c.word = w) : findC w [c] = some c := by unfold findC; rw [List.find?_cons_of_pos (by simp [h])]
theorem find_A (w : List UInt8) (v n : Int) : findC w (partA w v n) = if v = 0 ∧ n = 0 then none else some (addrC7 w v n) := by
  unfold partA
  split
  · rfl
  · exact find_one rfl
theorem find_P (w : List UInt8) (v n : Int) : findC w (partP w v n) = if v = 0 ∧ n = 65535 then none else some (portC7 w v n) := by
  unfold partP
  split
  · rfl
  · exact find_one (portC7_word _ _ _)
theorem find_O (p : Int) : findC wProto (partO p) = if p = -1 then none else some ⟨wProto, 0, [fig0 p], false, false⟩ := by
  unfold partO
  split
  · rfl
  · exact find_one rfl
theorem nA (w w' : List UInt8) (hw : w' ≠ w) (v n : Int) : findC w (partA w' v n) = none := find_none (fun _ h => partA_word h) hw
theorem nP (w w' : List UInt8) (hw : w' ≠ w) (v n : Int) : findC w (partP w' v n) = none := find_none (fun _ h => partP_word h) hw
theorem nO (w : List UInt8) (hw : wProto ≠ w) (p : Int) : findC w (partO p) = none := find_none (fun _ h => partO_word h) hw
theorem or_none {α : Type} (x : Option α) : x.or none = x := by cases x <;> rfl
theorem find_src (x : Ent) : findC wSrc (lineC x) = if x.src = 0 ∧ x.srcBits = 0 then none else some (addrC7 wSrc x.src x.srcBits) := by
  unfold lineC
  rw [find_append, find_append, find_append, find_append, nA wSrc wDst (by decide), nP wSrc wSport (by decide), nP wSrc wDport (by decide), nO wSrc (by decide), find_A]
  simp
theorem find_dst (x : Ent) : findC wDst (lineC x) = if x.dst = 0 ∧ x.dstBits = 0 then none else some (addrC7 wDst x.dst x.dstBits) := by
  unfold lineC
  rw [find_append, find_append, find_append, find_append, nA wDst wSrc (by decide), nP wDst wSport (by decide), nP wDst wDport (by decide), nO wDst (by decide), find_A]
  simp
theorem find_sport (x : Ent) : findC wSport (lineC x) = if x.slow = 0 ∧ x.shigh = 65535 then none else some (portC7 wSport x.slow x.shigh) := by
  unfold lineC
  rw [find_append, find_append, find_append, find_append, nA wSport wSrc (by decide), nA wSport wDst (by decide), nP wSport wDport (by decide), nO wSport (by decide), find_P]
  simp
theorem find_dport (x : Ent) : findC wDport (lineC x) = if x.dlow = 0 ∧ x.dhigh = 65535 then none else some (portC7 wDport x.dlow x.dhigh) := by
  unfold lineC
  rw [find_append, find_append, find_append, find_append, nA wDport wSrc (by decide), nA wDport wDst (by decide), nP wDport wSport (by decide), nO wDport (by decide), find_P]
  simp
theorem find_proto (x : Ent) : findC wProto (lineC x) = if x.proto = -1 then none else some ⟨wProto, 0, [fig0 x.proto], false, false⟩ := by
  unfold lineC
  rw [find_append, find_append, find_append, find_append, nA wProto wSrc (by decide), nA wProto wDst (by decide), nP wProto wSport (by decide), nP wProto wDport (by decide), find_O]
  simp
theorem pre_addr {l : List Cla} {w : List UInt8} {v n : Int} (h : findC w l = if v = 0 ∧ n = 0 then none else some (addrC7 w v n)) (hv : 0 ≤ v ∧ v < 4294967296 ∧ 0 ≤ n ∧ n ≤ 32) : preOf l w = (v, n) := by
  unfold preOf
  rw [h]
  by_cases c : v = 0 ∧ n = 0
  · rw [if_pos c]; obtain ⟨rfl, rfl⟩ := c; rfl
  · rw [if_neg c]
    simp only [addrC7, nth, fig0, List.getD_cons_zero, List.getD_cons_succ]
    congr 1
    · omega
theorem por_port {l : List Cla} {w : List UInt8} {a b : Int} (h : findC w l = if a = 0 ∧ b = 65535 then none else some (portC7 w a b)) : porOf l w = (a, b) := by
  unfold porOf
  rw [h]
  by_cases c : a = 0 ∧ b = 65535
  · rw [if_pos c]; obtain ⟨rfl, rfl⟩ := c; rfl
  · rw [if_neg c]
    by_cases e : a = b
    · subst e
      simp [portC7, nth, fig0]
    · simp [portC7, e, nth, fig0]
theorem pro_proto {l : List Cla} {p : Int} (h : findC wProto l = if p = -1 then none else some ⟨wProto, 0, [fig0 p], false, false⟩) : proOf l = p := by
  unfold proOf
  rw [h]
  by_cases c : p = -1
  · rw [if_pos c, c]
  · rw [if_neg c]; rfl
theorem lineOf_clauses {x : Ent} (h : x.dflt = false) : (lineOf x).clauses = lineC x := by unfold lineOf; rw [h]; rfl
/-- What an entry's line means is the entry. -/
theorem meaning_line (x : Ent) (h : okE x) : meaning (lineOf x) = x := by
  have hact : actOf (lineOf x) = x.action := by
    show (if decide (x.action = 0) = true then 0 else x.action) = x.action
    by_cases c : x.action = 0
    · rw [if_pos (by simpa using c), c]
    · rw [if_neg (by simpa using c)]
  unfold meaning
  rw [hact]
  cases hd : x.dflt with
  | true =>
    rw [if_pos (show (lineOf x).dflt = true from hd)]
    exact (h.zero hd).symm
  | false =>
    rw [if_neg (show ¬ (lineOf x).dflt = true by rw [show (lineOf x).dflt = x.dflt from rfl, hd]; decide), lineOf_clauses hd, pre_addr (find_src x) h.src, pre_addr (find_dst x) h.dst, por_port (find_sport x), por_port (find_dport x), pro_proto (find_proto x)]
    show (⟨false, x.prio, x.action, x.src, x.srcBits, x.dst, x.dstBits, x.slow, x.shigh, x.dlow, x.dhigh, x.proto⟩ : Ent) = x
    rw [← hd]

theorem faultCs_append : ∀ (a had b : List Cla), faultCs had (a ++ b) = (faultCs had a).bind fun _ => faultCs (had ++ a) b
  | [], had, b => by rw [List.nil_append, List.append_nil]; rfl
  | c :: a, had, b => by
    rw [List.cons_append, faultCs, faultCs]
    cases faultC had c with
    | error e => rfl
    | ok u =>
      simp only [Except.bind]
      rw [faultCs_append a (had ++ [c]) b, List.append_assoc]
      rfl
theorem faultN_ok (c : Cla) (first : Int) : ∀ (l : List Fig) (k : Nat), (∀ (j : Nat) (x : Fig), l[j]? = some x → 0 ≤ x.n ∧ x.n ≤ mostN c.word (k + j) ∧ (c.dash = true → isPortW c.word = true → k + j = 1 → first ≤ x.n)) → faultN c first k l = .ok ()
  | [], _, _ => rfl
  | x :: l, k, h => by
    have h0 := h 0 x rfl
    rw [faultN, if_neg]
    · exact faultN_ok c first l (k + 1) fun j y hy => by
        have := h (j + 1) y (by simpa using hy)
        rw [show k + 1 + j = k + (j + 1) by omega]
        exact this
    · simp only [Bool.or_eq_true, Bool.and_eq_true, decide_eq_true_eq, beq_iff_eq]
      rintro ((h1 | h2) | ⟨⟨⟨h3, h4⟩, h5⟩, h6⟩)
      · omega
      · have := h0.2.1; rw [Nat.add_zero] at this; omega
      · have := h0.2.2 h3 h4 (by omega); omega
theorem faultN_in (c : Cla) (first : Int) : ∀ (l : List Fig) (k : Nat), faultN c first k l = .ok () → ∀ (j : Nat) (x : Fig), l[j]? = some x → 0 ≤ x.n ∧ x.n ≤ mostN c.word (k + j) ∧ (c.dash = true → isPortW c.word = true → k + j = 1 → first ≤ x.n)
  | [], _, _, j, x, hx => by simp at hx
  | y :: l, k, h, j, x, hx => by
    rw [faultN] at h
    split at h
    · cases h
    · rename_i hc
      simp only [Bool.or_eq_true, Bool.and_eq_true, decide_eq_true_eq, beq_iff_eq, not_or] at hc
      cases j with
      | zero =>
        obtain rfl : y = x := by simpa using hx
        rw [Nat.add_zero]
        refine ⟨by omega, by omega, fun h1 h2 h3 => ?_⟩
        have := hc.2
        by_cases h4 : y.n < first
        · exact absurd ⟨⟨⟨h1, h2⟩, h3⟩, h4⟩ this
        · omega
      | succ j =>
        have := faultN_in c first l (k + 1) h j x (by simpa using hx)
        rw [show k + (j + 1) = k + 1 + j by omega]
        exact this
theorem faultC_ok (had : List Cla) (c : Cla) (h0 : mustN c ≠ 0) (h1 : c.nums.length = mustN c) (h2 : ∀ d ∈ had, d.word ≠ c.word) (h3 : ∀ (j : Nat) (x : Fig), c.nums[j]? = some x → 0 ≤ x.n ∧ x.n ≤ mostN c.word j ∧ (c.dash = true → isPortW c.word = true → j = 1 → nth c 0 ≤ x.n)) : faultCs had [c] = .ok () := by
  have hany : had.any (fun d => d.word == c.word) = false := by
    rw [List.any_eq_false]; intro d hd; simpa using h2 d hd
  rw [faultCs, faultC, hany, if_neg (by simp [h0, h1]), if_neg (by simp), faultN_ok c (nth c 0) c.nums 0 (fun j x hx => by rw [Nat.zero_add]; exact h3 j x hx)]
  rfl
theorem fault_A (had : List Cla) (w : List UInt8) (hw : isAddrW w = true) (hp : isPortW w = false) (ho : (w == wProto) = false) (v n : Int) (hv : 0 ≤ v ∧ v < 4294967296 ∧ 0 ≤ n ∧ n ≤ 32) (hh : ∀ d ∈ had, d.word ≠ w) : faultCs had (partA w v n) = .ok () := by
  unfold partA
  split
  · rfl
  · have hm : mustN (addrC7 w v n) = 5 := by unfold mustN; rw [show (addrC7 w v n).word = w from rfl, hw]; rfl
    have m0 : ∀ k, k < 4 → mostN w k = 255 := fun k hk => by
      unfold mostN
      rw [hp, ho, if_neg (by decide), if_neg]
      simp only [Bool.and_eq_true, beq_iff_eq]
      omega
    have m4 : mostN w 4 = 32 := by unfold mostN; rw [hp, ho]; rfl
    refine faultC_ok had _ (by rw [hm]; decide) (by rw [hm]; rfl) hh fun j x hx => ?_
    show 0 ≤ x.n ∧ x.n ≤ mostN w j ∧ _
    refine ⟨?_, ?_, fun h => by cases h⟩
    all_goals
      rcases j with _ | _ | _ | _ | _ | j
      · obtain rfl : fig0 (v / 16777216) = x := by simpa [addrC7] using hx
        first | (rw [m0 0 (by omega)]; simp only [fig0]; omega) | (simp only [fig0]; omega)
      · obtain rfl : fig0 (v / 65536 % 256) = x := by simpa [addrC7] using hx
        first | (rw [m0 1 (by omega)]; simp only [fig0]; omega) | (simp only [fig0]; omega)
      · obtain rfl : fig0 (v / 256 % 256) = x := by simpa [addrC7] using hx
        first | (rw [m0 2 (by omega)]; simp only [fig0]; omega) | (simp only [fig0]; omega)
      · obtain rfl : fig0 (v % 256) = x := by simpa [addrC7] using hx
        first | (rw [m0 3 (by omega)]; simp only [fig0]; omega) | (simp only [fig0]; omega)
      · obtain rfl : fig0 n = x := by simpa [addrC7] using hx
        first | (rw [m4]; simp only [fig0]; omega) | (simp only [fig0]; omega)
      · simp [addrC7] at hx
theorem fault_P (had : List Cla) (w : List UInt8) (hp : isPortW w = true) (a b : Int) (hv : 0 ≤ a ∧ a ≤ b ∧ b ≤ 65535) (hh : ∀ d ∈ had, d.word ≠ w) : faultCs had (partP w a b) = .ok () := by
  unfold partP
  split
  · rfl
  · have ha := portW_not hp
    have m : ∀ k, mostN w k = 65535 := fun k => by unfold mostN; rw [hp]; rfl
    by_cases e : a = b
    · subst e
      have hc : portC7 w a a = ⟨w, 0, [fig0 a], false, false⟩ := by simp [portC7]
      rw [hc]
      have hm : mustN ⟨w, 0, [fig0 a], false, false⟩ = 1 := by unfold mustN; simp [ha, hp]
      refine faultC_ok had _ (by rw [hm]; decide) (by rw [hm]; rfl) hh fun j x hx => ?_
      show 0 ≤ x.n ∧ x.n ≤ mostN w j ∧ _
      rw [m]
      rcases j with _ | j
      · obtain rfl : fig0 a = x := by simpa using hx
        exact ⟨hv.1, hv.2.2, fun h => by cases h⟩
      · simp at hx
    · have hc : portC7 w a b = ⟨w, 0, [fig0 a, fig0 b], false, true⟩ := by simp [portC7, e]
      rw [hc]
      have hm : mustN ⟨w, 0, [fig0 a, fig0 b], false, true⟩ = 2 := by unfold mustN; simp [ha, hp]
      refine faultC_ok had _ (by rw [hm]; decide) (by rw [hm]; rfl) hh fun j x hx => ?_
      show 0 ≤ x.n ∧ x.n ≤ mostN w j ∧ _
      rw [m]
      rcases j with _ | _ | j
      · obtain rfl : fig0 a = x := by simpa using hx
        exact ⟨hv.1, by simp only [fig0]; omega, fun _ _ h => by cases h⟩
      · obtain rfl : fig0 b = x := by simpa using hx
        exact ⟨by simp only [fig0]; omega, hv.2.2, fun _ _ _ => hv.2.1⟩
      · simp at hx
theorem must_proto (p : Int) : mustN ⟨wProto, 0, [fig0 p], false, false⟩ = 1 := by
  unfold mustN
  rw [show isAddrW wProto = false from by decide, show isPortW wProto = false from by decide]
  rfl
theorem fault_O (had : List Cla) (p : Int) (hv : -1 ≤ p ∧ p ≤ 255) (hh : ∀ d ∈ had, d.word ≠ wProto) : faultCs had (partO p) = .ok () := by
  unfold partO
  split
  · rfl
  · rename_i hne
    refine faultC_ok had _ (by rw [must_proto]; decide) (by rw [must_proto]; rfl) hh fun j x hx => ?_
    rcases j with _ | j
    · obtain rfl : fig0 p = x := by simpa using hx
      exact ⟨by simp only [fig0]; omega, by show p ≤ 255; omega, fun h => by cases h⟩
    · simp at hx
/-- An entry's line has no fault. -/
theorem fault_line (x : Ent) (h : okE x) (hd : x.dflt = false) : faultR (lineOf x) = .ok () := by
  unfold faultR
  rw [if_neg (by have := h.prio; show ¬ (decide (x.prio < 0) || decide (65535 < x.prio)) = true; simp; omega), lineOf_clauses hd]
  unfold lineC
  rw [faultCs_append, fault_A [] wSrc (by decide) (by decide) (by decide) _ _ h.src (fun d hd => by simp at hd)]
  simp only [Except.bind]
  rw [faultCs_append, fault_A _ wDst (by decide) (by decide) (by decide) _ _ h.dst (fun d hd => by
    rw [List.nil_append] at hd; rw [partA_word hd]; decide)]
  simp only [Except.bind]
  rw [faultCs_append, fault_P _ wSport (by decide) _ _ h.sp (fun d hd => by
    simp only [List.nil_append, List.mem_append] at hd
    rcases hd with hd | hd <;> rw [partA_word hd] <;> decide)]
  simp only [Except.bind]
  rw [faultCs_append, fault_P _ wDport (by decide) _ _ h.dp (fun d hd => by
    simp only [List.nil_append, List.mem_append] at hd
    rcases hd with (hd | hd) | hd
    · rw [partA_word hd]; decide
    · rw [partA_word hd]; decide
    · rw [partP_word hd]; decide)]
  simp only [Except.bind]
  exact fault_O _ _ (h.proto hd) (fun d hd => by
    simp only [List.nil_append, List.mem_append] at hd
    rcases hd with ((hd | hd) | hd) | hd
    · rw [partA_word hd]; decide
    · rw [partA_word hd]; decide
    · rw [partP_word hd]; decide
    · rw [partP_word hd]; decide)

def goodC (c : Cla) : Prop := mustN c ≠ 0 ∧ c.nums.length = mustN c ∧ ∀ (j : Nat) (x : Fig), c.nums[j]? = some x → 0 ≤ x.n ∧ x.n ≤ mostN c.word j ∧ (c.dash = true → isPortW c.word = true → j = 1 → nth c 0 ≤ x.n)
theorem bindI {α β : Type} {x : ResI α} {f : α → ResI β} {b : β} (h : x.bind f = .ok b) : ∃ a, x = .ok a ∧ f a = .ok b := by
  cases x with
  | error e => simp [Except.bind] at h
  | ok a => exact ⟨a, rfl, h⟩
theorem mapI {α β : Type} {x : ResI α} {f : α → β} {b : β} (h : x.map f = .ok b) : ∃ a, x = .ok a ∧ f a = b := by
  cases x with
  | error e => simp [Except.map] at h
  | ok a => exact ⟨a, rfl, Except.ok.inj h⟩
theorem faultCs_in : ∀ (l had : List Cla), faultCs had l = .ok () → ∀ c ∈ l, goodC c
  | [], _, _, c, hc => by simp at hc
  | d :: l, had, h, c, hc => by
    rw [faultCs] at h
    obtain ⟨_, h1, h2⟩ := bindI h
    rcases List.mem_cons.1 hc with rfl | hc
    · unfold faultC at h1
      split at h1
      · cases h1
      · rename_i hm
        split at h1
        · cases h1
        · simp only [Bool.or_eq_true, beq_iff_eq, bne_iff_ne, ne_eq, not_or, Decidable.not_not] at hm
          refine ⟨hm.1, hm.2, fun j x hx => ?_⟩
          have := faultN_in c (nth c 0) c.nums 0 h1 j x hx
          rw [Nat.zero_add] at this
          exact this
    · exact faultCs_in l (had ++ [d]) h2 c hc
theorem nth_in {c : Cla} (h : goodC c) {k : Nat} (hk : k < mustN c) : 0 ≤ nth c k ∧ nth c k ≤ mostN c.word k ∧ (c.dash = true → isPortW c.word = true → k = 1 → nth c 0 ≤ nth c k) := by
  have hl : k < c.nums.length := by rw [h.2.1]; exact hk
  have hx : c.nums[k]? = some c.nums[k] := List.getElem?_eq_getElem hl
  have e : nth c k = c.nums[k].n := by unfold nth; rw [List.getD_eq_getElem?_getD, hx]; rfl
  rw [e]
  exact h.2.2 k _ hx
theorem find_in {w : List UInt8} {l : List Cla} {c : Cla} (h : findC w l = some c) : c ∈ l ∧ c.word = w := by
  unfold findC at h
  exact ⟨List.mem_of_find?_eq_some h, by simpa using List.find?_some h⟩
theorem pre_in {l : List Cla} (hl : ∀ c ∈ l, goodC c) (w : List UInt8) (hw : isAddrW w = true) (hp : isPortW w = false) (ho : (w == wProto) = false) : 0 ≤ (preOf l w).1 ∧ (preOf l w).1 < 4294967296 ∧ 0 ≤ (preOf l w).2 ∧ (preOf l w).2 ≤ 32 := by
  unfold preOf
  cases hf : findC w l with
  | none => simp
  | some c =>
    obtain ⟨hc, hcw⟩ := find_in hf
    have hg := hl c hc
    have hm : mustN c = if c.slash then 5 else 4 := by unfold mustN; rw [hcw, if_pos hw]
    have m0 : ∀ k, k < 4 → mostN w k = 255 := fun k hk => by
      unfold mostN
      rw [hp, ho, if_neg (by decide), if_neg]
      simp only [Bool.and_eq_true, beq_iff_eq]
      omega
    have m4 : mostN w 4 = 32 := by unfold mostN; rw [hp, ho]; rfl
    have b : ∀ k, k < 4 → 0 ≤ nth c k ∧ nth c k ≤ 255 := fun k hk => by
      have := nth_in hg (k := k) (by rw [hm]; split <;> omega)
      rw [hcw, m0 k hk] at this
      exact ⟨this.1, this.2.1⟩
    have b0 := b 0 (by omega)
    have b1 := b 1 (by omega)
    have b2 := b 2 (by omega)
    have b3 := b 3 (by omega)
    show 0 ≤ ((nth c 0 * 256 + nth c 1) * 256 + nth c 2) * 256 + nth c 3 ∧ ((nth c 0 * 256 + nth c 1) * 256 + nth c 2) * 256 + nth c 3 < 4294967296 ∧ 0 ≤ (if c.slash then nth c 4 else 32) ∧ (if c.slash then nth c 4 else 32) ≤ 32
    refine ⟨by omega, by omega, ?_⟩
    cases hsl : c.slash with
    | false => simp
    | true =>
      have := nth_in hg (k := 4) (by rw [hm, hsl]; decide)
      rw [hcw, m4] at this
      simpa using ⟨this.1, this.2.1⟩
theorem por_in {l : List Cla} (hl : ∀ c ∈ l, goodC c) (w : List UInt8) (hp : isPortW w = true) : 0 ≤ (porOf l w).1 ∧ (porOf l w).1 ≤ (porOf l w).2 ∧ (porOf l w).2 ≤ 65535 := by
  unfold porOf
  cases hf : findC w l with
  | none => simp
  | some c =>
    obtain ⟨hc, hcw⟩ := find_in hf
    have hg := hl c hc
    have hm : mustN c = if c.dash then 2 else 1 := by unfold mustN; rw [hcw, portW_not hp, hp]; rfl
    have m : ∀ k, mostN w k = 65535 := fun k => by unfold mostN; rw [hp]; rfl
    have b0 := nth_in hg (k := 0) (by rw [hm]; split <;> omega)
    rw [hcw, m] at b0
    show 0 ≤ nth c 0 ∧ nth c 0 ≤ (if c.dash then nth c 1 else nth c 0) ∧ (if c.dash then nth c 1 else nth c 0) ≤ 65535
    cases hda : c.dash with
    | false => simpa using ⟨b0.1, b0.2.1⟩
    | true =>
      have b1 := nth_in hg (k := 1) (by rw [hm, hda]; decide)
      rw [hcw, m] at b1
      have := b1.2.2 hda hp rfl
      simpa using ⟨b0.1, this, b1.2.1⟩
theorem pro_in {l : List Cla} (hl : ∀ c ∈ l, goodC c) : -1 ≤ proOf l ∧ proOf l ≤ 255 := by
  unfold proOf
  cases hf : findC wProto l with
  | none => simp
  | some c =>
    obtain ⟨hc, hcw⟩ := find_in hf
    have hg := hl c hc
    have hm : mustN c = 1 := by
      unfold mustN
      rw [hcw, show isAddrW wProto = false from by decide, show isPortW wProto = false from by decide]
      rfl
    have b0 := nth_in hg (k := 0) (by rw [hm]; decide)
    rw [hcw, show mostN wProto 0 = 255 from by decide] at b0
    show -1 ≤ nth c 0 ∧ nth c 0 ≤ 255
    omega
/-- What a line without faults means is as it may be. -/
theorem okE_meaning (r : Raw) (hf : r.dflt = false → faultR r = .ok ()) (hp : r.drop = false → 1 ≤ r.port.n ∧ r.port.n ≤ 99) : okE (meaning r) ∧ (meaning r).dflt = r.dflt := by
  have hact : 0 ≤ actOf r ∧ actOf r ≤ 99 := by
    unfold actOf
    cases hd : r.drop with
    | true => simp
    | false => have := hp hd; simp; omega
  unfold meaning
  cases hd : r.dflt with
  | true =>
    rw [if_pos rfl]
    exact ⟨⟨hact, fun _ => rfl, by simp, by simp, by simp, by simp, by simp, fun h => by cases h⟩, rfl⟩
  | false =>
    rw [if_neg (by decide)]
    have h1 := hf hd
    unfold faultR at h1
    split at h1
    · cases h1
    · rename_i hpr
      simp only [Bool.or_eq_true, decide_eq_true_eq, not_or] at hpr
      have hl := faultCs_in r.clauses [] h1
      exact ⟨⟨hact, (fun h => by cases h), ⟨by show 0 ≤ r.prio.n; omega, by show r.prio.n ≤ 65535; omega⟩, pre_in hl wSrc (by decide) (by decide) (by decide), pre_in hl wDst (by decide) (by decide) (by decide), por_in hl wSport (by decide), por_in hl wDport (by decide), fun _ => pro_in hl⟩, rfl⟩
/-- What was checked is, as it would be written, checked as the same. -/
theorem check_lines (size size' : Int) : ∀ (R : List Raw) (i : Nat) (had : Bool) (l : List Ent), checkGo size i had R = .ok l → (∀ x ∈ l, okE x) ∧ checkGo size' i had (l.map lineOf) = .ok l ∧ l.length = R.length ∧ i + R.length ≤ 64 ∨ R = [] ∧ had = true ∧ l = []
  | [], i, had, l, h => by
    rw [checkGo] at h
    split at h
    · rename_i hh
      obtain rfl : [] = l := Except.ok.inj h
      exact .inr ⟨rfl, hh, rfl⟩
    · cases h
  | r :: R, i, had, l, h => by
    left
    rw [checkGo] at h
    split at h
    · cases h
    rename_i hi
    split at h
    · cases h
    rename_i hdh
    obtain ⟨_, h1, ha⟩ := bindI h
    split at ha
    · cases ha
    rename_i hport
    obtain ⟨m, h2, hb⟩ := mapI ha
    subst hb
    have hf : r.dflt = false → faultR r = .ok () := fun hd => by rw [hd, if_neg (by decide)] at h1; exact h1
    have hp : r.drop = false → 1 ≤ r.port.n ∧ r.port.n ≤ 99 := fun hd => by
      rw [hd] at hport
      simp only [Bool.not_false, Bool.true_and, Bool.or_eq_true, decide_eq_true_eq, not_or] at hport
      omega
    obtain ⟨hok, hdf⟩ := okE_meaning r hf hp
    have hm := meaning_line _ hok
    have tail : (∀ x ∈ m, okE x) ∧ checkGo size' (i + 1) (had || r.dflt) (m.map lineOf) = .ok m ∧ m.length = R.length ∧ i + 1 + R.length ≤ 64 := by
      rcases check_lines size size' R (i + 1) (had || r.dflt) m h2 with ⟨a1, a2, a3, a4⟩ | ⟨rfl, b2, rfl⟩
      · exact ⟨a1, a2, a3, a4⟩
      · refine ⟨fun x hx => by simp at hx, ?_, rfl, by simp; omega⟩
        rw [List.map_nil, checkGo, if_pos b2]
    refine ⟨fun x hx => ?_, ?_, by simp [tail.2.2.1], by have := tail.2.2.2; simp; omega⟩
    · rcases List.mem_cons.1 hx with rfl | hx
      · exact hok
      · exact tail.1 x hx
    · have hd2 : (lineOf (meaning r)).dflt = r.dflt := hdf
      have hfl : (if (lineOf (meaning r)).dflt then (Except.ok () : ResI Unit) else faultR (lineOf (meaning r))) = .ok () := by
        cases hd : r.dflt with
        | true => rw [hd2, hd, if_pos rfl]
        | false => rw [hd2, hd, if_neg (by decide)]; exact fault_line _ hok (hdf.trans hd)
      have hpl : (!(lineOf (meaning r)).drop && (decide ((lineOf (meaning r)).port.n < 1) || decide (99 < (lineOf (meaning r)).port.n))) = false := by
        have := hok.act
        show (!decide ((meaning r).action = 0) && (decide ((meaning r).action < 1) || decide (99 < (meaning r).action))) = false
        by_cases c : (meaning r).action = 0
        · simp [c]
        · simp [c]; omega
      rw [List.map_cons, checkGo, if_neg hi, hd2, if_neg hdh]
      rw [hd2] at hfl
      rw [hfl]
      simp only [Except.bind]
      rw [hpl, if_neg (by decide), tail.2.1, hm]
      rfl
/-- Places do not count where nothing is wrong. -/
theorem faultN_same (c c' : Cla) (hw : c.word = c'.word) (hd : c.dash = c'.dash) (first : Int) : ∀ (l l' : List Fig) (k : Nat), l.map (·.n) = l'.map (·.n) → faultN c first k l = .ok () → faultN c' first k l' = .ok ()
  | [], [], _, _, _ => rfl
  | [], _ :: _, _, h, _ => by simp at h
  | _ :: _, [], _, h, _ => by simp at h
  | x :: l, y :: l', k, h, hx => by
    rw [List.map_cons, List.map_cons] at h
    obtain ⟨h1, h2⟩ := List.cons.inj h
    rw [faultN] at hx ⊢
    split at hx
    · cases hx
    · rename_i hc
      rw [← h1, ← hw, ← hd, if_neg hc]
      exact faultN_same c c' hw hd first l l' (k + 1) h2 hx
theorem nth_same {c c' : Cla} (h : c.nums.map (·.n) = c'.nums.map (·.n)) (k : Nat) : nth c k = nth c' k := by
  have h1 := congrArg (fun l => l[k]?) h
  simp only [List.getElem?_map] at h1
  unfold nth
  rw [List.getD_eq_getElem?_getD, List.getD_eq_getElem?_getD]
  cases h2 : c.nums[k]? with
  | none => rw [h2] at h1; cases h3 : c'.nums[k]? with
    | none => rfl
    | some y => rw [h3] at h1; simp at h1
  | some x => rw [h2] at h1; cases h3 : c'.nums[k]? with
    | none => rw [h3] at h1; simp at h1
    | some y => rw [h3] at h1; simpa using h1
theorem any_same (w : List UInt8) : ∀ l l' : List Cla, l.map clC = l'.map clC → l.any (fun d => d.word == w) = l'.any (fun d => d.word == w)
  | [], [], _ => rfl
  | [], _ :: _, h => by simp at h
  | _ :: _, [], h => by simp at h
  | c :: l, c' :: l', h => by
    rw [List.map_cons, List.map_cons] at h
    obtain ⟨h1, h2⟩ := List.cons.inj h
    rw [List.any_cons, List.any_cons, any_same w l l' h2, show c.word = c'.word from congrArg Prod.fst h1]
theorem faultCs_same : ∀ (l l' had had' : List Cla), had.map clC = had'.map clC → l.map clC = l'.map clC → faultCs had l = .ok () → faultCs had' l' = .ok ()
  | [], [], _, _, _, _, _ => rfl
  | [], _ :: _, _, _, _, h, _ => by simp at h
  | _ :: _, [], _, _, _, h, _ => by simp at h
  | c :: l, c' :: l', had, had', hh, h, hx => by
    rw [List.map_cons, List.map_cons] at h
    obtain ⟨h1, h2⟩ := List.cons.inj h
    have hq := h1
    unfold clC at hq
    simp only [Prod.mk.injEq] at hq
    obtain ⟨q1, q2, q3, q4⟩ := hq
    rw [faultCs] at hx ⊢
    obtain ⟨_, e1, e2⟩ := bindI hx
    have hm : mustN c = mustN c' := by unfold mustN; rw [q1, q3, q4]
    have hl : c.nums.length = c'.nums.length := by simpa using congrArg List.length q2
    have : faultC had' c' = .ok () := by
      unfold faultC at e1 ⊢
      rw [← hm, ← hl, ← any_same c'.word had had' hh, ← q1]
      split at e1
      · cases e1
      · rename_i ha
        rw [if_neg ha]
        split at e1
        · cases e1
        · rename_i hb
          rw [if_neg hb, ← nth_same q2]
          exact faultN_same c c' q1 q4 _ _ _ 0 q2 e1
    rw [this]
    exact faultCs_same l l' (had ++ [c]) (had' ++ [c']) (by rw [List.map_append, List.map_append, hh, List.map_singleton, List.map_singleton, h1]) h2 e2
theorem find_same (w : List UInt8) : ∀ l l' : List Cla, l.map clC = l'.map clC → (findC w l).map clC = (findC w l').map clC
  | [], [], _ => rfl
  | [], _ :: _, h => by simp at h
  | _ :: _, [], h => by simp at h
  | c :: l, c' :: l', h => by
    rw [List.map_cons, List.map_cons] at h
    obtain ⟨h1, h2⟩ := List.cons.inj h
    have hw : c.word = c'.word := congrArg Prod.fst h1
    have ih := find_same w l l' h2
    unfold findC at ih ⊢
    rw [List.find?_cons, List.find?_cons, hw]
    cases (c'.word == w)
    · exact ih
    · simp [h1]
theorem find_cases {w : List UInt8} {l l' : List Cla} (h : l.map clC = l'.map clC) : (findC w l = none ∧ findC w l' = none) ∨ ∃ c c', findC w l = some c ∧ findC w l' = some c' ∧ clC c = clC c' := by
  have := find_same w l l' h
  cases h1 : findC w l with
  | none =>
    rw [h1] at this
    cases h2 : findC w l' with
    | none => exact .inl ⟨rfl, rfl⟩
    | some c' => rw [h2] at this; simp at this
  | some c =>
    rw [h1] at this
    cases h2 : findC w l' with
    | none => rw [h2] at this; simp at this
    | some c' => rw [h2] at this; exact .inr ⟨c, c', rfl, rfl, by simpa using this⟩
theorem clC_parts {c c' : Cla} (h : clC c = clC c') : (∀ k, nth c k = nth c' k) ∧ c.slash = c'.slash ∧ c.dash = c'.dash := by
  unfold clC at h
  simp only [Prod.mk.injEq] at h
  exact ⟨fun k => nth_same h.2.1 k, h.2.2.1, h.2.2.2⟩
theorem pre_same {l l' : List Cla} (h : l.map clC = l'.map clC) (w : List UInt8) : preOf l w = preOf l' w := by
  unfold preOf
  rcases find_cases (w := w) h with ⟨h1, h2⟩ | ⟨c, c', h1, h2, h3⟩
  · rw [h1, h2]
  · obtain ⟨p1, p2, _⟩ := clC_parts h3
    rw [h1, h2]
    simp only [p1, p2]
theorem por_same {l l' : List Cla} (h : l.map clC = l'.map clC) (w : List UInt8) : porOf l w = porOf l' w := by
  unfold porOf
  rcases find_cases (w := w) h with ⟨h1, h2⟩ | ⟨c, c', h1, h2, h3⟩
  · rw [h1, h2]
  · obtain ⟨p1, _, p3⟩ := clC_parts h3
    rw [h1, h2]
    simp only [p1, p3]
theorem pro_same {l l' : List Cla} (h : l.map clC = l'.map clC) : proOf l = proOf l' := by
  unfold proOf
  rcases find_cases (w := wProto) h with ⟨h1, h2⟩ | ⟨c, c', h1, h2, h3⟩
  · rw [h1, h2]
  · obtain ⟨p1, _, _⟩ := clC_parts h3
    rw [h1, h2]
    simp only [p1]
theorem check_same (size size' : Int) : ∀ (R R' : List Raw) (i : Nat) (had : Bool) (l : List Ent), R.map clR = R'.map clR → checkGo size i had R = .ok l → checkGo size' i had R' = .ok l
  | [], [], i, had, l, _, h => by
    rw [checkGo] at h ⊢
    split at h
    · rename_i hh; rw [if_pos hh]; exact h
    · cases h
  | [], _ :: _, _, _, _, h, _ => by simp at h
  | _ :: _, [], _, _, _, h, _ => by simp at h
  | r :: R, r' :: R', i, had, l, hR, h => by
    rw [List.map_cons, List.map_cons] at hR
    obtain ⟨h1, h2⟩ := List.cons.inj hR
    unfold clR at h1
    simp only [Prod.mk.injEq] at h1
    obtain ⟨q1, q2, q3, q4, q5⟩ := h1
    rw [checkGo] at h ⊢
    split at h
    · cases h
    rename_i hi
    split at h
    · cases h
    rename_i hdh
    obtain ⟨_, e1, ha⟩ := bindI h
    split at ha
    · cases ha
    rename_i hport
    obtain ⟨m, e2, hb⟩ := mapI ha
    subst hb
    have hm : meaning r = meaning r' := by
      unfold meaning actOf
      rw [q1, q2, q4, q5, pre_same q3, pre_same q3, por_same q3, por_same q3, pro_same q3]
    have hf : (if r'.dflt then (Except.ok () : ResI Unit) else faultR r') = .ok () := by
      rw [← q1]
      cases hd : r.dflt with
      | true => rfl
      | false =>
        rw [hd, if_neg (by decide)] at e1
        rw [if_neg (by decide)]
        unfold faultR at e1 ⊢
        rw [← q2]
        split at e1
        · cases e1
        · rename_i hpr
          rw [if_neg hpr]
          exact faultCs_same _ _ [] [] rfl q3 e1
    rw [if_neg hi, ← q1, if_neg hdh]
    rw [← q1] at hf
    rw [hf]
    simp only [Except.bind]
    rw [← q4, ← q5, if_neg hport, check_same size size' R R' (i + 1) (had || r.dflt) m h2 e2, hm]
    rfl
/-- WHAT WAS READ IS PRINTED TO A TEXT THAT IS READ AS THE SAME. -/
theorem sense_back {S : List UInt8} {l : List Ent} (h : readT S = .ok l) (hlen : (printE l).length ≤ 4096) : readT (printE l) = .ok l := by
  unfold readT at h
  cases hp : parseT S with
  | error x => rw [hp] at h; cases h
  | ok R =>
    rw [hp] at h
    rcases check_lines _ ((printE l).length : Int) R 0 false l h with ⟨h1, h2, h3, h4⟩ | ⟨_, h5, _⟩
    · have hok : ∀ x ∈ l.map lineOf, okR x := fun x hx => by
        obtain ⟨y, hy, rfl⟩ := List.mem_map.1 hx
        exact okR_line y (h1 y hy)
      obtain ⟨R', e, hR'⟩ := parse_print (l.map lineOf) hok (by rw [List.length_map]; omega) hlen
      have hc := check_same _ ((printE l).length : Int) (l.map lineOf) R' 0 false l hR'.symm h2
      unfold readT
      rw [show parseT (printE l) = .ok R' from e]
      exact hc
    · cases h5
end Go.Proofs.YtnbklmmampdbfaaGreatDoor
namespace Go.Proofs.YtnbklmmampdbfaaGreatDoor
open Go
set_option maxRecDepth 20000

/-- Of what was checked just one entry is the default. -/
theorem check_one (size : Int) : ∀ (R : List Raw) (i : Nat) (had : Bool) (l : List Ent), checkGo size i had R = .ok l → (l.filter fun x => x.dflt).length + (if had then 1 else 0) = 1 ∧ l.length = R.length
  | [], i, had, l, h => by
    rw [checkGo] at h
    split at h
    · rename_i hh
      obtain rfl : [] = l := Except.ok.inj h
      rw [hh]; exact ⟨rfl, rfl⟩
    · cases h
  | r :: R, i, had, l, h => by
    rw [checkGo] at h
    split at h
    · cases h
    split at h
    · cases h
    rename_i hdh
    obtain ⟨_, h1, ha⟩ := bindI h
    split at ha
    · cases ha
    obtain ⟨m, h2, hb⟩ := mapI ha
    subst hb
    obtain ⟨ih, il⟩ := check_one size R (i + 1) (had || r.dflt) m h2
    have hd : (meaning r).dflt = r.dflt := by unfold meaning; cases r.dflt <;> rfl
    refine ⟨?_, by simp [il]⟩
    rw [List.filter_cons, hd]
    cases e : r.dflt with
    | false =>
      rw [e] at ih
      simpa using ih
    | true =>
      have hh : had = false := by
        rw [e, Bool.true_and] at hdh
        simpa using hdh
      rw [e, hh] at ih
      rw [hh]
      simp at ih ⊢
      exact ih
/-- What was read: entries as they may be, one of them the default. -/
theorem read_in {S : List UInt8} {l : List Ent} (h : readT S = .ok l) : (∀ x ∈ l, okE x) ∧ (l.filter fun x => x.dflt).length = 1 ∧ ∃ R, parseT S = .ok R ∧ l.length = R.length := by
  unfold readT at h
  cases hp : parseT S with
  | error x => rw [hp] at h; cases h
  | ok R =>
    rw [hp] at h
    obtain ⟨h1, h2⟩ := check_one _ R 0 false l h
    refine ⟨?_, by simpa using h1, R, rfl, h2⟩
    rcases check_lines _ 0 R 0 false l h with ⟨h3, _⟩ | ⟨_, h5, _⟩
    · exact h3
    · cases h5

/-! Which entry says something of a header: 'ap' tells whether an entry applies. -/
/-- The greatest priority that applies and isn't a default, the first of several: the place of the best so far, and its priority. -/
def beats (p : Int) : Option (Nat × Int) → Bool
  | none => true
  | some b => decide (b.2 < p)
def bestGo (ap : Ent → Bool) : Nat → Option (Nat × Int) → List Ent → Option (Nat × Int)
  | _, b, [] => b
  | i, b, x :: l => bestGo ap (i + 1) (if !x.dflt && ap x && beats x.prio b then some (i, x.prio) else b) l
def firstD : Nat → List Ent → Option Nat
  | _, [] => none
  | i, x :: l => if x.dflt then some i else firstD (i + 1) l
def whichT (ap : Ent → Bool) (l : List Ent) : Option Nat := match bestGo ap 0 none l with
  | some (i, _) => some i
  | none => firstD 0 l
theorem bestGo_in (ap : Ent → Bool) (L : List Ent) : ∀ (l : List Ent) (i : Nat) (b : Option (Nat × Int)), (∀ k, l[k]? = L[i + k]?) → (∀ j p, b = some (j, p) → ∃ x, L[j]? = some x ∧ x.prio = p ∧ x.dflt = false ∧ ap x = true) → ∀ j p, bestGo ap i b l = some (j, p) → ∃ x, L[j]? = some x ∧ x.prio = p ∧ x.dflt = false ∧ ap x = true
  | [], i, b, _, hb, j, p, h => hb j p h
  | x :: l, i, b, hL, hb, j, p, h => by
    rw [bestGo] at h
    refine bestGo_in ap L l (i + 1) _ (fun k => ?_) (fun j p hjp => ?_) j p h
    · have := hL (k + 1)
      rw [List.getElem?_cons_succ] at this
      rw [this]; congr 1; omega
    · split at hjp
      · rename_i hc
        simp only [Bool.and_eq_true, Bool.not_eq_true'] at hc
        obtain ⟨rfl, rfl⟩ := Prod.mk.inj (Option.some.inj hjp)
        have := hL 0
        simp only [List.getElem?_cons_zero, Nat.add_zero] at this
        exact ⟨x, this.symm, rfl, hc.1.1, hc.1.2⟩
      · exact hb j p hjp
theorem firstD_in : ∀ (l : List Ent) (i : Nat), (∃ x ∈ l, x.dflt = true) → ∃ k x, firstD i l = some (i + k) ∧ l[k]? = some x ∧ x.dflt = true
  | [], i, h => by obtain ⟨x, hx, _⟩ := h; simp at hx
  | y :: l, i, h => by
    rw [firstD]
    cases hy : y.dflt with
    | true => exact ⟨0, y, by rw [if_pos rfl]; rfl, rfl, hy⟩
    | false =>
      rw [if_neg (by decide)]
      obtain ⟨k, x, h1, h2, h3⟩ := firstD_in l (i + 1) (by
        obtain ⟨x, hx, hd⟩ := h
        rcases List.mem_cons.1 hx with rfl | hx
        · rw [hy] at hd; cases hd
        · exact ⟨x, hx, hd⟩)
      exact ⟨k + 1, x, by rw [h1]; congr 1; omega, by simpa using h2, h3⟩
/-- A LIST WITH A DEFAULT SAYS SOMETHING OF EVERY HEADER. -/
theorem which_some (ap : Ent → Bool) (l : List Ent) (h : ∃ x ∈ l, x.dflt = true) : ∃ i x, whichT ap l = some i ∧ l[i]? = some x := by
  unfold whichT
  cases hb : bestGo ap 0 none l with
  | some b =>
    obtain ⟨i, p⟩ := b
    obtain ⟨x, hx, _⟩ := bestGo_in ap l l 0 none (fun k => by rw [Nat.zero_add]) (fun j p hjp => by cases hjp) i p hb
    exact ⟨i, x, rfl, hx⟩
  | none =>
    obtain ⟨k, x, h1, h2, _⟩ := firstD_in l 0 h
    exact ⟨k, x, by rw [← Nat.zero_add k]; exact h1, h2⟩
end Go.Proofs.YtnbklmmampdbfaaGreatDoor
namespace Go.Proofs.YtnbklmmampdbfaaGreatDoor
open Go
set_option maxRecDepth 20000

/-- What a check comes to, as an error and its place. -/
def fltR : ResI Unit → Int × Int
  | .ok _ => (0, 0)
  | .error x => ((x.1 : Int), x.2)
/-- The least number at a place of a clause, as the program has it. -/
def lowN (c : Cla) (i : Nat) : Int := if isPortW c.word && decide (0 < i) then nth c 0 else 0
def numF (c : Cla) : Nat → List Fig → Int × Int
  | _, [] => (0, 0)
  | i, x :: l => if decide (x.n < lowN c i) || decide (mostN c.word i < x.n) then (10, x.pos) else numF c (i + 1) l
theorem numF_other (c : Cla) (hp : isPortW c.word = false) (first : Int) : ∀ (l : List Fig) (k : Nat), numF c k l = fltR (faultN c first k l)
  | [], _ => rfl
  | x :: l, k => by
    rw [numF, faultN]
    have e : lowN c k = 0 := by unfold lowN; rw [hp]; rfl
    rw [e, hp]
    simp only [Bool.and_false, Bool.false_and, Bool.or_false]
    split
    · rfl
    · exact numF_other c hp first l (k + 1)
theorem mustN_port {c : Cla} (hp : isPortW c.word = true) : mustN c = if c.dash then 2 else 1 := by
  unfold mustN
  rw [portW_not hp, hp]
  simp
theorem numF_all (c : Cla) (hl : c.nums.length = mustN c) : numF c 0 c.nums = fltR (faultN c (nth c 0) 0 c.nums) := by
  cases hp : isPortW c.word with
  | false => exact numF_other c hp _ _ _
  | true =>
    rw [mustN_port hp] at hl
    cases hd : c.dash with
    | false =>
      rw [hd] at hl
      obtain ⟨a, ha⟩ : ∃ a, c.nums = [a] := by
        match h : c.nums, hl with
        | [a], _ => exact ⟨a, rfl⟩
      rw [ha]
      simp only [numF, faultN, lowN, hp, hd, Bool.false_and, Bool.or_false, Bool.true_and]
      simp only [Nat.lt_irrefl, decide_false, Bool.false_eq_true, if_false]
      split <;> rfl
    | true =>
      rw [hd] at hl
      obtain ⟨a, b, ha⟩ : ∃ a b, c.nums = [a, b] := by
        match h : c.nums, hl with
        | [a, b], _ => exact ⟨a, b, rfl⟩
      have hn : nth c 0 = a.n := by unfold nth; rw [ha]; rfl
      have hm : ∀ k, mostN c.word k = 65535 := fun k => by unfold mostN; rw [hp]; rfl
      rw [ha]
      simp only [numF, faultN, lowN, hp, hd, hn, hm, Bool.true_and, Nat.zero_add]
      simp only [Nat.lt_irrefl, decide_false, Bool.false_eq_true, if_false, if_true, Nat.lt_add_one, decide_true, show ((0 : Nat) == 1) = false from rfl, show ((1 : Nat) == 1) = true from rfl, Bool.false_and, Bool.or_false, Bool.true_and]
      by_cases h1 : a.n < 0
      · simp [h1, fltR]
      · by_cases h2 : 65535 < a.n
        · simp [h2, fltR]
        · by_cases h3 : b.n < a.n
          · have h4 : (decide (b.n < 0) || decide (65535 < b.n) || true) = true := by simp
            simp [h1, h2, h3, fltR]
          · have h5 : ¬ b.n < 0 := by omega
            by_cases h6 : 65535 < b.n <;> simp [h1, h2, h3, h5, h6, fltR]

/-- What is wrong with a clause first, as the program asks. -/
def claF (had : List Cla) (c : Cla) : Int × Int :=
  if mustN c == 0 || c.nums.length != mustN c then (8, c.pos) else if had.any (fun d => d.word == c.word) then (9, c.pos) else numF c 0 c.nums
theorem claF_eq (had : List Cla) (c : Cla) : claF had c = fltR (faultC had c) := by
  unfold claF faultC
  split
  · rfl
  · rename_i h
    split
    · rfl
    · simp only [Bool.or_eq_true, beq_iff_eq, bne_iff_ne, ne_eq, not_or, Decidable.not_not] at h
      exact numF_all c h.2
theorem faultN_code (c : Cla) (first : Int) : ∀ (l : List Fig) (k e : Nat) (p : Int), faultN c first k l = .error (e, p) → e = 10
  | [], _, _, _, h => by simp [faultN] at h
  | x :: l, k, e, p, h => by
    rw [faultN] at h
    split at h
    · simp only [Except.error.injEq, Prod.mk.injEq] at h; exact h.1.symm
    · exact faultN_code c first l (k + 1) e p h
theorem faultC_code {had : List Cla} {c : Cla} {e : Nat} {p : Int} (h : faultC had c = .error (e, p)) : e ≠ 0 := by
  unfold faultC at h
  split at h
  · simp only [Except.error.injEq, Prod.mk.injEq] at h; omega
  · split at h
    · simp only [Except.error.injEq, Prod.mk.injEq] at h; omega
    · have := faultN_code _ _ _ _ _ _ h; omega
/-- What is wrong with a line's first k clauses. -/
def ruleF (r : Raw) (k : Nat) : Int × Int := if decide (r.prio.n < 0) || decide (65535 < r.prio.n) then (10, r.prio.pos) else fltR (faultCs [] (r.clauses.take k))
theorem fltR_zero {x : ResI Unit} (hc : ∀ e p, x = .error (e, p) → e ≠ 0) (h : (fltR x).1 = 0) : x = .ok () := by
  cases x with
  | ok u => rfl
  | error y =>
    obtain ⟨e, p⟩ := y
    have := hc e p rfl
    simp [fltR] at h
    exact absurd h this
theorem faultCs_code : ∀ (l had : List Cla) (e : Nat) (p : Int), faultCs had l = .error (e, p) → e ≠ 0
  | [], _, _, _, h => by simp [faultCs] at h
  | c :: l, had, e, p, h => by
    rw [faultCs] at h
    cases hc : faultC had c with
    | error y =>
      obtain ⟨e', p'⟩ := y
      rw [hc] at h
      simp only [Except.bind, Except.error.injEq, Prod.mk.injEq] at h
      have := faultC_code hc
      omega
    | ok u =>
      rw [hc] at h
      exact faultCs_code l _ e p h
theorem ruleF_next {r : Raw} {k : Nat} {c : Cla} (hc : r.clauses[k]? = some c) (h : (ruleF r k).1 = 0) : ruleF r (k + 1) = claF (r.clauses.take k) c := by
  unfold ruleF at h ⊢
  split at h
  · simp at h
  · rename_i hp
    have h1 := fltR_zero (fun e p => faultCs_code _ _ e p) h
    rw [if_neg hp, claF_eq]
    obtain ⟨hk, rfl⟩ := List.getElem?_eq_some_iff.1 hc
    rw [List.take_succ_eq_append_getElem hk, faultCs_append, h1]
    simp only [Except.bind, List.nil_append, faultCs]
    cases faultC (r.clauses.take k) r.clauses[k] <;> rfl
theorem ruleF_stays {r : Raw} {k : Nat} (h : (ruleF r k).1 ≠ 0) : ruleF r r.clauses.length = ruleF r k := by
  unfold ruleF at h ⊢
  split
  · rfl
  · rename_i hp
    rw [if_neg hp] at h
    rw [List.take_length]
    have e : r.clauses = r.clauses.take k ++ r.clauses.drop k := (List.take_append_drop k _).symm
    rw [show faultCs [] r.clauses = faultCs [] (r.clauses.take k ++ r.clauses.drop k) by rw [← e], faultCs_append]
    cases hx : faultCs [] (r.clauses.take k) with
    | error y => rfl
    | ok u => rw [hx] at h; exact absurd rfl h
theorem ruleF_all (r : Raw) : ruleF r r.clauses.length = fltR (faultR r) := by
  unfold ruleF faultR
  rw [List.take_length]
  split <;> rfl
theorem faultR_code {r : Raw} {e : Nat} {p : Int} (h : faultR r = .error (e, p)) : e ≠ 0 := by
  unfold faultR at h
  split at h
  · simp only [Except.error.injEq, Prod.mk.injEq] at h; omega
  · exact faultCs_code _ _ _ _ h
def lineF (r : Raw) : Int × Int := if r.dflt then (0, 0) else fltR (faultR r)
def actF (r : Raw) : Int × Int := if !r.drop && (decide (r.port.n < 1) || decide (99 < r.port.n)) then (10, r.port.pos) else (0, 0)
def orF (a b : Int × Int) : Int × Int := if a.1 = 0 then b else a
/-- What is wrong with line i first. -/
def rowF (i : Nat) (had : Bool) (r : Raw) : Int × Int :=
  orF (if 64 ≤ i then (4, r.pos) else (0, 0)) (orF (if had && r.dflt then (9, r.pos) else (0, 0)) (orF (lineF r) (orF (actF r) (0, 0))))
theorem check_nil (size : Int) (i : Nat) (had : Bool) : checkGo size i had [] = if had then .ok [] else .error (11, size) := rfl
theorem check_bad (size : Int) (i : Nat) (had : Bool) (r : Raw) (l : List Raw) (h : (rowF i had r).1 ≠ 0) : ∃ e : Nat, checkGo size i had (r :: l) = .error (e, (rowF i had r).2) ∧ (rowF i had r).1 = (e : Int) := by
  rw [checkGo]
  unfold rowF orF at h ⊢
  by_cases h1 : 64 ≤ i
  · rw [if_pos h1]
    exact ⟨4, by simp [h1], by simp [h1]⟩
  · rw [if_neg h1] at h ⊢
    simp only [if_true, h1, if_false] at h ⊢
    by_cases h2 : (had && r.dflt) = true
    · have h2' : (r.dflt && had) = true := by rw [Bool.and_comm]; exact h2
      exact ⟨9, by simp [h2, h2'], by simp [h2]⟩
    · have h2' : (r.dflt && had) = false := by rw [Bool.and_comm]; simpa using h2
      have h2f : (had && r.dflt) = false := by simpa using h2
      rw [h2f] at h ⊢
      simp only [h2', Bool.false_eq_true, if_false, if_true] at h ⊢
      cases hd : r.dflt with
      | true =>
        have hl : lineF r = (0, 0) := by unfold lineF; rw [hd]; rfl
        rw [hl] at h ⊢
        simp only [if_true] at h ⊢
        unfold actF at h ⊢
        by_cases h3 : (!r.drop && (decide (r.port.n < 1) || decide (99 < r.port.n))) = true
        · refine ⟨10, ?_, ?_⟩
          · simp only [h3, Except.bind, if_true]
            simp
          · simp [h3]
        · simp [h3] at h
      | false =>
        have hl : lineF r = fltR (faultR r) := by unfold lineF; rw [hd]; rfl
        rw [hl] at h ⊢
        cases hf : faultR r with
        | error y =>
          obtain ⟨e, p⟩ := y
          have hne := faultR_code hf
          exact ⟨e, by simp [fltR, hne, Except.bind], by simp [fltR, hne]⟩
        | ok u =>
          rw [hf] at h
          simp only [fltR, if_true] at h ⊢
          unfold actF at h ⊢
          by_cases h3 : (!r.drop && (decide (r.port.n < 1) || decide (99 < r.port.n))) = true
          · refine ⟨10, ?_, ?_⟩
            · simp only [h3, Except.bind, if_true]
              simp
            · simp [h3]
          · simp [h3] at h
/-- A line that is right. -/
structure rightR (r : Raw) : Prop where
  rule : r.dflt = false → faultR r = .ok ()
  act : r.drop = false → 1 ≤ r.port.n ∧ r.port.n ≤ 99
theorem check_good (size : Int) (i : Nat) (had : Bool) (r : Raw) (l : List Raw) (h : (rowF i had r).1 = 0) : checkGo size i had (r :: l) = (checkGo size (i + 1) (had || r.dflt) l).map (fun m => meaning r :: m) ∧ rightR r ∧ i < 64 := by
  rw [checkGo]
  unfold rowF orF at h
  by_cases h1 : 64 ≤ i
  · simp [h1] at h
  · simp only [h1, if_false, if_true] at h ⊢
    by_cases h2 : (had && r.dflt) = true
    · simp [h2] at h
    · have h2' : (r.dflt && had) = false := by rw [Bool.and_comm]; simpa using h2
      have h2f : (had && r.dflt) = false := by simpa using h2
      rw [h2f] at h
      simp only [h2', Bool.false_eq_true, if_false, if_true] at h ⊢
      have hline : (lineF r).1 = 0 := by
        by_cases hz : (lineF r).1 = 0
        · exact hz
        · rw [if_neg hz] at h; exact h
      rw [if_pos hline] at h
      have hact : (!r.drop && (decide (r.port.n < 1) || decide (99 < r.port.n))) = false := by
        unfold actF at h
        by_cases h3 : (!r.drop && (decide (r.port.n < 1) || decide (99 < r.port.n))) = true
        · simp [h3] at h
        · simpa using h3
      have hrule : r.dflt = false → faultR r = .ok () := fun hd => by
        unfold lineF at hline
        rw [hd] at hline
        exact fltR_zero (fun e p he => faultR_code he) hline
      refine ⟨?_, ⟨hrule, fun hd => ?_⟩, by omega⟩
      · have e1 : (if r.dflt = true then (.ok () : ResI Unit) else faultR r) = .ok () := by
          cases hd : r.dflt with
          | true => rfl
          | false => exact hrule hd
        rw [e1, hact]
        rfl
      · rw [hd] at hact
        simp at hact
        omega

/-! What a line means, clause by clause. -/
def preC (c : Cla) : Int × Int := (((nth c 0 * 256 + nth c 1) * 256 + nth c 2) * 256 + nth c 3, if c.slash then nth c 4 else 32)
def porC (c : Cla) : Int × Int := (nth c 0, nth c (c.nums.length - 1))
def setC (x : Ent) (c : Cla) : Ent :=
  if c.word = wSrc then { x with src := (preC c).1, srcBits := (preC c).2 }
  else if c.word = wDst then { x with dst := (preC c).1, dstBits := (preC c).2 }
  else if c.word = wSport then { x with slow := (porC c).1, shigh := (porC c).2 }
  else if c.word = wDport then { x with dlow := (porC c).1, dhigh := (porC c).2 }
  else if c.word = wProto then { x with proto := nth c 0 } else x
def ent0 (r : Raw) : Ent := ⟨false, r.prio.n, actOf r, 0, 0, 0, 0, 0, 65535, 0, 65535, -1⟩
def over (x : Ent) (l : List Cla) : Ent :=
  { x with
    src := match findC wSrc l with | none => x.src | some c => (preC c).1
    srcBits := match findC wSrc l with | none => x.srcBits | some c => (preC c).2
    dst := match findC wDst l with | none => x.dst | some c => (preC c).1
    dstBits := match findC wDst l with | none => x.dstBits | some c => (preC c).2
    slow := match findC wSport l with | none => x.slow | some c => (porC c).1
    shigh := match findC wSport l with | none => x.shigh | some c => (porC c).2
    dlow := match findC wDport l with | none => x.dlow | some c => (porC c).1
    dhigh := match findC wDport l with | none => x.dhigh | some c => (porC c).2
    proto := match findC wProto l with | none => x.proto | some c => nth c 0 }
theorem find_cons (w : List UInt8) (c : Cla) (l : List Cla) : findC w (c :: l) = if c.word = w then some c else findC w l := by
  unfold findC
  rw [List.find?_cons]
  by_cases h : c.word = w
  · simp [h]
  · have : (c.word == w) = false := by simpa using h
    simp [this, h]
theorem find_not {w : List UInt8} {c : Cla} {l : List Cla} (h : ∀ d ∈ l, c.word ≠ d.word) (hw : c.word = w) : findC w l = none := by
  unfold findC
  rw [List.find?_eq_none]
  intro d hd
  have := h d hd
  simp
  rw [← hw]
  exact fun e => this e.symm
theorem fold_over : ∀ (l : List Cla), (l.Pairwise fun a b => a.word ≠ b.word) → ∀ x : Ent, l.foldl setC x = over x l
  | [], _, x => rfl
  | c :: l, hp, x => by
    obtain ⟨h1, h2⟩ := List.pairwise_cons.1 hp
    rw [List.foldl_cons, fold_over l h2]
    unfold over
    simp only [find_cons]
    have nn := fun w (hw : c.word = w) => find_not (w := w) h1 hw
    by_cases e1 : c.word = wSrc
    · have := nn _ e1
      simp only [setC, e1, this, show ¬ wSrc = wDst by decide, show ¬ wSrc = wSport by decide, show ¬ wSrc = wDport by decide, show ¬ wSrc = wProto by decide, if_true, if_false]
    by_cases e2 : c.word = wDst
    · have := nn _ e2
      simp only [setC, e2, this, show ¬ wDst = wSrc by decide, show ¬ wDst = wSport by decide, show ¬ wDst = wDport by decide, show ¬ wDst = wProto by decide, if_true, if_false]
    by_cases e3 : c.word = wSport
    · have := nn _ e3
      simp only [setC, e3, this, show ¬ wSport = wSrc by decide, show ¬ wSport = wDst by decide, show ¬ wSport = wDport by decide, show ¬ wSport = wProto by decide, if_true, if_false]
    by_cases e4 : c.word = wDport
    · have := nn _ e4
      simp only [setC, e4, this, show ¬ wDport = wSrc by decide, show ¬ wDport = wSport by decide, show ¬ wDport = wDst by decide, show ¬ wDport = wProto by decide, if_true, if_false]
    by_cases e5 : c.word = wProto
    · have := nn _ e5
      simp only [setC, e5, this, show ¬ wProto = wSrc by decide, show ¬ wProto = wSport by decide, show ¬ wProto = wDst by decide, show ¬ wProto = wDport by decide, if_true, if_false]
    simp only [setC, e1, e2, e3, e4, e5, if_false]
theorem faultCs_apart : ∀ (l had : List Cla), faultCs had l = .ok () → (l.Pairwise fun a b => a.word ≠ b.word) ∧ ∀ d ∈ had, ∀ c ∈ l, d.word ≠ c.word
  | [], _, _ => ⟨List.Pairwise.nil, fun _ _ c hc => by simp at hc⟩
  | c :: l, had, h => by
    rw [faultCs] at h
    obtain ⟨_, h1, h2⟩ := bindI h
    obtain ⟨i1, i2⟩ := faultCs_apart l (had ++ [c]) h2
    have hn : had.any (fun d => d.word == c.word) = false := by
      unfold faultC at h1
      split at h1
      · cases h1
      · split at h1
        · cases h1
        · rename_i hz; simpa using hz
    refine ⟨List.pairwise_cons.2 ⟨fun d hd => i2 c (by simp) d hd, i1⟩, fun d hd e he => ?_⟩
    rcases List.mem_cons.1 he with rfl | he
    · rw [List.any_eq_false] at hn
      have := hn d hd
      simpa using this
    · exact i2 d (by simp [hd]) e he
theorem por_last {c : Cla} (h : goodC c) (hp : isPortW c.word = true) : porC c = (nth c 0, if c.dash then nth c 1 else nth c 0) := by
  unfold porC
  rw [h.2.1, mustN_port hp]
  cases c.dash <;> rfl
theorem mean_fold (r : Raw) (hd : r.dflt = false) (hf : faultR r = .ok ()) : r.clauses.foldl setC (ent0 r) = meaning r := by
  have hcs : faultCs [] r.clauses = .ok () := by
    unfold faultR at hf
    split at hf
    · cases hf
    · exact hf
  have hg := faultCs_in _ _ hcs
  rw [fold_over _ (faultCs_apart _ _ hcs).1]
  unfold meaning over ent0 preOf porOf proOf
  rw [hd]
  have e1 : ∀ c, findC wSport r.clauses = some c → porC c = (nth c 0, if c.dash then nth c 1 else nth c 0) := fun c hc => by
    obtain ⟨h1, h2⟩ := find_in hc
    exact por_last (hg c h1) (by rw [h2]; decide)
  have e2 : ∀ c, findC wDport r.clauses = some c → porC c = (nth c 0, if c.dash then nth c 1 else nth c 0) := fun c hc => by
    obtain ⟨h1, h2⟩ := find_in hc
    exact por_last (hg c h1) (by rw [h2]; decide)
  cases h1 : findC wSrc r.clauses <;> cases h2 : findC wDst r.clauses <;> cases h3 : findC wSport r.clauses <;> cases h4 : findC wDport r.clauses <;> cases h5 : findC wProto r.clauses <;> simp_all [preC]
end Go.Proofs.YtnbklmmampdbfaaGreatDoor
