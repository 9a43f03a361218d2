import Derived.Test.YtbhkoipcpcoooaaGreatJ6
import Derived.Deep.CutRange
import Derived.Test.YtbhkoipcpcoooaaGreatJ5
import Derived.Test.YtbhkoipcpcoooaaGreatJ3
namespace Go.Proofs.YtbhkoipcpcoooaaGreat
set_option maxRecDepth 20000
set_option maxHeartbeats 64000000
open Go
open _root_.Nat renaming le_refl → aA, zero_le → aP
open Go.Proofs.Tryz renaming prog → aB, ntmps224 → aM
open Go.IntKind renaming wrap_i64 → aC, i64 → aD
open Go.Calls renaming grown_of → aG
open Go.Sem renaming run_bind → aH, run_pure → aL
open Go.Region renaming wanted → aI
open Go.Result renaming andThen_ok → aJ
open Go.Instr renaming storeAt → aN, loadAt → aO, sureAddr → aT
section
open Go Go.Shelf Go.RowKit Go.Lib Go.Sort
variable {α : Type} [Inhabited α]
set_option maxRecDepth 1000000 in
/-- slices.symMergeCmpFunc where the first part is one element. -/
theorem Ahi{P : Program}{k : Nat}(L : QA P k)(enc : α → List Value)(p : α → Int)(cf : α → α → Int)(hcf :∀ x y, cf x y < 0 ↔ p y < p x)(g : Nat)(cb : Array Value)(blk off cap : Nat)(d0 : Array α)(w0 : World)
    (eg :∀ args w, (callFunc g args).run P w =.ok (.enter g args) w) (hcmp : CmpLays P g cb enc k cf blk off d0.size w0) (R : RowK enc k w0 blk off d0) (a m b : Nat) (hm : m = a+1) (d : Array α) (w : World) (hs : d0.size = d.size) (S : SWK enc k w0 blk off d w) (hab : m < b) (hb : b ≤ d.size) (hsz : d.size < 4611686018427387904) (hY : Cn p (AI d) m b) :
    Calls P 224 #[.slice (some ⟨blk, off, none⟩) d.size cap,.int .i64 a,.int .i64 m,.int .i64 b,.func (.func g) #[] cb] w fun e w' => e =.returned (.tuple #[]) ∧∃ d', d'.size = d.size ∧ SWK enc k w0 blk off d' w' ∧ Ds p (AI d) (AI d') a b := by
  have mixed := L.mixed
  have t0 := L.t0; have a0 := L.a0; have z0 := L.z0; have v0 := L.v0
  have t3 := L.t3; have a3 := L.a3; have z3 := L.z3; have v3 := L.v3
  have t4 := L.t4; have a4 := L.a4; have z4 := L.z4; have v4 := L.v4
  have tS := L.tS; have aS := L.aS; have zS := L.zS; have vS := L.vS
  have tF := L.tF; have aF := L.aF; have zF := L.zF; have vF := L.vF
  have tU := L.tU; have aU := L.aU; have zU := L.zU; have vU := L.vU
  have aE := L.aE; have zE := L.zE
  have FG := L.f_symMerge
  have HC : Aside _ := hcmp
  have S0 : Aside (SWK enc k w0 blk off d w) := S
  have HF : Hid (∀ x y, cf x y < 0 ↔ p y < p x) := hcf
  have HY : Hid (Cn p (AI d) m b) := hY
  have HM : Hid (m = a+1) := hm
  have hmz : (m : Int)-(a : Int) = 1 := by omega
  have ham : a < m := by omega
  clear hcmp S hcf hY L hm
  go_enter FG, aM
  go_wp2
  go_loopg [10, 11] (b-m) (fun kx s10 s11 wr => ∃ (i j : Nat), s10 =.int .i64 i ∧ s11 =.int .i64 j ∧ m ≤ i ∧ i ≤ j ∧ j ≤ b ∧ j-i ≤ kx ∧ Aside (SWK enc k w0 blk off d wr) ∧ Hid (i = m ∨ p (AI d a) < p (AI d (i-1))) ∧ Hid (j = b ∨ p (AI d j) ≤ p (AI d a)))
  case atStart => exact⟨m, b, rfl, rfl, aA _, by omega, aA _, aA _, S0,.inl rfl,.inl rfl⟩
  case round =>
    clear S0
    obtain⟨i, j, rfl, rfl, hai, hij, hjb, hkx, S1, HI, HJ⟩ := hrel
    by_cases hlt : i < j
    · have hltz : (i : Int) < (j : Int) := by omega
      obtain⟨h, hh⟩ :∃ h, h = (i+j)/2 :=⟨_, rfl⟩
      have hhz : ((i : Int)+(j : Int))/2 = (h : Int) := by omega
      have hh1 : i ≤ h := by omega
      have hh2 : h < j := by omega
      clear hh
      by_cases hv : cf d[h]! d[a]! < 0
      · have HN : Hid (h+1 = m ∨ p (AI d a) < p (AI d (h+1-1))) :=.inr ((HF.out _ _).1 hv)
        have ea24 : ((h : Int)).toNat = h := by omega
        have pa24 : (0 : Int) ≤ (h : Int) := by omega
        have ba24 : (h : Int) < (d.size : Int) := by omega
        have ra24 : aD.wrap ((h : Int)) = (h : Int) := by rw[aC]; omega
        have ec24 : ((a : Int)).toNat = a := by omega
        have pc24 : (0 : Int) ≤ (a : Int) := by omega
        have bc24 : (a : Int) < (d.size : Int) := by omega
        have rc24 : aD.wrap ((a : Int)) = (a : Int) := by rw[aC]; omega
        obtain⟨x24, hx24⟩ :∃ x, x = d[h]! :=⟨_, rfl⟩
        obtain⟨y24, hy24⟩ :∃ x, x = d[a]! :=⟨_, rfl⟩
        have l24a := S1.out.ld R (by omega) P (h) (by omega)
        have l24b := S1.out.ld R (by omega) P (a) (by omega)
        rw[← hx24] at l24a
        rw[← hy24] at l24b
        have hc24 := S1.out.cmp HC.out (by omega) x24 y24
        have hv24 : cf x24 y24 < 0 := by rw[hx24, hy24]; exact hv
        have hd24 : decide (cf x24 y24 < 0) = true := decide_eq_true hv24
        clear hx24 hy24 hv
        go_wp2_with fail
        go_quiet_grown (first|(go_at_fn g; refine aG (hc24 _ _)))
        have S2 : Aside (SWK enc k w0 blk off d (grow (wr.drewN nq) osq)) := S1.out.grown nq osq
        clear l24a l24b hc24 S1
        generalize grow (wr.drewN nq) osq = w2 at S2 ⊢
        clear nq osq
        go_wp2
        go_roundg (j-(h+1))
        case measure => omega
        case rel => exact⟨h+1, j, by go_num, rfl, by omega, by omega, hjb, aA _, S2, HN, HJ⟩
      · have HN : Hid (h = b ∨ p (AI d h) ≤ p (AI d a)) :=.inr (by have := mt (HF.out d[h]! d[a]!).2 hv; exact Int.not_lt.1 this)
        have ea25 : ((h : Int)).toNat = h := by omega
        have pa25 : (0 : Int) ≤ (h : Int) := by omega
        have ba25 : (h : Int) < (d.size : Int) := by omega
        have ra25 : aD.wrap ((h : Int)) = (h : Int) := by rw[aC]; omega
        have ec25 : ((a : Int)).toNat = a := by omega
        have pc25 : (0 : Int) ≤ (a : Int) := by omega
        have bc25 : (a : Int) < (d.size : Int) := by omega
        have rc25 : aD.wrap ((a : Int)) = (a : Int) := by rw[aC]; omega
        obtain⟨x25, hx25⟩ :∃ x, x = d[h]! :=⟨_, rfl⟩
        obtain⟨y25, hy25⟩ :∃ x, x = d[a]! :=⟨_, rfl⟩
        have l25a := S1.out.ld R (by omega) P (h) (by omega)
        have l25b := S1.out.ld R (by omega) P (a) (by omega)
        rw[← hx25] at l25a
        rw[← hy25] at l25b
        have hc25 := S1.out.cmp HC.out (by omega) x25 y25
        have hv25 :¬ cf x25 y25 < 0 := by rw[hx25, hy25]; exact hv
        have hd25 : decide (cf x25 y25 < 0) = false := decide_eq_false hv25
        clear hx25 hy25 hv
        go_wp2_with fail
        go_quiet_grown (first|(go_at_fn g; refine aG (hc25 _ _)))
        have S2 : Aside (SWK enc k w0 blk off d (grow (wr.drewN nq) osq)) := S1.out.grown nq osq
        clear l25a l25b hc25 S1
        generalize grow (wr.drewN nq) osq = w2 at S2 ⊢
        clear nq osq
        go_wp2
        go_roundg (h-i)
        case measure => omega
        case rel => exact⟨i, h, rfl, rfl, hai, hh1, by omega, aA _, S2, HI, HN⟩
    · have hltz :¬ (i : Int) < (j : Int) := by omega
      obtain rfl : i = j := by omega
      go_wp2
      go_loopg [13] b (fun kx s13 wr2 => ∃ (q : Nat) (dk : Array α), s13 =.int .i64 q ∧ a ≤ q ∧ q+1 ≤ i ∧ i-q ≤ kx ∧ dk.size = d.size ∧ Aside (SWK enc k w0 blk off dk wr2) ∧ Hid (AI dk = Cp (AI d) a (a+1) (q+1)))
      case atStart => exact⟨a, d, rfl, aA _, by omega, by omega, rfl, S1, (Am6 _ _).symm⟩
      case round =>
        clear S1
        obtain⟨q, dk, rfl, haq, hqi, hkx2, hds, S1, HE⟩ := hrel
        by_cases hq : q+1 < i
        · have hqz : (q : Int) < (i : Int)-1 := by omega
          have HE2 : Hid (AI (swp dk q (q+1)) = Cp (AI d) a (a+1) (q+1+1)) := by
            show _ = _
            rw[QF dk _ _ (by omega) (by omega), HE.out, Aou _ _ _ haq]
          go_wp2_with fail
          have ea44 : ((q : Int)).toNat = q := by omega
          have pa44 : (0 : Int) ≤ (q : Int) := by omega
          have ba44 : (q : Int) < (d.size : Int) := by omega
          have ra44 : aD.wrap ((q : Int)) = (q : Int) := by rw[aC]; omega
          have ec44 : ((q : Int)+1).toNat = q+1 := by omega
          have pc44 : (0 : Int) ≤ (q : Int)+1 := by omega
          have bc44 : (q : Int)+1 < (d.size : Int) := by omega
          have rc44 : aD.wrap ((q : Int)+1) = (q : Int)+1 := by rw[aC]; omega
          have S2 : Aside (SWK enc k w0 blk off (swp dk (q) (q+1)) ((wr.drew.setCells blk (off+(q)*k) (enc dk[q+1]!)).setCells blk (off+(q+1)*k) (enc dk[q]!))) := S1.out.swapped R (q) (q+1) (by omega) (by omega)
          have l44a := S1.out.ld1 R (by omega) P (q) (by omega)
          have l44b := S1.out.ld1 R (by omega) P (q+1) (by omega)
          have s44a := S1.out.st1 R (by omega) P (q) (by omega) dk[q+1]!
          have s44b := S1.out.st2 R (by omega) P (q) (q+1) (by omega) (by omega) dk[q+1]! dk[q]!
          have n44a : (enc dk[q]!).length = k := R.hk _
          have n44b : (enc dk[q+1]!).length = k := R.hk _
          generalize enc dk[q]! = cI44 at S2 l44a s44b n44a
          generalize enc dk[q+1]! = cJ44 at S2 l44b s44a s44b n44b
          clear S1
          go_wp2_with fail
          go_big_region_o
          clear l44a l44b s44a s44b
          generalize (wr.drew.setCells blk (off+(q)*k) cJ44).setCells blk (off+(q+1)*k) cI44 = w2 at S2 ⊢
          go_wp2
          go_roundg (i-(q+1))
          case measure => omega
          case rel => exact⟨q+1, swp dk q (q+1), by go_num, by omega, by omega, aA _, by rw[size_swp]; exact hds, S2, HE2⟩
        · have hqz :¬ (q : Int) < (i : Int)-1 := by omega
          obtain rfl : i = q+1 := by omega
          go_wp2
          (try simp only[Exit.inBlock, Exit.then]); refine bodyPost_ret (results_none rfl _ _ _) rfl ?_
          refine⟨rfl, dk, hds, S1.out,?_⟩
          rw[HE.out]
          obtain rfl := HM.out
          exact Ab1 (by omega) hjb HY.out HI.out HJ.out
set_option maxRecDepth 1000000 in
/-- slices.symMergeCmpFunc where the second part is one element. -/
theorem Adi{P : Program}{k : Nat}(L : QA P k)(enc : α → List Value)(p : α → Int)(cf : α → α → Int)(hcf :∀ x y, cf x y < 0 ↔ p y < p x)(g : Nat)(cb : Array Value)(blk off cap : Nat)(d0 : Array α)(w0 : World)
    (eg :∀ args w, (callFunc g args).run P w =.ok (.enter g args) w) (hcmp : CmpLays P g cb enc k cf blk off d0.size w0) (R : RowK enc k w0 blk off d0) (a m b : Nat) (hm : b = m+1) (d : Array α) (w : World) (hs : d0.size = d.size) (S : SWK enc k w0 blk off d w) (ham : a+1 < m) (hb : b ≤ d.size) (hsz : d.size < 4611686018427387904) (hX : Cn p (AI d) a m) :
    Calls P 224 #[.slice (some ⟨blk, off, none⟩) d.size cap,.int .i64 a,.int .i64 m,.int .i64 b,.func (.func g) #[] cb] w fun e w' => e =.returned (.tuple #[]) ∧∃ d', d'.size = d.size ∧ SWK enc k w0 blk off d' w' ∧ Ds p (AI d) (AI d') a b := by
  have mixed := L.mixed
  have t0 := L.t0; have a0 := L.a0; have z0 := L.z0; have v0 := L.v0
  have t3 := L.t3; have a3 := L.a3; have z3 := L.z3; have v3 := L.v3
  have t4 := L.t4; have a4 := L.a4; have z4 := L.z4; have v4 := L.v4
  have tS := L.tS; have aS := L.aS; have zS := L.zS; have vS := L.vS
  have tF := L.tF; have aF := L.aF; have zF := L.zF; have vF := L.vF
  have tU := L.tU; have aU := L.aU; have zU := L.zU; have vU := L.vU
  have aE := L.aE; have zE := L.zE
  have FG := L.f_symMerge
  have HC : Aside _ := hcmp
  have S0 : Aside (SWK enc k w0 blk off d w) := S
  have HF : Hid (∀ x y, cf x y < 0 ↔ p y < p x) := hcf
  have HX : Hid (Cn p (AI d) a m) := hX
  have hne : (((m : Int)-(a : Int)) == 1) = false := by simp; omega
  have HM : Hid (b = m+1) := hm
  have hmz : (b : Int)-(m : Int) = 1 := by omega
  have hmb : m < b := by omega
  clear hcmp S hcf hX L hm
  go_enter FG, aM
  go_wp2
  go_loopg [14, 15] (m-a) (fun kx s10 s11 wr => ∃ (i j : Nat), s10 =.int .i64 i ∧ s11 =.int .i64 j ∧ a ≤ i ∧ i ≤ j ∧ j ≤ m ∧ j-i ≤ kx ∧ Aside (SWK enc k w0 blk off d wr) ∧ Hid (i = a ∨ p (AI d m) ≤ p (AI d (i-1))) ∧ Hid (j = m ∨ p (AI d j) < p (AI d m)))
  case atStart => exact⟨a, m, rfl, rfl, aA _, by omega, aA _, aA _, S0,.inl rfl,.inl rfl⟩
  case round =>
    clear S0
    obtain⟨i, j, rfl, rfl, hai, hij, hjb, hkx, S1, HI, HJ⟩ := hrel
    by_cases hlt : i < j
    · have hltz : (i : Int) < (j : Int) := by omega
      obtain⟨h, hh⟩ :∃ h, h = (i+j)/2 :=⟨_, rfl⟩
      have hhz : ((i : Int)+(j : Int))/2 = (h : Int) := by omega
      have hh1 : i ≤ h := by omega
      have hh2 : h < j := by omega
      clear hh
      by_cases hv : cf d[m]! d[h]! < 0
      · have HN : Hid (h = m ∨ p (AI d h) < p (AI d m)) :=.inr ((HF.out _ _).1 hv)
        have ea24 : ((m : Int)).toNat = m := by omega
        have pa24 : (0 : Int) ≤ (m : Int) := by omega
        have ba24 : (m : Int) < (d.size : Int) := by omega
        have ra24 : aD.wrap ((m : Int)) = (m : Int) := by rw[aC]; omega
        have ec24 : ((h : Int)).toNat = h := by omega
        have pc24 : (0 : Int) ≤ (h : Int) := by omega
        have bc24 : (h : Int) < (d.size : Int) := by omega
        have rc24 : aD.wrap ((h : Int)) = (h : Int) := by rw[aC]; omega
        obtain⟨x24, hx24⟩ :∃ x, x = d[m]! :=⟨_, rfl⟩
        obtain⟨y24, hy24⟩ :∃ x, x = d[h]! :=⟨_, rfl⟩
        have l24a := S1.out.ld R (by omega) P (m) (by omega)
        have l24b := S1.out.ld R (by omega) P (h) (by omega)
        rw[← hx24] at l24a
        rw[← hy24] at l24b
        have hc24 := S1.out.cmp HC.out (by omega) x24 y24
        have hv24 : cf x24 y24 < 0 := by rw[hx24, hy24]; exact hv
        have hd24 : decide (cf x24 y24 < 0) = true := decide_eq_true hv24
        clear hx24 hy24 hv
        go_wp2_with fail
        go_quiet_grown (first|(go_at_fn g; refine aG (hc24 _ _)))
        have S2 : Aside (SWK enc k w0 blk off d (grow (wr.drewN nq) osq)) := S1.out.grown nq osq
        clear l24a l24b hc24 S1
        generalize grow (wr.drewN nq) osq = w2 at S2 ⊢
        clear nq osq
        go_wp2
        go_roundg (h-i)
        case measure => omega
        case rel => exact⟨i, h, rfl, rfl, hai, hh1, by omega, aA _, S2, HI, HN⟩
      · have HN : Hid (h+1 = a ∨ p (AI d m) ≤ p (AI d (h+1-1))) :=.inr (by have := mt (HF.out d[m]! d[h]!).2 hv; exact Int.not_lt.1 this)
        have ea25 : ((m : Int)).toNat = m := by omega
        have pa25 : (0 : Int) ≤ (m : Int) := by omega
        have ba25 : (m : Int) < (d.size : Int) := by omega
        have ra25 : aD.wrap ((m : Int)) = (m : Int) := by rw[aC]; omega
        have ec25 : ((h : Int)).toNat = h := by omega
        have pc25 : (0 : Int) ≤ (h : Int) := by omega
        have bc25 : (h : Int) < (d.size : Int) := by omega
        have rc25 : aD.wrap ((h : Int)) = (h : Int) := by rw[aC]; omega
        obtain⟨x25, hx25⟩ :∃ x, x = d[m]! :=⟨_, rfl⟩
        obtain⟨y25, hy25⟩ :∃ x, x = d[h]! :=⟨_, rfl⟩
        have l25a := S1.out.ld R (by omega) P (m) (by omega)
        have l25b := S1.out.ld R (by omega) P (h) (by omega)
        rw[← hx25] at l25a
        rw[← hy25] at l25b
        have hc25 := S1.out.cmp HC.out (by omega) x25 y25
        have hv25 :¬ cf x25 y25 < 0 := by rw[hx25, hy25]; exact hv
        have hd25 : decide (cf x25 y25 < 0) = false := decide_eq_false hv25
        clear hx25 hy25 hv
        go_wp2_with fail
        go_quiet_grown (first|(go_at_fn g; refine aG (hc25 _ _)))
        have S2 : Aside (SWK enc k w0 blk off d (grow (wr.drewN nq) osq)) := S1.out.grown nq osq
        clear l25a l25b hc25 S1
        generalize grow (wr.drewN nq) osq = w2 at S2 ⊢
        clear nq osq
        go_wp2
        go_roundg (j-(h+1))
        case measure => omega
        case rel => exact⟨h+1, j, by go_num, rfl, by omega, by omega, hjb, aA _, S2, HN, HJ⟩
    · have hltz :¬ (i : Int) < (j : Int) := by omega
      obtain rfl : i = j := by omega
      go_wp2
      go_loopg [17] (m+1) (fun kx s13 wr2 => ∃ (q : Nat) (dk : Array α), s13 =.int .i64 q ∧ i ≤ q ∧ q ≤ m ∧ q ≤ kx ∧ dk.size = d.size ∧ Aside (SWK enc k w0 blk off dk wr2) ∧ Hid (AI dk = Cp (AI d) q m (m+1)))
      case atStart => exact⟨m, d, rfl, hjb, aA _, by omega, rfl, S1, (Ae8 _ _).symm⟩
      case round =>
        clear S1
        obtain⟨q, dk, rfl, haq, hqi, hkx2, hds, S1, HE⟩ := hrel
        by_cases hq : i < q
        · obtain⟨q', rfl⟩ :∃ q', q = q'+1 :=⟨q-1, by omega⟩
          have hqz : (i : Int) < (q' : Int)+1 := by omega
          have HE2 : Hid (AI (swp dk (q'+1) q') = Cp (AI d) q' m (m+1)) := by
            show _ = _
            rw[QF dk _ _ (by omega) (by omega), HE.out, Ahu _ _ _ (by omega)]
          go_wp2_with fail
          have ea44 : ((q' : Int)+1).toNat = q'+1 := by omega
          have pa44 : (0 : Int) ≤ (q' : Int)+1 := by omega
          have ba44 : (q' : Int)+1 < (d.size : Int) := by omega
          have ra44 : aD.wrap ((q' : Int)+1) = (q' : Int)+1 := by rw[aC]; omega
          have ec44 : ((q' : Int)).toNat = q' := by omega
          have pc44 : (0 : Int) ≤ (q' : Int) := by omega
          have bc44 : (q' : Int) < (d.size : Int) := by omega
          have rc44 : aD.wrap ((q' : Int)) = (q' : Int) := by rw[aC]; omega
          have S2 : Aside (SWK enc k w0 blk off (swp dk (q'+1) (q')) ((wr.drew.setCells blk (off+(q'+1)*k) (enc dk[q']!)).setCells blk (off+(q')*k) (enc dk[q'+1]!))) := S1.out.swapped R (q'+1) (q') (by omega) (by omega)
          have l44a := S1.out.ld1 R (by omega) P (q'+1) (by omega)
          have l44b := S1.out.ld1 R (by omega) P (q') (by omega)
          have s44a := S1.out.st1 R (by omega) P (q'+1) (by omega) dk[q']!
          have s44b := S1.out.st2 R (by omega) P (q'+1) (q') (by omega) (by omega) dk[q']! dk[q'+1]!
          have n44a : (enc dk[q'+1]!).length = k := R.hk _
          have n44b : (enc dk[q']!).length = k := R.hk _
          generalize enc dk[q'+1]! = cI44 at S2 l44a s44b n44a
          generalize enc dk[q']! = cJ44 at S2 l44b s44a s44b n44b
          clear S1
          go_wp2_with fail
          go_big_region_o
          clear l44a l44b s44a s44b
          generalize (wr.drew.setCells blk (off+(q'+1)*k) cJ44).setCells blk (off+(q')*k) cI44 = w2 at S2 ⊢
          go_wp2
          go_roundg q'
          case measure => omega
          case rel => exact⟨q', swp dk (q'+1) q', by first | rfl | go_num, by omega, by omega, aA _, by rw[size_swp]; exact hds, S2, HE2⟩
        · have hqz :¬ (i : Int) < (q : Int) := by omega
          obtain rfl : i = q := by omega
          go_wp2
          (try simp only[Exit.inBlock, Exit.then]); refine bodyPost_ret (results_none rfl _ _ _) rfl ?_
          refine⟨rfl, dk, hds, S1.out,?_⟩
          rw[HE.out]
          obtain rfl := HM.out
          exact YL hai hjb HX.out HI.out HJ.out
end
section
open Go Go.Shelf Go.RowKit Go.Lib Go.Sort
variable {α:Type} [Inhabited α]
set_option maxRecDepth 1000000 in
theorem Adh{P:Program}{k:Nat}(L:QA P k)(enc:α→List Value)(p:α→Int)(cf:α→α→Int)(hcf:∀x y,cf x y<0↔p y<p x)(g:Nat)(cb:Array Value)(blk off cap:Nat)(d0:Array α)(w0:World)
  (eg:∀args w,(callFunc g args).run P w=.ok (.enter g args) w) (hcmp:CmpLays P g cb enc k cf blk off d0.size w0) (R:RowK enc k w0 blk off d0) (N:Nat)
  (IH:Hid (∀(a m b:Nat) (d:Array α) (w:World),b-a≤N→d0.size=d.size→SWK enc k w0 blk off d w→a<m→m<b→b≤d.size→d.size<4611686018427387904→Cn p (AI d) a m→Cn p (AI d) m b→
   Calls P 224 #[.slice (some ⟨blk,off,none⟩) d.size cap,.int .i64 a,.int .i64 m,.int .i64 b,.func (.func g) #[] cb] w fun e w'=>e=.returned (.tuple #[])∧∃d',d'.size=d.size∧SWK enc k w0 blk off d' w'∧Ds p (AI d) (AI d') a b))
  (a m b:Nat) (d:Array α) (w:World) (hN:b-a≤N+1) (hs:d0.size=d.size) (S:SWK enc k w0 blk off d w) (ham:a+1<m) (hmb:m+1<b) (hb:b≤d.size) (hsz:d.size<4611686018427387904) (hX:Cn p (AI d) a m) (hY:Cn p (AI d) m b):
  Calls P 224 #[.slice (some ⟨blk,off,none⟩) d.size cap,.int .i64 a,.int .i64 m,.int .i64 b,.func (.func g) #[] cb] w fun e w'=>e=.returned (.tuple #[])∧∃d',d'.size=d.size∧SWK enc k w0 blk off d' w'∧Ds p (AI d) (AI d') a b:=by
 have mixed:=L.mixed;have t0:=L.t0;have a0:=L.a0;have z0:=L.z0;have v0:=L.v0
 have t3:=L.t3;have a3:=L.a3;have z3:=L.z3;have v3:=L.v3
 have t4:=L.t4;have a4:=L.a4;have z4:=L.z4;have v4:=L.v4
 have tS:=L.tS;have aS:=L.aS;have zS:=L.zS;have vS:=L.vS
 have tF:=L.tF;have aF:=L.aF;have zF:=L.zF;have vF:=L.vF
 have tU:=L.tU;have aU:=L.aU;have zU:=L.zU;have vU:=L.vU
 have aE:=L.aE;have zE:=L.zE
 have FG:=L.f_symMerge;have e225:∀args w,(callFunc 225 args).run P w=.ok (.enter 225 args) w:=enters_of L.f_rotate (by kernel_rfl) rfl;have e224:∀args w,(callFunc 224 args).run P w=.ok (.enter 224 args) w:=enters_of L.f_symMerge (by kernel_rfl) rfl;have HC:Aside _:=hcmp;have S0:Aside (SWK enc k w0 blk off d w):=S;have HF:Hid (∀x y,cf x y<0↔p y<p x):=hcf;have HX:Hid (Cn p (AI d) a m):=hX;have HY:Hid (Cn p (AI d) m b):=hY;have hne:(((m:Int)-(a:Int))==1)=false:=by simp;omega
 have hne2:(((b:Int)-(m:Int))==1)=false:=by simp;omega
 have LL:Hid (QA P k):=L;have HCM:Hid (CmpLays P g cb enc k cf blk off d0.size w0):=hcmp;obtain⟨mid,hm0⟩:∃h,h=(a+b)/2:=⟨_,rfl⟩;have hmz:((a:Int)+(b:Int))/2=(mid:Int):=by omega
 have hm1:a<mid:=by omega
 have hm2:mid<b:=by omega
 have hm3:a+b≤mid+mid+1:=by omega
 have hm4:mid+mid≤a+b:=by omega
 clear hcmp S hcf hX hY L hm0;go_enter FG,aM;go_upto_if 140 with fail;generalize hb:decide ((mid:Int)<(m:Int))=tb;have HB:Hid (decide ((mid:Int)<(m:Int))=tb):=hb;clear hb;go_cut [20,21] from 141 to 146 (fun s20 s21 wx=> ∃(s r:Nat),s20=.int .i64 s∧s21=.int .i64 r∧a≤s∧s≤r∧r≤m∧mid+m≤b+s∧r≤mid∧Hid ((s=a∨s+b=mid+m)∧(r=m∨r=mid))∧Aside (SWK enc k w0 blk off d wx))
 case first=>
  cases tb with
  | true=>
   have h:mid<m:=by have:=of_decide_eq_true HB.out;omega
   go_wp2;go_meet
   case rel=>exact⟨mid+m-b,mid,by rw[show((mid+m-b:Nat):Int)=(mid:Int)+(m:Int)-(b:Int) by omega],rfl,by omega,by omega,by omega,by omega,by omega,⟨.inr (by omega),.inr rfl⟩,S0⟩
  | false=>
   have h:¬mid<m:=by have:=of_decide_eq_false HB.out;omega
   go_wp2;go_meet
   case rel=>exact⟨a,m,rfl,rfl,by omega,by omega,by omega,by omega,by omega,⟨.inl rfl,.inl rfl⟩,S0⟩
 case rest=>
  clear S0;obtain⟨s0,r0,rfl,rfl,hs1,hs2,hs3,hs4,hs5,HSR,S0⟩:=hcut;go_wp2;go_loopg [20,21] (r0-s0) (fun kx s20 s21 wr=> ∃(i j:Nat),s20=.int .i64 i∧s21=.int .i64 j∧s0≤i∧i≤j∧j≤r0∧j-i≤kx∧Aside (SWK enc k w0 blk off d wr)∧Hid (i=s0∨p (AI d (mid+m-i))≤p (AI d (i-1)))∧Hid (j=r0∨p (AI d j)<p (AI d (mid+m-j-1))))
  case atStart=>exact⟨s0,r0,rfl,rfl,aA _,hs2,aA _,aA _,S0,.inl rfl,.inl rfl⟩
  case round=>
   clear S0;obtain⟨i,j,rfl,rfl,hai,hij,hjb,hkx,S1,HI,HJ⟩:=hrel;by_cases hlt:i<j
   ·have hltz:(i:Int)<(j:Int):=by omega
    obtain⟨h,hh⟩:∃h,h=(i+j)/2:=⟨_,rfl⟩;have hhz:((i:Int)+(j:Int))/2=(h:Int):=by omega
    have hh1:i≤h:=by omega
    have hh2:h<j:=by omega
    clear hh;obtain⟨u,hu⟩:∃u,u=mid+m-1-h:=⟨_,rfl⟩;have huz:(mid:Int)+(m:Int)-1-(h:Int)=(u:Int):=by omega
    have hub:u<b:=by omega
    have HU:Hid (u=mid+m-1-h):=hu;clear hu;by_cases hv:cf d[u]! d[h]!<0
    ·have HN:Hid (h=r0∨p (AI d h)<p (AI d (mid+m-h-1))):=.inr (by have hu:=HU.out;rw[show mid+m-h-1=u by omega];exact(HF.out _ _).1 hv);have ea24:((u:Int)).toNat=u:=by omega
     have pa24:(0:Int)≤(u:Int):=by omega
     have ba24:(u:Int)<(d.size:Int):=by omega
     have ra24:aD.wrap ((u:Int))=(u:Int):=by rw[aC];omega
     have ec24:((h:Int)).toNat=h:=by omega
     have pc24:(0:Int)≤(h:Int):=by omega
     have bc24:(h:Int)<(d.size:Int):=by omega
     have rc24:aD.wrap ((h:Int))=(h:Int):=by rw[aC];omega
     obtain⟨x24,hx24⟩:∃x,x=d[u]!:=⟨_,rfl⟩;obtain⟨y24,hy24⟩:∃x,x=d[h]!:=⟨_,rfl⟩;have l24a:=S1.out.ld R (by omega) P (u) (by omega);have l24b:=S1.out.ld R (by omega) P (h) (by omega);rw[←hx24] at l24a;rw[←hy24] at l24b;have hc24:=S1.out.cmp HC.out (by omega) x24 y24;have hv24:cf x24 y24<0:=by rw[hx24,hy24];exact hv
     have hd24:decide (cf x24 y24<0)=true:=decide_eq_true hv24;clear hx24 hy24 hv;go_wp2_with fail;go_quiet_grown (first|(go_at_fn g;refine aG (hc24 _ _)));have S2:Aside (SWK enc k w0 blk off d (grow (wr.drewN nq) osq)):=S1.out.grown nq osq;clear l24a l24b hc24 S1;generalize grow (wr.drewN nq) osq=w2 at S2 ⊢;clear nq osq;go_wp2;go_roundg (h-i)
     case measure=>omega
     case rel=>exact⟨i,h,rfl,rfl,hai,hh1,by omega,aA _,S2,HI,HN⟩
    ·have HN:Hid (h+1=s0∨p (AI d (mid+m-(h+1)))≤p (AI d (h+1-1))):=.inr (by have:=mt (HF.out d[u]! d[h]!).2 hv;have hu:=HU.out;rw[show mid+m-(h+1)=u by omega];exact Int.not_lt.1 this);have ea25:((u:Int)).toNat=u:=by omega
     have pa25:(0:Int)≤(u:Int):=by omega
     have ba25:(u:Int)<(d.size:Int):=by omega
     have ra25:aD.wrap ((u:Int))=(u:Int):=by rw[aC];omega
     have ec25:((h:Int)).toNat=h:=by omega
     have pc25:(0:Int)≤(h:Int):=by omega
     have bc25:(h:Int)<(d.size:Int):=by omega
     have rc25:aD.wrap ((h:Int))=(h:Int):=by rw[aC];omega
     obtain⟨x25,hx25⟩:∃x,x=d[u]!:=⟨_,rfl⟩;obtain⟨y25,hy25⟩:∃x,x=d[h]!:=⟨_,rfl⟩;have l25a:=S1.out.ld R (by omega) P (u) (by omega);have l25b:=S1.out.ld R (by omega) P (h) (by omega);rw[←hx25] at l25a;rw[←hy25] at l25b;have hc25:=S1.out.cmp HC.out (by omega) x25 y25;have hv25:¬cf x25 y25<0:=by rw[hx25,hy25];exact hv
     have hd25:decide (cf x25 y25<0)=false:=decide_eq_false hv25;clear hx25 hy25 hv;go_wp2_with fail;go_quiet_grown (first|(go_at_fn g;refine aG (hc25 _ _)));have S2:Aside (SWK enc k w0 blk off d (grow (wr.drewN nq) osq)):=S1.out.grown nq osq;clear l25a l25b hc25 S1;generalize grow (wr.drewN nq) osq=w2 at S2 ⊢;clear nq osq;go_wp2;go_roundg (j-(h+1))
     case measure=>omega
     case rel=>exact⟨h+1,j,by go_num,rfl,by omega,by omega,hjb,aA _,S2,HN,HJ⟩
   ·have hltz:¬(i:Int)<(j:Int):=by omega
    obtain rfl:i=j:=by omega
    obtain⟨en,hen⟩:∃en,en=mid+m-i:=⟨_,rfl⟩;have henz:(mid:Int)+(m:Int)-(i:Int)=(en:Int):=by omega
    have hsum:i+en=mid+m:=by omega
    have h1:a≤i:=by omega
    have h2:i≤m:=by omega
    have h3:m≤en:=by omega
    have h4:en≤b:=by omega
    have Q:Hid ((i=a∨en=b∨p (AI d en)≤p (AI d (i-1)))∧(i=m∨en=m∨p (AI d i)<p (AI d (en-1)))):=by
     obtain⟨g1,g2⟩:=HSR.out;refine⟨?_,?_⟩
     ·rcases HI.out with e | e
      ·rcases g1 with g1 | g1
       ·left;omega
       ·right;left;omega
      ·right;right;rw[hen];exact e
     ·rcases HJ.out with e | e
      ·rcases g2 with g2 | g2
       ·left;omega
       ·right;left;omega
      ·right;right;rw[hen];exact e
    clear hen HSR HI HJ;go_upto_region 39 with fail;go_cut [185] from 178 to 185 (fun c wx=>c=.bool (decide (i<m∧m<en))∧Aside (SWK enc k w0 blk off d wx))
    case first=>
     by_cases c1:i<m
     ·have c1z:(i:Int)<(m:Int):=by omega
      by_cases c2:m<en
      ·have c2z:(m:Int)<(en:Int):=by omega
       have HV:Hid (decide (i<m∧m<en)=true):=decide_eq_true ⟨c1,c2⟩;go_wp2;go_meet
       case rel=>exact⟨by rw[HV.out],S1⟩
      ·have c2z:¬(m:Int)<(en:Int):=by omega
       have HV:Hid (decide (i<m∧m<en)=false):=decide_eq_false (by omega);go_wp2;go_meet
       case rel=>exact⟨by rw[HV.out],S1⟩
     ·have c1z:¬(i:Int)<(m:Int):=by omega
      have HV:Hid (decide (i<m∧m<en)=false):=decide_eq_false (by omega);go_wp2;go_meet
      case rel=>exact⟨by rw[HV.out],S1⟩
    case rest=>
    clear S1;obtain⟨rfl,S1⟩:=hcut;generalize hb1:decide (i<m∧m<en)=tb1;have HB1:Hid (decide (i<m∧m<en)=tb1):=hb1;clear hb1;go_upto_if 185 with fail;go_cut [] from 186 to 191 (fun wx=> ∃d1:Array α,d1.size=d.size∧AI d1=Cp (AI d) i m en∧Aside (SWK enc k w0 blk off d1 wx))
    case first=>
     cases tb1 with
     | true=>
      obtain⟨c1,c2⟩:=of_decide_eq_true HB1.out;have hc:=Am5 LL.out enc g cb blk off cap i m en d0 d w0 wc R hs S1.out c1 c2 (by omega) hsz;clear S1;go_wp2_with (go_at_fn 225;refine hc.mono ?_;rintro e w1 ⟨rfl,d1,hd1,S3,hE⟩);go_meet
      case rel=>exact⟨d1,hd1,hE,S3⟩
     | false=>
      have hE:Hid (AI d=Cp (AI d) i m en):=by
       have:=of_decide_eq_false HB1.out;by_cases c1:i=m
       ·rw[c1,Ae7];rfl
       ·have c2:en=m:=by omega
        rw[c2,Ae6];rfl
      go_wp2;go_meet
      case rel=>exact⟨d,rfl,hE.out,S1⟩
    case rest=>
     clear S1;obtain⟨d1,hd1,hE1,S1⟩:=hcut;clear HB1;have HE1:Hid (AI d1=Cp (AI d) i m en):=hE1;clear hE1;go_upto_region 41 with fail;go_cut [199] from 192 to 199 (fun c wx=>c=.bool (decide (a<i∧i<mid))∧Aside (SWK enc k w0 blk off d1 wx))
     case first=>
      by_cases c1:a<i
      ·have c1z:(a:Int)<(i:Int):=by omega
       by_cases c2:i<mid
       ·have c2z:(i:Int)<(mid:Int):=by omega
        have HV:Hid (decide (a<i∧i<mid)=true):=decide_eq_true ⟨c1,c2⟩;go_wp2;go_meet
        case rel=>exact⟨by rw[HV.out],S1⟩
       ·have c2z:¬(i:Int)<(mid:Int):=by omega
        have HV:Hid (decide (a<i∧i<mid)=false):=decide_eq_false (by omega);go_wp2;go_meet
        case rel=>exact⟨by rw[HV.out],S1⟩
      ·have c1z:¬(a:Int)<(i:Int):=by omega
       have HV:Hid (decide (a<i∧i<mid)=false):=decide_eq_false (by omega);go_wp2;go_meet
       case rel=>exact⟨by rw[HV.out],S1⟩
     case rest=>
     clear S1;obtain⟨rfl,S1⟩:=hcut;generalize hb2:decide (a<i∧i<mid)=tb2;have HB2:Hid (decide (a<i∧i<mid)=tb2):=hb2;clear hb2;go_upto_if 199 with fail;go_cut [] from 200 to 205 (fun wx=> ∃d2:Array α,d2.size=d.size∧Ds p (AI d1) (AI d2) a mid∧Aside (SWK enc k w0 blk off d2 wx))
     case first=>
      cases tb2 with
      | true=>
       obtain⟨c1,c2⟩:=of_decide_eq_true HB2.out
       have hc:=IH.out a i mid d1 wc (by omega) (by omega) S1.out c1 c2 (by omega) (by omega) (by rw[HE1.out];exact(HX.out.part (aA _) h2).congr fun t q1 q2=>GW _ h3 h2 (by omega)) (by
        rw[HE1.out];intro x y q1 q2 q3;simp only[Cp];rw[if_pos (by omega),if_pos (by omega)];exact HY.out _ _ (by omega) (by omega) (by omega))
       rw[hd1] at hc;clear S1;go_wp2_with (go_at_fn 224;refine hc.mono ?_;rintro e w1 ⟨rfl,d2,hd2,S3,hE⟩);go_meet
       case rel=>exact⟨d2,hd2,hE,S3⟩
      | false=>
       have M:Hid (Ds p (AI d1) (AI d1) a mid):=Ds.refl (by rw[HE1.out];exact YK h1 h2 h3 h4 hsum HX.out HY.out (by have:=of_decide_eq_false HB2.out;omega));go_wp2;go_meet
       case rel=>exact⟨d1,hd1,M.out,S1⟩
     case rest=>
      clear S1;obtain⟨d2,hd2,hM,S1⟩:=hcut;clear HB2;have M1:Hid (Ds p (AI d1) (AI d2) a mid):=hM;have FIN:Hid (∀g:Nat→α,Ds p (AI d2) g mid b→Ds p (AI d) g a b):=fun g hg=>YJ h1 h2 h3 h4 hsum ⟨by omega,by omega⟩ HX.out HY.out Q.out.1 Q.out.2 (by rw[←HE1.out];exact M1.out) hg;clear hM;by_cases c1:mid<en
      ·have c1z:(mid:Int)<(en:Int):=by omega
       by_cases c2:en<b
       ·have c2z:(en:Int)<(b:Int):=by omega
        have hc:=IH.out mid en b d2 wc (by omega) (by omega) S1.out c1 c2 (by omega) (by omega) (by
         intro x y q1 q2 q3;rw[M1.out.out y (by omega),M1.out.out x (by omega),HE1.out];simp only[Cp];rw[if_neg (by omega),if_pos (by omega),if_neg (by omega),if_pos (by omega)];exact HX.out _ _ (by omega) (by omega) (by omega)) ((HY.out.part h3 (aA _)).congr fun t q1 q2=>by rw[M1.out.out t (by omega),HE1.out,GW _ h3 h2 (by omega)])
        rw[hd2] at hc;clear S1;go_wp2_with (go_at_fn 224;refine hc.mono ?_;rintro e w1 ⟨rfl,d3,hd3,S3,hE⟩);go_end0;exact⟨rfl,d3,hd3,S3,FIN.out _ hE⟩
       ·have c2z:¬(en:Int)<(b:Int):=by omega
        have M:Hid (Ds p (AI d2) (AI d2) mid b):=Ds.refl (Qb h1 h2 h3 h4 hsum HX.out HY.out (fun t ht=>by rw[M1.out.out t (by omega),HE1.out]) (by omega));go_wp2;go_end0;exact⟨rfl,d2,hd2,S1.out,FIN.out _ M.out⟩
      ·have c1z:¬(mid:Int)<(en:Int):=by omega
       have M:Hid (Ds p (AI d2) (AI d2) mid b):=Ds.refl (Qb h1 h2 h3 h4 hsum HX.out HY.out (fun t ht=>by rw[M1.out.out t (by omega),HE1.out]) (by omega));go_wp2;go_end0;exact⟨rfl,d2,hd2,S1.out,FIN.out _ M.out⟩
theorem UU{P:Program}{k:Nat}(L:QA P k)(enc:α→List Value)(p:α→Int)(cf:α→α→Int)(hcf:∀x y,cf x y<0↔p y<p x)(g:Nat)(cb:Array Value)(blk off cap:Nat)(d0:Array α)(w0:World)
  (eg:∀args w,(callFunc g args).run P w=.ok (.enter g args) w) (hcmp:CmpLays P g cb enc k cf blk off d0.size w0) (R:RowK enc k w0 blk off d0):∀(N a m b:Nat) (d:Array α) (w:World),b-a≤N→d0.size=d.size→SWK enc k w0 blk off d w→a<m→m<b→b≤d.size→d.size<4611686018427387904→Cn p (AI d) a m→Cn p (AI d) m b→
  Calls P 224 #[.slice (some ⟨blk,off,none⟩) d.size cap,.int .i64 a,.int .i64 m,.int .i64 b,.func (.func g) #[] cb] w fun e w'=>e=.returned (.tuple #[])∧∃d',d'.size=d.size∧SWK enc k w0 blk off d' w'∧Ds p (AI d) (AI d') a b
 | 0,a,m,b,d,w,h,_,_,h1,h2,_,_,_,_=>by omega
 | N+1,a,m,b,d,w,h,hs,S,h1,h2,hb,hsz,hX,hY=>by
  by_cases c1:m=a+1
  ·exact Ahi L enc p cf hcf g cb blk off cap d0 w0 eg hcmp R a m b c1 d w hs S h2 hb hsz hY
  ·by_cases c2:b=m+1
   ·exact Adi L enc p cf hcf g cb blk off cap d0 w0 eg hcmp R a m b c2 d w hs S (by omega) hb hsz hX
   ·exact Adh L enc p cf hcf g cb blk off cap d0 w0 eg hcmp R N (UU L enc p cf hcf g cb blk off cap d0 w0 eg hcmp R N) a m b d w h hs S (by omega) (by omega) hb hsz hX hY
end
section
open Go Go.Shelf Go.RowKit Go.Lib Go.Sort
def Ado:Go.Shelf.Ren:=⟨fun | 20=>223 | n=>n,fun | 0=>0 | 3=>3 | 4=>4 | 22=>65 | 24=>102 | 25=>236 | n=>n,fun | n=>n⟩
theorem Aoo{P:Program}{k:Nat}(L:QA P k):SlLaysF0.n20 P Ado where
 mixed:=L.mixed
 f20:=⟨_,by kernel_rfl,L.f_insertionSort.trans (congrArg some (show Tryz.f223={SlBodyF.n20 Ado with name:=Tryz.f223.name} by kernel_rfl))⟩
 t0:=L.t0
 a0:=L.a0
 z0:=L.z0
 v0:=L.v0
 t3:=L.t3
 a3:=L.a3
 z3:=L.z3
 v3:=L.v3
 t4:=L.t4
 a4:=L.a4
 z4:=L.z4
 v4:=L.v4
 t22:=L.tS
 a22:=L.aS
 z22:=L.zS
 v22:=L.vS
 t25:=L.tF
 a25:=L.aF
 z25:=L.zF
 v25:=L.vF
theorem Af4{β:Type}{p:β→Int}{cf:β→β→Int}(hcf:∀x y,cf x y<0↔p y<p x):ltOf cf=Mc p:=by
 funext x y;unfold ltOf Mc;rw[Bool.eq_iff_iff,decide_eq_true_iff,decide_eq_true_iff];exact hcf x y
variable {α:Type} [Inhabited α]
theorem CmpLays.onS{P:Program}{enc:α→List Value}{k:Nat}{cf:α→α→Int}{g:Nat}{cb:Array Value}{blk off size:Nat}{w0 W:World}{d:Array α}(hC:CmpLays P g cb enc k cf blk off size w0)(h:SWK enc k w0 blk off d W)(hblk:blk<w0.heap.size)(hs:d.size=size):CmpLays P g cb enc k cf blk off size W:=by
 intro m os dk hd x y;obtain⟨n,os0,rfl⟩:=h;rw[sortWorldK_on enc k w0 blk off n m d dk os0 os hblk (by omega)];exact hC _ _ dk hd x y
theorem Ar8{P:Program}{k:Nat}(L:QA P k)(enc:α→List Value)(p:α→Int)(cf:α→α→Int)(hcf:∀x y,cf x y<0↔p y<p x)(g:Nat)(cb:Array Value)(blk off cap:Nat)(d0:Array α)(w0:World)
  (eg:∀args w,(callFunc g args).run P w=.ok (.enter g args) w) (hcmp:CmpLays P g cb enc k cf blk off d0.size w0) (R:RowK enc k w0 blk off d0) (a b:Nat) (d:Array α) (w:World) (hs:d0.size=d.size) (S:SWK enc k w0 blk off d w) (hab:a≤b) (hb:b≤d.size) (hsz:d.size<1152921504606846976):
  Calls P 223 #[.slice (some ⟨blk,off,none⟩) d.size cap,.int .i64 a,.int .i64 b,.func (.func g) #[] cb] w fun e w'=>e=.returned (.tuple #[])∧∃d',d'.size=d.size∧SWK enc k w0 blk off d' w'∧Ds p (AI d) (AI d') a b:=by
 have hc:=AnyQ.insertionSortCmpFunc (Aoo L) k L.aE L.zE enc R.hk R.h1 cf g cb blk off cap a b d w eg (by rw[←hs];exact CmpLays.onS hcmp S R.hblk hs.symm) (S.holds R.hblk R.hH hs.symm) (S.lt R.hblk) hab hb (by omega);refine hc.mono ?_;rintro e w' ⟨rfl,n,os,rfl⟩;rw[Af4 hcf];obtain⟨m1,m2⟩:=Abg (p:=p) d a b hab hb;exact⟨rfl,_,m1,S.on R.hblk n _ os m1,m2⟩
set_option maxRecDepth 1000000 in
theorem Alw{P:Program}{k:Nat}(L:QA P k)(enc:α→List Value)(p:α→Int)(cf:α→α→Int)(hcf:∀x y,cf x y<0↔p y<p x)(g:Nat)(cb:Array Value)(blk off cap:Nat)(d:Array α)(w:World)
  (eg:∀args w,(callFunc g args).run P w=.ok (.enter g args) w) (hcmp:CmpLays P g cb enc k cf blk off d.size w) (R:RowK enc k w blk off d) (hsz:d.size<1152921504606846976):
  Calls P 217 #[.slice (some ⟨blk,off,none⟩) d.size cap,.int .i64 d.size,.func (.func g) #[] cb] w fun e w'=>e=.returned (.tuple #[])∧∃d',d'.size=d.size∧SWK enc k w blk off d' w'∧Cn p (AI d') 0 d.size∧BZ p (Bg (AI d') 0 d.size) (Bg (AI d) 0 d.size):=by
 have mixed:=L.mixed;have t0:=L.t0;have a0:=L.a0;have z0:=L.z0;have v0:=L.v0
 have t3:=L.t3;have a3:=L.a3;have z3:=L.z3;have v3:=L.v3
 have t4:=L.t4;have a4:=L.a4;have z4:=L.z4;have v4:=L.v4
 have tS:=L.tS;have aS:=L.aS;have zS:=L.zS;have vS:=L.vS
 have tF:=L.tF;have aF:=L.aF;have zF:=L.zF;have vF:=L.vF
 have aE:=L.aE;have zE:=L.zE
 have FG:=L.f_stable;have e223:∀args w,(callFunc 223 args).run P w=.ok (.enter 223 args) w:=enters_of L.f_insertionSort (by kernel_rfl) rfl;have e224:∀args w,(callFunc 224 args).run P w=.ok (.enter 224 args) w:=enters_of L.f_symMerge (by kernel_rfl) rfl;obtain⟨n,hn⟩:=eX d.size
 have HI:Hid (∀(a b:Nat) (dk:Array α) (W:World),n=dk.size→SWK enc k w blk off dk W→a≤b→b≤n→Calls P 223 #[.slice (some ⟨blk,off,none⟩) n cap,.int .i64 a,.int .i64 b,.func (.func g) #[] cb] W fun e w'=>e=.returned (.tuple #[])∧∃d',d'.size=n∧SWK enc k w blk off d' w'∧Ds p (AI dk) (AI d') a b):=fun a b dk W h1 h2 h3 h4=>by
  have:=Ar8 L enc p cf hcf g cb blk off cap d w eg hcmp R a b dk W (by omega) h2 h3 (by omega) (by omega);rw[←h1] at this;exact this
 have HM:Hid (∀(a m b:Nat) (dk:Array α) (W:World),n=dk.size→SWK enc k w blk off dk W→a<m→m<b→b≤n→Cn p (AI dk) a m→Cn p (AI dk) m b→Calls P 224 #[.slice (some ⟨blk,off,none⟩) n cap,.int .i64 a,.int .i64 m,.int .i64 b,.func (.func g) #[] cb] W fun e w'=>e=.returned (.tuple #[])∧∃d',d'.size=n∧SWK enc k w blk off d' w'∧Ds p (AI dk) (AI d') a b):=fun a m b dk W h1 h2 h3 h4 h5 h6 h7=>by
  have:=UU L enc p cf hcf g cb blk off cap d w eg hcmp R (b-a) a m b dk W (aA _) (by omega) h2 h3 h4 (by omega) (by omega) h6 h7;rw[←h1] at this;exact this
 have S0:Aside (SWK enc k w blk off d w):=SWK.start R.hH;have HD:Hid _:=hn;rw[←hn] at hsz ⊢;clear hcmp R hcf L hn eg;go_enter FG,Tryz.ntmps217;go_wp2;go_loopg [7,8] n (fun kx s7 s8 wr=> ∃(q a b:Nat) (dk:Array α),s7=.int .i64 a∧s8=.int .i64 b∧b=a+20∧a≤n∧n-a≤kx∧Hid (a=20*q∧LA p (AI dk) 20 0 a)∧dk.size=n∧Aside (SWK enc k w blk off dk wr)∧Hid (BZ p (Bg (AI dk) 0 n) (Bg (AI d) 0 n)))
 case atStart=>exact⟨0,0,20,d,rfl,rfl,rfl,aP _,aA _,⟨rfl,Yc _ _⟩,HD.out.symm,S0,BZ.refl _ _⟩
 case round=>
  clear S0;obtain⟨q,a,b,dk,rfl,rfl,hb,han,hkx,HQ,hds,S1,HA⟩:=hrel;have HBA:Hid _:=hb;have hba:a<b:=by omega
  by_cases hlt:b≤n
  ·have hltz:(b:Int)≤(n:Int):=by omega
   have hc:=HI.out a b dk wr hds.symm S1.out (by omega) hlt;clear hb;clear S1;go_wp2_with (go_at_fn 223;refine hc.mono ?_;rintro e w1 ⟨rfl,d',hd',S3,hE⟩);go_roundg (n-b)
   case measure=>omega
   case rel=>
    obtain⟨q1,q2⟩:=HQ.out;have hb:=HBA.out;refine⟨q+1,b,b+20,d',rfl,by go_num,rfl,hlt,aA _,⟨by omega,?_⟩,hd',S3,(hE.whole (by omega) hlt).trans HA.out⟩;rw[q1] at hE q2;exact Nb (by omega) q2 (by omega) (by omega) hE rfl
  ·have hltz:¬(b:Int)≤(n:Int):=by omega
   have hc:=HI.out a n dk wr hds.symm S1.out han (aA _);clear hb S1;go_wp2_with (go_at_fn 223;refine hc.mono ?_;rintro e w1 ⟨rfl,d',hd',S3,hE⟩)
   have B1:Hid (LA p (AI d') 20 0 n∧BZ p (Bg (AI d') 0 n) (Bg (AI d) 0 n)):=by
    obtain⟨q1,q2⟩:=HQ.out;have hb:=HBA.out;refine⟨?_,(hE.whole han (aA _)).trans HA.out⟩;rw[q1] at hE q2;exact Nb (by omega) q2 (by omega) (by omega) hE rfl
   have S1:Aside (SWK enc k w blk off d' w1):=S3;clear S3 hE HQ HA hc;obtain⟨W1,hW1⟩:∃W,W=w1:=⟨_,rfl⟩;rw[←hW1] at S1 ⊢;clear hW1;go_loopg [6,7,8,9] n (fun kx s6 s7 s8 s9 wr=> ∃(s:Nat) (a b m:Value) (dk:Array α),s6=.int .i64 s∧s7=a∧s8=b∧s9=m∧20≤s∧n-s≤kx∧s≤n+n+20∧dk.size=n∧Aside (SWK enc k w blk off dk wr)∧Hid (LA p (AI dk) s 0 n∧BZ p (Bg (AI dk) 0 n) (Bg (AI d) 0 n)))
   case atStart=>exact⟨20,_,_,_,d',rfl,rfl,rfl,rfl,by omega,by omega,by omega,hd',S1,B1⟩
   case round=>
    clear S1 B1;obtain⟨s,va,vb,vm,dk,rfl,rfl,rfl,rfl,hs20,hkx2,hs2,hds2,S1,B1⟩:=hrel;by_cases hsn:s<n
    ·have hsnz:(s:Int)<(n:Int):=by omega
     go_wp2;obtain⟨W2,hW2⟩:∃W,W=wr:=⟨_,rfl⟩;rw[←hW2] at S1 ⊢;clear hW2;go_loopg [7,8] n (fun kx s7 s8 wr2=> ∃(q a b:Nat) (dj:Array α),s7=.int .i64 a∧s8=.int .i64 b∧b=a+(s+s)∧a≤n∧n-a≤kx∧Hid (a=(s+s)*q∧LA p (AI dj) (s+s) 0 a∧LA p (AI dj) s a n)∧dj.size=n∧Aside (SWK enc k w blk off dj wr2)∧Hid (BZ p (Bg (AI dj) 0 n) (Bg (AI d) 0 n)))
     case atStart=>exact⟨0,0,s+s,dk,rfl,by rw[show((s+s:Nat):Int)=2*(s:Int) by omega],by omega,aP _,aA _,⟨by rw[Nat.mul_zero],Yc _ _,B1.out.1⟩,hds2,S1,B1.out.2⟩
     case round=>
      clear S1 B1;obtain⟨q,a,b,dj,rfl,rfl,hb,han,hkx3,HQ,hdj,S1,HA⟩:=hrel;have HBA:Hid _:=hb;have eas:((a+s:Nat):Int)=(a:Int)+(s:Int):=by omega
      have ess:(s+s)*q=s*(2*q):=by rw[←Nat.two_mul,Nat.mul_comm 2 s,Nat.mul_assoc]
      have ess2:(s+s)*q+s=s*(2*q+1):=by rw[ess,Nat.mul_add,Nat.mul_one]
      have ESS:Hid ((s+s)*q=s*(2*q)∧(s+s)*q+s=s*(2*q+1)):=⟨ess,ess2⟩;clear ess ess2;by_cases hlt:b≤n
      ·have hltz:(b:Int)≤(n:Int):=by omega
       have hc:=HM.out a (a+s) b dj wr hdj.symm S1.out (by omega) (by omega) hlt (by
        obtain⟨q1,q2,q3⟩:=HQ.out;have e1:=ESS.out.1;rw[←q1] at e1;have:=Nc q3 (q:=2*q) (by omega) (b:=a+s) (by omega) (by omega);rw[←e1] at this;exact this) (by
        obtain⟨q1,q2,q3⟩:=HQ.out;have e1:=ESS.out.2;rw[←q1] at e1;have:=Nc q3 (q:=2*q+1) (by omega) (b:=b) (by omega) (by omega);rw[←e1] at this;exact this)
       rw[eas] at hc;clear hb S1;go_wp2_with (go_at_fn 224;refine hc.mono ?_;rintro e w1 ⟨rfl,d',hd',S3,hE⟩);go_roundg (n-b)
       case measure=>have:=HBA.out;omega
       case rel=>
        obtain⟨q1,q2,q3⟩:=HQ.out;have hb:=HBA.out;refine⟨q+1,b,b+(s+s),d',rfl,by rw[show((b+(s+s):Nat):Int)=(b:Int)+2*(s:Int) by omega],rfl,hlt,aA _,⟨by rw[Nat.mul_add,Nat.mul_one, ←q1];exact hb,?_,Ack q3 (by omega) hE⟩,hd',S3,(hE.whole (by omega) hlt).trans HA.out⟩;rw[q1] at hE q2;exact Nb (by omega) q2 (by omega) (by omega) hE rfl
      ·have hltz:¬(b:Int)≤(n:Int):=by omega
       by_cases hm:a+s<n
       ·have hmz:(a:Int)+(s:Int)<(n:Int):=by omega
        have hc:=HM.out a (a+s) n dj wr hdj.symm S1.out (by omega) hm (aA _) (by
         obtain⟨q1,q2,q3⟩:=HQ.out;have e1:=ESS.out.1;rw[←q1] at e1;have:=Nc q3 (q:=2*q) (by omega) (b:=a+s) (by omega) (by omega);rw[←e1] at this;exact this) (by
         obtain⟨q1,q2,q3⟩:=HQ.out;have e1:=ESS.out.2;rw[←q1] at e1;have:=Nc q3 (q:=2*q+1) (by omega) (b:=n) (by omega) (by omega);rw[←e1] at this;exact this)
        rw[eas] at hc;clear hb S1;go_wp2_with (go_at_fn 224;refine hc.mono ?_;rintro e w1 ⟨rfl,d',hd',S3,hE⟩);go_roundg (n-(s+s))
        case measure=>omega
        case rel=>
         obtain⟨q1,q2,q3⟩:=HQ.out;have hb:=HBA.out;refine⟨s+s,_,_,_,d',by rw[show((s+s:Nat):Int)=(s:Int)*2 by omega],rfl,rfl,rfl,by omega,aA _,by omega,hd',S3,⟨?_,(hE.whole han (aA _)).trans HA.out⟩⟩;rw[q1] at hE q2;exact Nb (by omega) q2 (by omega) (by omega) hE rfl
       ·have hmz:¬(a:Int)+(s:Int)<(n:Int):=by omega
        have M:Hid (LA p (AI dj) (s+s) 0 n):=by
         obtain⟨q1,q2,q3⟩:=HQ.out;have e1:=ESS.out.1;rw[←q1] at e1;have hD:=Nc q3 (q:=2*q) (by omega) (b:=n) (by omega) (aA _);rw[←e1] at hD;have hE:=Ds.refl hD;rw[q1] at hE q2;exact Nb (by omega) q2 (by omega) (by omega) hE rfl
        clear hb;go_wp2;go_roundg (n-(s+s))
        case measure=>omega
        case rel=>exact⟨s+s,_,_,_,dj,by rw[show((s+s:Nat):Int)=(s:Int)*2 by omega],rfl,rfl,rfl,by omega,aA _,by omega,hdj,S1,⟨M.out,HA.out⟩⟩
    ·have hsnz:¬(s:Int)<(n:Int):=by omega
     go_wp2;go_end0;exact⟨rfl,dk,hds2,S1.out,Ao1 B1.out.1 (by omega),B1.out.2⟩
end
section
open Go.Lib Go.RowKit Go.Shelf Go.Sort
theorem Amd(x y:Ai):JQ x.order y.order<0↔GF y<GF x:=by
 rw[Up];unfold GF;omega
theorem Afg[Inhabited Ai](blk off size:Nat)(w:World):CmpLays aB 208 #[] (fun x=>(Ac x).toList) 36 (fun x y=>JQ x.order y.order) blk off size w:=fun _ _ _ _ x y=>by
 have:=Aah x y
 simp only[List.append_toArray,List.append_nil,Array.toArray_toList] at *
 refine(this _).mono ?_
 rintro e w' ⟨rfl,rfl⟩
 exact⟨rfl,0,_,by rw[alloc_eq_grow,alloc_eq_grow,grow_grow];rfl⟩
structure MN(m m':List Ai):Prop where
 len:m'.length=m.length
 desc:Ge GF m'
 alike:BZ GF m' m
set_option maxRecDepth 1000000 in
theorem Adp(B:Nat)(m:List Ai)(v:Value)(w:World)(hown:Au B w v m)(hm:m.length≤1000000):
  Calls aB 207 #[v,.func (.func 208) #[] #[]] w fun e w'=>e=.returned (.tuple #[])∧∃m',MN m m'∧Au B w' v m'∧w.grownBy w' v.ownBlock:=by
 letI:Inhabited Ai:=⟨AJ⟩;obtain⟨h1,⟨rfl,h2⟩ | ⟨g,cap,cur,rfl,hB,hcur,h5,h6,h7,h4⟩⟩:=hown
 ·have hm0:m=[]:=List.eq_nil_of_length_eq_zero h2;subst hm0
  have HS:Hid (∀W,Calls aB 217 #[.slice none 0 0,.int .i64 0,.func (.func 208) #[] #[]] W fun e w'=>e=.returned (.tuple #[])∧w'=W):=fun W=>by
   have HI:Hid (∀W,Calls aB 223 #[.slice none 0 0,.int .i64 0,.int .i64 0,.func (.func 208) #[] #[]] W fun e w'=>e=.returned (.tuple #[])∧w'=W):=fun W=>by
    go_enter Tryz.func223,Tryz.ntmps223;go_wp2;go_loopg [8] 0 (fun kx s wr=>s=.int .i64 1∧wr=W)
    case atStart=>exact⟨rfl,rfl⟩
    case round=>
     obtain⟨rfl,rfl⟩:=hrel;go_wp2;go_end0;exact⟨rfl,rfl⟩
   go_enter Tryz.func217,Tryz.ntmps217;go_wp2;go_loopg [7,8] 0 (fun kx s7 s8 wr=>s7=.int .i64 0∧s8=.int .i64 20∧wr=W)
   case atStart=>exact⟨rfl,rfl,rfl⟩
   case round=>
    obtain⟨rfl,rfl,rfl⟩:=hrel;go_wp2_with (go_at_call 223;refine(HI.out _).mono ?_;rintro e w' ⟨rfl,rfl⟩);go_loopg [6,7,8,9] 0 (fun kx s6 s7 s8 s9 wr2=> ∃a b c:Value,s6=.int .i64 20∧s7=a∧s8=b∧s9=c∧wr2=w')
    case atStart=>exact⟨_,_,_,rfl,rfl,rfl,rfl,rfl⟩
    case round=>
     obtain⟨a,b,c,rfl,rfl,rfl,rfl,rfl⟩:=hrel;go_wp2;go_end0;exact⟨rfl,rfl⟩
  go_enter Tryz.func207,Tryz.ntmps207;go_wp2_with (go_at_call 217;refine(HS.out _).mono ?_;rintro e w' ⟨rfl,rfl⟩);go_end0;exact⟨rfl,[],⟨rfl,List.Pairwise.nil,BZ.refl _ _⟩,Au.nil _ _,⟨rfl,rfl,rfl,aA _,fun k _ _=>rfl⟩⟩
 ·have hc:=Alw stS (fun x=>(Ac x).toList) GF (fun x y=>JQ x.order y.order) Amd 208 #[] g 0 cap m.toArray w (enters_of Tryz.func208 (by kernel_rfl) rfl) (Afg _ _ _ _) ⟨fun x=>by rw[Array.length_toList,Bl],fun x u hu=>(Array.all_eq_true_iff_forall_mem.1 (PT x)) u (by simpa using hu),Xx (enc:=Ac) (k:=36) Bl hcur h4,(gS hcur)⟩ (by simp;omega)
  have HC:Hid (∀W,W=w→Calls aB 217 #[.slice (some ⟨g,0,none⟩) m.length cap,.int .i64 m.length,.func (.func 208) #[] #[]] W fun e w'=>e=.returned (.tuple #[])∧∃d',d'.size=m.length∧SWK (fun x=>(Ac x).toList) 36 w g 0 d' w'∧Cn GF (AI d') 0 m.length∧BZ GF (Bg (AI d') 0 m.length) (Bg (AI m.toArray) 0 m.length)):=fun W hW=>by
   subst hW;simpa using hc
  have FIN:Hid (∀w' (d':Array Ai),d'.size=m.length→SWK (fun x=>(Ac x).toList) 36 w g 0 d' w'→Cn GF (AI d') 0 m.length→BZ GF (Bg (AI d') 0 m.length) (Bg (AI m.toArray) 0 m.length)→∃m',MN m m'∧Au B w' (.slice (some ⟨g,0,none⟩) m.length cap) m'∧w.grownBy w' (some g)):=fun w' d' q1 q2 q3 q4=>by
   obtain⟨cur',c1,c2,c3⟩:=Aat (enc:=Ac) (k:=36) Bl q2 hcur (by rw[q1,h7];exact Nat.mul_le_mul_right _ h5);have e1:=Wx d';rw[q1] at e1;have e2:=Wx m.toArray;simp only[List.size_toArray] at e2;rw[e1,e2] at q4;refine⟨d'.toList,⟨by simpa using q1,?_,by simpa using q4⟩,⟨by rw[Pk (k:=36) Bl],.inr ⟨g,cap,cur',by simp[q1],hB,c1,by simpa[q1] using h5,h6,by rw[c2,h7],by simpa[q1] using c3⟩⟩,SWK.grownBy q2⟩;have:=Cn.seg (p:=GF) (f:=AI d') (a:=0) (n:=m.length) (by rw[Nat.zero_add];exact q3);rw[e1] at this;exact this
  clear hc hcur h4 h1 hB;obtain⟨n,hn⟩:=eX m.length;rw[←hn] at HC FIN hm h5 ⊢;clear hn;go_enter Tryz.func207,Tryz.ntmps207;go_wp2_with (go_at_call 217;refine(HC.out _ rfl).mono ?_;rintro e w' ⟨rfl,d',q1,q2,q3,q4⟩);go_end0;exact⟨rfl,FIN.out _ _ q1 q2 q3 q4⟩
end
section
open Go.RowKit
def TH(S:Aq)(e:Int)(m:List Ai):Prop:=MN (S.a.filter fun x=>x.epoch==e) m
theorem Ae2(B:Nat)(w:World)(g:Nat)(R:Rm)(S:Aq)(v1 v2 v3:Value)(h:Cw B w g R S v1 v2 v3)(e:Int)(hn:S.a.length≤1000000):
  Calls aB 188 #[.pointer (some ⟨g,0,none⟩),.int .i64 e] w fun r w'=>(∃u m,r=.returned u∧TH S e m∧Au w.heap.size w' u m)∧Below w.heap.size w w':=by
 have c6:=h.f.c6;obtain⟨o,cap,ev,hc1,hc2⟩:=h.o2.slice;rw[ev] at c6;have hl:=h.o2.sl;rw[ev] at hl;obtain⟨C,hCC⟩:=eX S.a;have HR:Hid (∀m,MN (C.filter fun x=>x.epoch==e) m→TH S e m):=by intro m hm;rw[hCC] at hm;exact hm
 rw[←hCC] at hl hc1 hn c6;obtain⟨n,hn0⟩:=eX C.length;have HN:Hid _:=hn0;rw[←hn0] at hl hc1 hn c6;have HL:Hid _:=hl
 have ST:Hid (∀(m:List Ai) v W,Au w.heap.size W v m→m.length≤1000000→Calls aB 207 #[v,.func (.func 208) #[] #[]] W fun e w'=>e=.returned (.tuple #[])∧∃m',MN m m'∧Au w.heap.size w' v m'∧W.grownBy w' v.ownBlock):=by
  intro m v W h1 h2;exact Adp _ m v W h1 h2
 unfold maxLen at hc2;clear hl hn0 h hCC ev;go_enter Tryz.func188,Tryz.ntmps188;go_wp2_with fail;go_loopw [5,16] (fun s5 i wr=> ∃k:Nat,k≤n∧i=.int .i64 (k:Int)∧Hid (Au w.heap.size wr s5 ((C.take k).filter fun x=>x.epoch==e))∧Hid (Below w.heap.size w wr)) (fun _ i _=>n-(intOf i).toNat)
 case atStart=>exact⟨0,aP _,rfl,Au.nil _ _,Below.refl _ _⟩
 case round=>
  obtain⟨k,hk,rfl,HO,HB⟩:=hrel;by_cases hlt:k<n
  ·have hlt':(k:Int)<(n:Int):=by omega
   obtain⟨g',off,cur,ty,fr,x,rfl,hg,hcc,hxk⟩:=(Ee.below HL.out HB.out).at k hlt;have K1:Hid _:=hg;have H1:Hid _:=hcc;have HX:Hid _:=hxk;have KN:Hid ((wr.alloc (.cells (Ac x) 102)).heap[wr.heap.size]?=some (.cells (Ac x) 102 (0,0))):=Ab _ _ _ rfl;have c1:=(Gh wr x 102).c1;rw[Nat.zero_add] at c1;have ML:Hid (((C.take k).filter fun x=>x.epoch==e).length≤1000000):=by show _≤_;have:=RV (l:=C) k fun x=>x.epoch==e;omega
   have BW:Hid (Below w.heap.size w ((wr.alloc (.cells (Ac x) 102)).alloc (.cells (Ac x) 102))):=(HB.out.alloc HB.out.size _).alloc (by have:=HB.out.size;simp;omega) _;have B1:Hid (Below w.heap.size w (wr.alloc (.cells (Ac x) 102))):=HB.out.alloc HB.out.size _;have O1:Hid (Au w.heap.size (wr.alloc (.cells (Ac x) 102)) u5 ((C.take k).filter fun x=>x.epoch==e)):=HO.out.below ((Below.refl _ _).alloc (aA _) _);have O2:Hid (Au w.heap.size ((wr.alloc (.cells (Ac x) 102)).alloc (.cells (Ac x) 102)) u5 ((C.take k).filter fun x=>x.epoch==e)):=O1.out.below ((Below.refl _ _).alloc (aA _) _);clear hg hcc hxk;by_cases he:x.epoch=e
   ·have HE:Hid ((x.epoch==e)=true):=by show _=_;simpa using he
    go_wp2_with (first|((with_reducible refine Hy _ rfl ?_);refine Dy rfl _ rfl g' (off+k*36) rfl x (JX K1.out H1.out) ?_)|((with_reducible refine Hy _ rfl ?_);refine Dy rfl _ rfl wr.heap.size 0 rfl x (He KN.out) ?_)|((with_reducible refine Jx rfl ?_);refine Ev rfl rfl ?_;try rw[Bf])|((with_reducible refine Ff _ _ rfl ?_);refine Ck rfl _ _ rfl wr.heap.size x AJ rfl rfl (Ab _ _ _ rfl) _ (Bo _ _ _ _ _ rfl) ?_)|((with_reducible refine Aq0 _ rfl ?_);refine Mf rfl _ rfl x rfl ?_;try rw[Bf])|(at_builtin;refine D9 ?_));unfold Gk;refine Oz rfl _ _ rfl w.heap.size u5 ((C.take k).filter fun x=>x.epoch==e) x rfl O2.out (wr.heap.size+1) 1 rfl (Ab _ _ _ (by simp)) ML.out BW.out.size ?_;intro v' w3 hown3 hgr3 _;have B3:Hid (Below w.heap.size w w3):=BW.out.trans ((Below.refl _ _).grown hgr3 BW.out.size fun k hk=>(O2.out.lt k hk).1);have O3:Hid (Au w.heap.size w3 v' ((C.take (k+1)).filter fun x=>x.epoch==e)):=by show Au _ _ _ _;rw[Pn HX.out HE.out];exact hown3
    clear hown3 hgr3;simp only[pU];go_wp2_with fail;go_roundw
    case rel=>exact⟨k+1,by omega,by go_num,O3,B3⟩
    case measure=>simp[intOf];omega
   ·have HE:Hid ((x.epoch==e)=false):=by show _=_;simpa using he
    go_wp2_with (first|((with_reducible refine Hy _ rfl ?_);refine Dy rfl _ rfl g' (off+k*36) rfl x (JX K1.out H1.out) ?_)|((with_reducible refine Jx rfl ?_);refine Ev rfl rfl ?_;try rw[Bf])|((with_reducible refine Ff _ _ rfl ?_);refine Ck rfl _ _ rfl wr.heap.size x AJ rfl rfl (Ab _ _ _ rfl) _ (Bo _ _ _ _ _ rfl) ?_));go_roundw
    case rel=>
     refine⟨k+1,by omega,by go_num,?_,B1⟩;show Au _ _ _ _;rw[QY HX.out HE.out];exact O1.out
    case measure=>simp[intOf];omega
  ·have hlt':¬(k:Int)<(n:Int):=by omega
   have hkn:k=n:=by omega
   have EL:Hid (Au w.heap.size wr u5 (C.filter fun x=>x.epoch==e)):=by
    have:=HO.out;rw[hkn,HN.out,List.take_length] at this;exact this
   have ML:Hid ((C.filter fun x=>x.epoch==e).length≤1000000):=by show _≤_;have:=List.length_filter_le (fun x:Ai=>x.epoch==e) C;have:=HN.out;omega
   clear HO hkn;go_wp2_with fail;refine(ST.out _ u5 _ EL.out ML.out).mono ?_;rintro r w1 ⟨rfl,m',hs,ho,hg3⟩;have B1:Hid (Below w.heap.size w w1):=HB.out.trans ((Below.refl _ _).grown hg3 HB.out.size fun k hk=>(EL.out.lt k hk).1);have S1:Hid _:=hs;have O1:Hid _:=ho;clear hs ho hg3;go_wp2_with fail;go_ret;exact⟨⟨_,m',rfl,HR.out m' S1.out,O1.out⟩,B1.out⟩
theorem Et{P:Program}{ops:Array Oper}{Q:Exit→Act→World→Prop}{i:Nat}{o:Oper}{K:Act→World→Prop}{a:Act}{w:World}(hi:ops[i]?=some o)
  (h:wpList P ops (fun e a' w'=>match e with | .normal=>K a' w' | e=>Q e a' w') [o] a w):wpOp P ops Q i K a w:=by
 unfold Go.wpOp;simp only[hi];unfold wpList at h;by_cases hw:aI o (yielded ops a.tmps)=true
 ·rw[if_pos hw] at h ⊢;rcases h with h | h
  ·refine .inl ?_;unfold Oper.wp at h ⊢;revert h;generalize (execOp a.eval o).run P w=r;intro h;unfold Oper.upon at h ⊢;split at h
   ·exact h
   ·exact h
   ·exact h
   ·refine h.mono ?_;intro e w1 h1
    cases e <;> exact h1
   ·exact h
   ·exact h
   ·exact h.elim
  ·exact .inr h
 ·rw[if_neg hw] at h ⊢;exact h
theorem Kd(a:Act)(k j:Nat)(v:Value)(hk:k<a.tmps.size):(a.put (some k) v).eval (.tmp j)=if j=k then v else a.eval (.tmp j):=by
 simp only[Act.eval,Act.put,Array.getElem?_setIfInBounds,Array.getD_eq_getD_getElem?];by_cases h:j=k
 ·subst h;simp[hk]
 ·simp[h,Ne.symm h]
theorem OG(a:Act)(d:Option Tmp)(v:Value):(a.put d v).tmps.size=a.tmps.size:=by
 cases d <;> simp[Act.put]
theorem Nw{ty e:TypeId}(hu:aB.underlying ty=some (.slice e))(W:World)(ad:Addr)(v:Value)(h:W.cell? ad=some v):(aO ty (.pointer (some ad))).run aB W=.ok v W:=by
 have ha:(isAgg ty).run aB W=.ok false W:=by unfold isAgg;rw[aH,run_underlying hu W];simp[go_sem]
 simp[aO,aT,loadVar,aH,ha,go_sem,h]
theorem OF{ty:TypeId}(hsz:∀W,(sizeOf ty).run aB W=.ok 1 W)(W:World)(ad:Addr)(v u:Value)(hv:∃o n c,v=.slice o n c)(h:W.cell? ad=some u)(hz:W.frozen? ad=false):(aN ty (.pointer (some ad)) v).run aB W=.ok () (W.setCell ad v):=by
 obtain⟨o,n,c,rfl⟩:=hv;simp[aN,aT,storeVar,aH,hsz,go_sem,h,hz]
theorem FF{ops:Array Oper}{Q:Exit→Act→World→Prop}{i:Nat}{o:Oper}{K:Act→World→Prop}{a:Act}{w w':World}(hi:ops[i]?=some o)(hw:aI o (yielded ops a.tmps)=true)(v:Value)
  (hx:(execOp a.eval o).run aB w=.ok (.value v) w') (d:Option Tmp) (hd:o.dst=d) (hK:K (a.put d v) w'):wpOp aB ops Q i K a w:=by
 subst hd;refine IR hi hw ?_;unfold Oper.wp;rw[hx];exact hK
theorem Aa2{ops:Array Oper}{Q:Exit→Act→World→Prop}{i:Nat}{o:Oper}{K:Act→World→Prop}{a:Act}{w w':World}(hi:ops[i]?=some o)(hw:aI o (yielded ops a.tmps)=true)
  (hx:(execOp a.eval o).run aB w=.ok .skip w') (d:Option Tmp) (hd:o.dst=d) (hK:K (a.put d undef) w'):wpOp aB ops Q i K a w:=by
 subst hd;refine IR hi hw ?_;unfold Oper.wp;rw[hx];exact hK
theorem Gx{ops:Array Oper}{Q:Exit→Act→World→Prop}{i:Nat}{o:Oper}{K:Act→World→Prop}{a:Act}{w w':World}(hi:ops[i]?=some o)(hw:aI o (yielded ops a.tmps)=true)
  (hx:(execOp a.eval o).run aB w=.ok .skip w') (hd:o.dst=none) (hK:K a w'):wpOp aB ops Q i K a w:=
 Aa2 hi hw hx none hd hK
theorem Aa3{ops:Array Oper}{Q:Exit→Act→World→Prop}{i:Nat}{o:Oper}{K:Act→World→Prop}{a:Act}{w:World}(hi:ops[i]?=some o)(hw:aI o (yielded ops a.tmps)=true)(f:FuncId)(vs:Array Value)
  (hf:(execOp a.eval o).run aB w=.ok (.enter f vs) w) (D:Ending→World→Prop) (h:Calls aB f vs w D) (d:Option Tmp) (hd:o.dst=d) (hK:∀v w',D (.returned v) w'→K (a.put d v) w') (hP:∀ch w',D (.panicked ch) w'→Q (.panic ch) a w') (hO:∀w',¬D .outgrown w'):wpOp aB ops Q i K a w:=by
 subst hd;refine IR hi hw ?_;unfold Oper.wp;rw[hf];refine h.mono ?_;intro e w' hD
 cases e with
 | returned v=>exact hK v w' hD
 | panicked ch=>exact hP ch w' hD
 | outgrown=>exact absurd hD (hO w')
theorem FSx{o:Oper}{t i:Nat}{x:Operand}(ho:o.op=.fieldAddr t x i)(a:Act)(W:World)(v:Value)(h:(Instr.fieldAt t (a.eval x) i).run aB W=.ok v W):(execOp a.eval o).run aB W=.ok (.value v) W:=by
 unfold execOp;simp only[ho,aH,h,aJ,aL]
theorem EA{o:Oper}{x:Operand}(ho:o.op=.move x)(a:Act)(W:World)(v:Value)(h:a.eval x=v):(execOp a.eval o).run aB W=.ok (.value v) W:=by
 unfold execOp;simp only[ho,aL,h]
theorem GC{o:Oper}{t:Nat}{x:Operand}(ho:o.op=.load t x)(a:Act)(W:World)(u v:Value)(hu:a.eval x=u)(h:(aO t u).run aB W=.ok v W):(execOp a.eval o).run aB W=.ok (.value v) W:=by
 unfold execOp;simp only[ho,aH,hu,h,aJ,aL]
theorem NT{o:Oper}{t:Nat}{x y:Operand}(ho:o.op=.store t x y)(a:Act)(W W':World)(u v:Value)(hu:a.eval x=u)(hv:a.eval y=v)(h:(aN t u v).run aB W=.ok () W'):(execOp a.eval o).run aB W=.ok .skip W':=by
 unfold execOp;simp only[ho,aH,hu,hv,h,aJ,aL]
theorem Aag{o:Oper}{f:Nat}{x:Operand}{ts:Array TypeId}(ho:o.op=.call {callee:=.value (.func f),args:=#[x],argTypes:=ts})(hf:∀vs W,(callFunc f vs).run aB W=.ok (.enter f vs) W)(a:Act)(W:World)(v:Value)(h:a.eval x=v):(execOp a.eval o).run aB W=.ok (.enter f #[v]) W:=by
 unfold execOp;have hef:a.eval (.func f)=.func (.func f) #[] #[]:=rfl;simp only[ho,resolve,hef,List.map_toArray,List.map_cons,List.map_nil,h];simp[go_sem,hf]
end
end Go.Proofs.YtbhkoipcpcoooaaGreat
