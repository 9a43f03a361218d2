import Derived.Test.YteongcihannldaaJ5
import Derived.Test.YteongcihannldaaJ7
import Derived.Test.YteongcihannldaaJ4
import Derived.Test.YteongcihannldaaJ1
import Derived.Deep.Slices
import Derived.Test.YteongcihannldaaJ2
import Derived.SizedLaws
namespace Go.Proofs.Yteongcihannldaa
open Go Go.RowKit
set_option maxRecDepth 20000

/-! Both side by side; X: blocks of others that stay. -/
def TwU (w0 w : World) (g r : Nat) (R : RollM) (d : RfM) (N : Nat) (X : Nat → Prop) : Prop := ∃ vl vw, OwnX w0 w g R N (fun k => X k ∨ footRf r vl vw k) ∧ RfV w0.heap.size w r d vl vw ∧ d.words.length ≤ N ∧ d.count ≤ 6 ∧ ∀ k, X k → ¬ footRf r vl vw k
theorem own_kp {B : Nat} {e : TypeId} {s : Nat} {w w' : World} {v : Value} {n : Nat} {xs : List Value} (h : w.ownsRow B e s v n xs) (hk : ∀ k, v.ownBlock = some k → w'.heap[k]? = w.heap[k]?) : w'.ownsRow B e s v n xs := by
  obtain ⟨h1, h2 | ⟨g, cap, cur, rfl, hB, hcur, h3⟩⟩ := h
  · exact ⟨h1, .inl h2⟩
  · exact ⟨h1, .inr ⟨g, cap, cur, rfl, hB, (hk g rfl).trans hcur, h3⟩⟩
theorem RfV.kp {B : Nat} {w w' : World} {r : Nat} {d : RfM} {vl vw : Value} (h : RfV B w r d vl vw) (hk : ∀ k, footRf r vl vw k → w'.heap[k]? = w.heap[k]?) : RfV B w' r d vl vw :=
  ⟨(hk r (.inl rfl)).trans h.blk, own_kp h.life fun k e => hk k (.inr (.inl e)), h.len, own_kp h.row fun k e => hk k (.inr (.inr e)), h.hB⟩
theorem TwU.bel {w0 w : World} {g r : Nat} {R : RollM} {d : RfM} {N : Nat} {X : Nat → Prop} (h : TwU w0 w g r R d N X) : Below w0.heap.size w0 w := by obtain ⟨_, _, h, _⟩ := h; exact h.bel
theorem TwU.isIn {w0 w : World} {g r : Nat} {R : RollM} {d : RfM} {N : Nat} {X : Nat → Prop} (h : TwU w0 w g r R d N X) : RollIn R := by obtain ⟨_, _, h, _⟩ := h; exact h.isIn
theorem TwU.grow {w0 w w' : World} {g r : Nat} {R : RollM} {d : RfM} {N : Nat} {X : Nat → Prop} (h : TwU w0 w g r R d N X) (hb : Below w.heap.size w w') : TwU w0 w' g r R d N X ∧ KpY X w w' := by
  obtain ⟨vl, vw, h1, h2, h3, h4, h5⟩ := h
  obtain ⟨q1, q2⟩ := h1.grow hb
  exact ⟨⟨vl, vw, q1, h2.below hb, h3, h4, h5⟩, fun k e => q2 k (.inl e)⟩
theorem TwU.less {w0 w : World} {g r : Nat} {R : RollM} {d : RfM} {N : Nat} {X Y : Nat → Prop} (h : TwU w0 w g r R d N X) (hY : ∀ k, Y k → X k) : TwU w0 w g r R d N Y := by
  obtain ⟨vl, vw, h1, h2, h3, h4, h5⟩ := h
  exact ⟨vl, vw, h1.less fun k e => e.elim (fun q => .inl (hY k q)) .inr, h2, h3, h4, fun k e => h5 k (hY k e)⟩
theorem TwU.mono {w0 w : World} {g r : Nat} {R : RollM} {d : RfM} {N N' : Nat} {X : Nat → Prop} (h : TwU w0 w g r R d N X) (hn : N ≤ N') : TwU w0 w g r R d N' X := by
  obtain ⟨vl, vw, ⟨a1, a2, v, C, a3, a4⟩, h2, h3, h4, h5⟩ := h
  exact ⟨vl, vw, ⟨a1, a2, v, C, a3.mono hn, a4⟩, h2, by omega, h4, h5⟩
theorem TwU.block {w0 w : World} {g r : Nat} {R : RollM} {d : RfM} {N : Nat} {X : Nat → Prop} (h : TwU w0 w g r R d N X) (ob : Obj) : TwU w0 (w.alloc ob) g r R d N (fun k => X k ∨ k = w.heap.size) := by
  obtain ⟨vl, vw, h1, h2, h3, h4, h5⟩ := h
  have hb : Below w.heap.size w (w.alloc ob) := (Below.refl _ _).alloc (Nat.le_refl _) _
  refine ⟨vl, vw, (h1.block ob).less fun k e => ?_, h2.below hb, h3, h4, fun k e => ?_⟩
  · rcases e with (e | e) | e
    · exact .inl (.inl e)
    · exact .inr e
    · exact .inl (.inr e)
  · rcases e with e | e
    · exact h5 k e
    · intro e'
      have := (h2.foot_in k e').2
      omega
section
variable {w0 w : World} {g r : Nat} {R : RollM} {d : RfM} {N : Nat} {X : Nat → Prop} (h : TwU w0 w g r R d N X)
include h
/-- A call of the own roll. -/
theorem doesU (hN : N ≤ 100000) (x : ActR) (hx : OkActR x) : Calls Try.prog 15 #[.pointer (some ⟨g, 0, none⟩), .agg (actV21 x)] w fun e w' => e = .returned (.bool (actR R x).2) ∧ TwU w0 w' g r (actR R x).1 d (N + 1) X ∧ KpY X w w' := by
  obtain ⟨vl, vw, h1, h2, h3, h4, h5⟩ := h
  refine (doesX h1 hN x hx).mono ?_
  rintro e w' ⟨rfl, q1, q2⟩
  exact ⟨rfl, ⟨vl, vw, q1, h2.kp fun k e => q2 k (.inr e), by omega, h4, h5⟩, fun k e => q2 k (.inl e)⟩
end
/-- A call of the reference. -/
theorem TwU.ref {w0 w w' : World} {g r : Nat} {R : RollM} {d d' : RfM} {N : Nat} {X : Nat → Prop} {vl vw : Value} (h1 : OwnX w0 w g R N (fun k => X k ∨ footRf r vl vw k)) (h2 : RfV w0.heap.size w r d vl vw) (h4 : d.count ≤ 6) (h5 : ∀ k, X k → ¬ footRf r vl vw k)
    (hd : d'.words.length ≤ N + 1) (hc : d'.count = d.count) (hR : RfTo w0.heap.size w w' r d' vl vw) : TwU w0 w' g r R d' (N + 1) X ∧ KpY X w w' := by
  obtain ⟨ul, uw, q1, q2⟩ := hR
  refine ⟨⟨ul, uw, ?_, q1, hd, by omega, fun k e e' => ?_⟩, fun k e => ?_⟩
  · have := h1.others (Y := fun k => X k ∨ footRf r ul uw k) q2 (fun k e => .inr e) (fun k e => (h2.foot_in k e).1) (fun k e => e.elim (fun q => .inl (.inl q)) .inr) (fun k e => (q1.foot_in k e).2)
    obtain ⟨a1, a2, v, C, a3, a4⟩ := this
    exact ⟨a1, a2, v, C, a3.mono (Nat.le_succ _), a4⟩
  · obtain ⟨a1, a2, v, C, a3, a4⟩ := h1
    rcases q2.foot k e' with p | p
    · exact h5 k e p
    · have := (a4 k (.inl e)).1; omega
  · obtain ⟨a1, a2, v, C, a3, a4⟩ := h1
    exact q2.kept.block k (a4 k (.inl e)).1 (h5 k e)
def actF (d : RfM) (x : ActR) : RfM × Bool :=
  if x.kind = 1 then hearF d x.s x.inc x.now else if x.kind = 2 then ackF d x.s x.inc x.ep x.n else if x.kind = 3 then seenF d x.s x.inc x.n else if x.kind = 4 then (ledF d x.s x.ep x.now, false) else if x.kind = 5 then (keepF d x.ep x.n, false) else (d, false)
theorem link_act {d : RfM} {R : RollM} (h : LinkR d R) (x : ActR) : LinkR (actF d x).1 (actR R x).1 ∧ (actF d x).2 = (actR R x).2 := by
  unfold actF actR
  split
  · exact link_hear h _ _ _
  split
  · exact link_ack h _ _ _ _
  split
  · exact link_seen h _ _ _
  split
  · exact ⟨link_led h _ _ _, rfl⟩
  split
  · exact ⟨link_keep h _ _, rfl⟩
  · exact ⟨h, rfl⟩
theorem hearF_len (d : RfM) (s inc now : Int) : (hearF d s inc now).1.words.length ≤ d.words.length + 1 ∧ (hearF d s inc now).1.count = d.count := by
  unfold hearF
  split
  · refine ⟨?_, by dsimp only; unfold addF21; split <;> rfl⟩
    show ((if lifeF d s < inc then bornF d s inc else d).words ++ [_]).length ≤ _
    rw [List.length_append]
    split
    · have : (bornF d s inc).words.length ≤ d.words.length := List.length_filter_le _ _
      simp; omega
    · simp
  · exact ⟨Nat.le_succ _, rfl⟩
theorem ackF_len (d : RfM) (s inc e n : Int) : (ackF d s inc e n).1.words.length ≤ d.words.length + 1 ∧ (ackF d s inc e n).1.count = d.count := by
  unfold ackF
  split
  · exact ⟨by show (d.words ++ [_]).length ≤ _; simp, rfl⟩
  · exact ⟨Nat.le_succ _, rfl⟩
theorem seenF_len (d : RfM) (s inc n : Int) : (seenF d s inc n).1.words.length ≤ d.words.length + 1 ∧ (seenF d s inc n).1.count = d.count := by
  unfold seenF
  split
  · exact ⟨by show (d.words ++ [_]).length ≤ _; simp, rfl⟩
  · exact ⟨Nat.le_succ _, rfl⟩
theorem ledF_len (d : RfM) (s e n : Int) : (ledF d s e n).words.length ≤ d.words.length + 1 ∧ (ledF d s e n).count = d.count := by
  unfold ledF
  split
  · exact ⟨by show (d.words ++ [_]).length ≤ _; simp, rfl⟩
  · exact ⟨Nat.le_succ _, rfl⟩
theorem keepF_len (d : RfM) (a b : Int) : (keepF d a b).words.length ≤ d.words.length + 1 ∧ (keepF d a b).count = d.count :=
  ⟨Nat.le_trans (List.length_filter_le _ _) (Nat.le_succ _), rfl⟩
section
variable {w0 w : World} {g r : Nat} {R : RollM} {d : RfM} {N : Nat} {X : Nat → Prop} (h : TwU w0 w g r R d N X)
include h
theorem hearU (hN : N ≤ 100000) (s inc now : Int) : Calls Try.prog 10 #[.pointer (some ⟨r, 0, none⟩), .int .i64 s, .int .i64 inc, .int .i64 now] w fun e w' => e = .returned (.bool (hearF d s inc now).2) ∧ TwU w0 w' g r R (hearF d s inc now).1 (N + 1) X ∧ KpY X w w' := by
  obtain ⟨vl, vw, h1, h2, h3, h4, h5⟩ := h
  have hl := hearF_len d s inc now
  refine (rHear21_any _ w r d vl vw h2 h4 (by omega) s inc now).mono ?_
  rintro e w' ⟨rfl, q⟩
  exact ⟨rfl, TwU.ref h1 h2 h4 h5 (by omega) hl.2 q⟩
theorem ackU (hN : N ≤ 100000) (s inc ep n : Int) : Calls Try.prog 11 #[.pointer (some ⟨r, 0, none⟩), .int .i64 s, .int .i64 inc, .int .i64 ep, .int .i64 n] w fun e w' => e = .returned (.bool (ackF d s inc ep n).2) ∧ TwU w0 w' g r R (ackF d s inc ep n).1 (N + 1) X ∧ KpY X w w' := by
  obtain ⟨vl, vw, h1, h2, h3, h4, h5⟩ := h
  have hl := ackF_len d s inc ep n
  refine (rAck21_any _ w r d vl vw h2 h4 (by omega) s inc ep n).mono ?_
  rintro e w' ⟨rfl, q⟩
  exact ⟨rfl, TwU.ref h1 h2 h4 h5 (by omega) hl.2 q⟩
theorem seenU (hN : N ≤ 100000) (s inc n : Int) : Calls Try.prog 12 #[.pointer (some ⟨r, 0, none⟩), .int .i64 s, .int .i64 inc, .int .i64 n] w fun e w' => e = .returned (.bool (seenF d s inc n).2) ∧ TwU w0 w' g r R (seenF d s inc n).1 (N + 1) X ∧ KpY X w w' := by
  obtain ⟨vl, vw, h1, h2, h3, h4, h5⟩ := h
  have hl := seenF_len d s inc n
  refine (rSeen21_any _ w r d vl vw h2 h4 (by omega) s inc n).mono ?_
  rintro e w' ⟨rfl, q⟩
  exact ⟨rfl, TwU.ref h1 h2 h4 h5 (by omega) hl.2 q⟩
theorem ledU (hN : N ≤ 100000) (s ep now : Int) : Calls Try.prog 13 #[.pointer (some ⟨r, 0, none⟩), .int .i64 s, .int .i64 ep, .int .i64 now] w fun e w' => e = .returned (.tuple #[]) ∧ TwU w0 w' g r R (ledF d s ep now) (N + 1) X ∧ KpY X w w' := by
  obtain ⟨vl, vw, h1, h2, h3, h4, h5⟩ := h
  have hl := ledF_len d s ep now
  refine (rLed21_any _ w r d vl vw h2 (by omega) s ep now).mono ?_
  rintro e w' ⟨rfl, q⟩
  exact ⟨rfl, TwU.ref h1 h2 h4 h5 (by omega) hl.2 q⟩
theorem keepU (hN : N ≤ 100000) (a b : Int) : Calls Try.prog 14 #[.pointer (some ⟨r, 0, none⟩), .int .i64 a, .int .i64 b] w fun e w' => e = .returned (.tuple #[]) ∧ TwU w0 w' g r R (keepF d a b) (N + 1) X ∧ KpY X w w' := by
  obtain ⟨vl, vw, h1, h2, h3, h4, h5⟩ := h
  have hl := keepF_len d a b
  refine (rKeep21_any _ w r d vl vw h2 (by omega) a b).mono ?_
  rintro e w' ⟨rfl, q⟩
  exact ⟨rfl, TwU.ref h1 h2 h4 h5 (by omega) hl.2 q⟩
/-! What is asked, of both. -/
theorem incU (s : Int) : Calls Try.prog 16 #[.pointer (some ⟨g, 0, none⟩), .int .i64 s] w fun e w' => e = .returned (.int .i64 (incR R s)) ∧ w' = w := by obtain ⟨vl, vw, h1, _⟩ := h; exact incX h1 s
theorem useU (s : Int) : Calls Try.prog 22 #[.pointer (some ⟨g, 0, none⟩), .int .i64 s] w fun e w' => e = .returned (.int .i64 (useR R s)) ∧ w' = w := by obtain ⟨vl, vw, h1, _⟩ := h; exact useX h1 s
theorem haveU (s ep : Int) (he : WfI ep) : Calls Try.prog 20 #[.pointer (some ⟨g, 0, none⟩), .int .i64 s, .int .i64 ep] w fun e w' => e = .returned (.int .i64 (haveR R s ep)) ∧ w' = w := by obtain ⟨vl, vw, h1, _⟩ := h; exact haveX h1 s ep he
theorem inU (s now lost : Int) : Calls Try.prog 18 #[.pointer (some ⟨g, 0, none⟩), .int .i64 s, .int .i64 now, .int .i64 lost] w fun e w' => e = .returned (.bool (inR R s now lost)) ∧ Below w.heap.size w w' := by obtain ⟨vl, vw, h1, _⟩ := h; exact inX h1 s now lost
theorem safeU (s ep now lease : Int) (b : Bool) (hb : b = true ↔ SafeR R s ep now lease) : Calls Try.prog 24 #[.pointer (some ⟨g, 0, none⟩), .int .i64 s, .int .i64 ep, .int .i64 now, .int .i64 lease] w fun e w' => e = .returned (.bool b) ∧ Below w.heap.size w w' := by obtain ⟨vl, vw, h1, _⟩ := h; exact safeX h1 s ep now lease b hb
variable (hl : LinkR d R)
include hl
theorem incV (s : Int) : Calls Try.prog 17 #[.pointer (some ⟨r, 0, none⟩), .int .i64 s] w fun e w' => e = .returned (.int .i64 (incR R s)) ∧ w' = w := by
  obtain ⟨vl, vw, h1, h2, h3, h4, h5⟩ := h
  rw [← link_inc hl]
  exact rInc_any _ w r d vl vw h2 h4 s
theorem useV (s : Int) : Calls Try.prog 23 #[.pointer (some ⟨r, 0, none⟩), .int .i64 s] w fun e w' => e = .returned (.int .i64 (useR R s)) ∧ Below w.heap.size w w' := by
  obtain ⟨vl, vw, h1, h2, h3, h4, h5⟩ := h
  rw [← link_use hl]
  exact rUse21_any _ w r d vl vw h2 s
theorem haveV (s ep : Int) : Calls Try.prog 21 #[.pointer (some ⟨r, 0, none⟩), .int .i64 s, .int .i64 ep] w fun e w' => e = .returned (.int .i64 (haveR R s ep)) ∧ Below w.heap.size w w' := by
  obtain ⟨vl, vw, h1, h2, h3, h4, h5⟩ := h
  rw [← link_have hl]
  exact rHave21_any _ w r d vl vw h2 s ep
theorem inV (s now lost : Int) : Calls Try.prog 19 #[.pointer (some ⟨r, 0, none⟩), .int .i64 s, .int .i64 now, .int .i64 lost] w fun e w' => e = .returned (.bool (inR R s now lost)) ∧ Below w.heap.size w w' := by
  obtain ⟨vl, vw, h1, h2, h3, h4, h5⟩ := h
  rw [← link_in hl]
  refine rIn21_any _ w r d vl vw h2 h4 s now lost fun hs => ?_
  rw [link_is hl] at hs
  rw [hl.heard s hs]
  exact h1.isIn.heard s
theorem safeV (s ep now lease : Int) (b : Bool) (hb : b = true ↔ SafeR R s ep now lease) : Calls Try.prog 25 #[.pointer (some ⟨r, 0, none⟩), .int .i64 s, .int .i64 ep, .int .i64 now, .int .i64 lease] w fun e w' => e = .returned (.bool b) ∧ Below w.heap.size w w' := by
  obtain ⟨vl, vw, h1, h2, h3, h4, h5⟩ := h
  refine rSafe21_any _ w r d vl vw h2 s ep now lease (fun e hs => ?_) b (hb.trans (link_safe hl s ep now lease).symm)
  rw [link_is hl] at hs
  have hm : mostF d.words s 4 e = (toldF d.words s e).getD 0 := told_most d.words s e none 0 hl.clk rfl
  rw [hm, hl.led s e hs]
  cases ht : (R.sw s).led e with
  | none => show (0 : Int) ≤ 0 ∧ (0 : Int) ≤ _; omega
  | some t => exact (h1.isIn.ok s).led0 e t ht
end
theorem newU {w0 w2 w3 : World} {n : Int} (hn : 1 ≤ n ∧ n ≤ 6) (h : OwnR w0 w2 w0.heap.size ⟨n, fun _ => sw0⟩ 0) {r : Nat} {vl : Value} (hr : RfV w2.heap.size w3 r ⟨n, List.replicate 7 0, []⟩ vl (.slice none 0 0)) (hb : Below w2.heap.size w2 w3) : TwU w0 w3 w0.heap.size r ⟨n, fun _ => sw0⟩ ⟨n, List.replicate 7 0, []⟩ 0 (fun _ => False) := by
  obtain ⟨h1, h2, v, C, h3⟩ := h
  refine ⟨vl, _, ⟨h1, h2.trans (hb.mono h2.size), v, C, h3.below hb, fun k e => ?_⟩, ⟨hr.blk, gown_base hr.life h2.size, hr.len, gown_base hr.row h2.size, by have := hr.hB; have := h2.size; omega⟩, Nat.le_refl _, hn.2, fun k e => e.elim⟩
  rcases e with e | e
  · exact e.elim
  · refine ⟨(hr.foot_in k e).2, fun e' => ?_⟩
    have := (h3.foot_in k e').2
    have := (hr.foot_in k e).1
    omega
end Go.Proofs.Yteongcihannldaa
namespace Go.Proofs.Yteongcihannldaa
open Go Go.RowKit
set_option maxRecDepth 20000

theorem hear_count (R : RollM) (s inc now : Int) : (hearR R s inc now).1.count = R.count := by unfold hearR; split <;> rfl
theorem ack_count (R : RollM) (s inc e n : Int) : (ackR R s inc e n).1.count = R.count := by unfold ackR; split <;> rfl
theorem seen_count (R : RollM) (s inc n : Int) : (seenR R s inc n).1.count = R.count := by unfold seenR; split <;> rfl
theorem led_count (R : RollM) (s e n : Int) : (ledR R s e n).count = R.count := by unfold ledR; split <;> rfl
theorem led_life (r : RollM) (s e now k : Int) : ((ledR r s e now).sw k).life = (r.sw k).life := by
  unfold ledR
  split
  · by_cases h : k = s
    · subst h; rw [set_at]; rfl
    · rw [set_other r s _ h]
  · rfl
theorem act_count (R : RollM) (x : ActR) : (actR R x).1.count = R.count := by
  unfold actR
  split
  · exact hear_count _ _ _ _
  split
  · exact ack_count _ _ _ _ _
  split
  · exact seen_count _ _ _ _
  split
  · exact led_count _ _ _ _
  split <;> rfl
theorem isRl_act (R : RollM) (x : ActR) (s : Int) : isRl (actR R x).1 s = isRl R s := by unfold isRl; rw [act_count]
/-- A life never goes back. -/
theorem act_life (R : RollM) (x : ActR) (s : Int) : ¬ incR (actR R x).1 s < incR R s := by
  unfold incR
  rw [isRl_act]
  split
  · have : (R.sw s).life ≤ ((actR R x).1.sw s).life := by
      unfold actR
      split
      · exact hear_life _ _ _ _ _
      split
      · rw [ack_life]; exact Int.le_refl _
      split
      · rw [seen_life]; exact Int.le_refl _
      split
      · show _ ≤ ((ledR _ _ _ _).sw s).life
        rw [led_life]; exact Int.le_refl _
      split <;> exact Int.le_refl _
    omega
  · omega
theorem act_other (R : RollM) (x : ActR) (s : Int) (h : x.s ≠ s) (h5 : x.kind ≠ 5) : (actR R x).1.sw s = R.sw s := by
  have h' : s ≠ x.s := fun e => h e.symm
  unfold actR
  split
  · exact hear_other _ _ _ _ h'
  split
  · exact ack_other _ _ _ _ _ h'
  split
  · exact seen_other _ _ _ _ h'
  split
  · exact led_other _ _ _ _ h'
  rfl
theorem act_other3 (R : RollM) (x : ActR) (s ep : Int) (h : x.s ≠ s) (h5 : x.kind ≠ 5) : incR (actR R x).1 s = incR R s ∧ useR (actR R x).1 s = useR R s ∧ haveR (actR R x).1 s ep = haveR R s ep := by
  have e := act_other R x s h h5
  unfold incR useR haveR
  rw [isRl_act, e]
  exact ⟨rfl, rfl, rfl⟩
/-- What is said of another life changes nothing. -/
theorem act_not (R : RollM) (x : ActR) (s : Int) (hk : x.kind = 2 ∨ x.kind = 3) (hs : x.s = s) (hi : x.inc ≠ incR R s) : actR R x = (R, false) := by
  have hl : livesR R x.s x.inc = false := by
    rw [hs]
    cases h : isRl R s with
    | false => unfold livesR; rw [h]; rfl
    | true =>
      unfold incR at hi
      rw [h, if_pos rfl] at hi
      exact lives_no hi
  unfold actR
  rcases hk with hk | hk
  · rw [if_neg (by rw [hk]; decide), if_pos hk]
    exact ackR_no hl _ _
  · rw [if_neg (by rw [hk]; decide), if_neg (by rw [hk]; decide), if_pos hk]
    exact seenR_no hl _
end Go.Proofs.Yteongcihannldaa
namespace Go.Proofs.Yteongcihannldaa
open Go.ChangeShapes Go.WideShapes Go.ChangeAt Go.WideMaps Go.WideElems Go.RowKit
set_option maxRecDepth 20000

theorem El.Ok.cellsOf {E : El} (H : E.Ok) : Try.prog.cellsOf E.elem = E.size := by
  obtain ⟨i, h1, _, h2, _⟩ := H.info
  simp [Program.cellsOf, h1, h2]

/-- A slice that comes in, of elements that are opened one by one. -/
theorem open_anyK {E : El} (HE : E.Ok) {α : Type} [Inhabited α] (row : α → Array Value) (hrow : ∀ a, (row a).size = E.size) (Q : α → Prop) {H : Type} {enc : TypeId × Value → H} {W : World} {base : Nat} {spare : Nat → Bool} {held : Bool} (Ok : DataW H → Prop)
    (elem : ∀ (fuel : Nat) (cs : List Value) (x : DataW H × List MemPlace), cs.length = E.size → Ok x.1 → DataW.trod enc Try.prog W base spare held fuel E.elem cs = some x → ∃ a, cs = (row a).toList ∧ Q a)
    {fuel : Nat} {v : Value} {x : DataW H × List MemPlace} (hf : DataW.trod enc Try.prog W base spare held fuel E.slice [v] = some x) (hOk : ∀ es sp, x.1 = .slice es sp → ∀ d ∈ es, Ok d) : ∃ C : List α, GSl E row W v C ∧ ∀ c ∈ C, Q c := by
  have hp := HE.hp
  rcases Deep.open_slice HE.hs hf with ⟨h0, _⟩ | ⟨a, len, cap, m, n, D, Pl, h0, hb, hl, hm, hmm, hxe, hx⟩
  · obtain rfl : v = .slice none 0 0 := by simpa using h0
    exact ⟨[], gsl_nil E row W, fun c hc => absurd hc (by simp)⟩
  · obtain rfl : v = .slice (some a) len cap := by simpa using h0
    rw [HE.cellsOf] at hx
    have hlm : len ≤ m := by rw [hmm]; split <;> omega
    have each : ∀ i, i < len → ∃ c : α, Q c ∧ ∀ j, j < E.size → W.cell? (a.add (i * E.size + j)) = (row c)[j]? := fun i hi => by
      obtain ⟨cs', h1, h2⟩ := hx i (by omega)
      obtain ⟨_, hlen, hcell⟩ := World.cells?_some h1
      obtain ⟨c, h3, h4⟩ := elem _ cs' _ hlen (hOk _ _ (by rw [hxe]) _ (List.mem_map.2 ⟨i, List.mem_range.2 hi, rfl⟩)) h2
      refine ⟨c, h4, fun j hj => ?_⟩
      have := hcell j hj
      rw [Deep.add_add] at this
      rw [this, h3]
      simp
    obtain ⟨f, hf⟩ := Deep.choose_lt each
    refine ⟨(List.range len).map f, ⟨some a, cap, by simp, by simpa using hl, hm, fun i hi => ?_⟩, fun c hc => ?_⟩
    · have hi' : i < len := by simpa using hi
      have h1 := (hf i hi').2
      obtain ⟨g, off, sp⟩ := a
      have hj : ∀ j, j < E.size → ∃ cur t fr, W.heap[g]? = some (.cells cur t fr) ∧ cur[off + i * E.size + j]? = (row (f i))[j]? ∧ (i * E.size + j = 0 → sp = none) := fun j hj => by
        have h2 := h1 j hj
        obtain ⟨y, hy⟩ : ∃ y, (row (f i))[j]? = some y := ⟨_, Array.getElem?_eq_getElem (by rw [hrow]; exact hj)⟩
        rw [hy] at h2 ⊢
        unfold World.cell? at h2
        split at h2
        · rename_i cur t fr hq
          have hbk : (Addr.add ⟨g, off, sp⟩ (i * E.size + j)).block = g := by unfold Addr.add; split <;> rfl
          have hof : (Addr.add ⟨g, off, sp⟩ (i * E.size + j)).off = off + i * E.size + j := by unfold Addr.add; split <;> simp_all [Nat.add_assoc]
          rw [hbk] at hq
          rw [hof] at h2
          split at h2
          · cases h2
          · rename_i hsp
            refine ⟨cur, t, fr, hq, h2, fun h0 => ?_⟩
            unfold Addr.add at hsp
            rw [if_pos h0] at hsp
            simpa using hsp
        · cases h2
      have hsp : sp = none := by
        obtain ⟨cur, t, fr, h2, h3, h4⟩ := hj 0 hp
        by_cases hi0 : i = 0
        · exact h4 (by rw [hi0]; simp)
        · have h5 := (hf 0 (by omega)).2 0 hp
          obtain ⟨y, hy⟩ : ∃ y, (row (f 0))[0]? = some y := ⟨_, Array.getElem?_eq_getElem (by rw [hrow]; exact hp)⟩
          rw [hy] at h5
          unfold World.cell? at h5
          split at h5
          · split at h5
            · cases h5
            · rename_i hs
              simpa [Addr.add] using hs
          · cases h5
      subst hsp
      obtain ⟨cur, t, fr, h2, _, _⟩ := hj 0 hp
      refine ⟨g, off, cur, t, fr, rfl, h2, fun j hjl => ?_⟩
      obtain ⟨cur', t', fr', h3, h4, _⟩ := hj j hjl
      rw [h2] at h3
      obtain ⟨rfl, rfl, rfl⟩ : cur = cur' ∧ t = t' ∧ fr = fr' := by simpa using h3
      rw [h4]
      simp
    · rw [List.mem_map] at hc
      obtain ⟨i, hi, rfl⟩ := hc
      exact (hf i (by simpa using hi)).1

/-- A list whose elements hold lists of their own: each row with the value of its inner list. -/
def NSl {α : Type} (E : El) (row : α → Value → Array Value) (R : World → α → Value → Prop) (w : World) (v : Value) (C : List α) : Prop :=
  ∃ P : List (α × Value), P.map (·.1) = C ∧ GSl E (fun p => row p.1 p.2) w v P ∧ ∀ p ∈ P, R w p.1 p.2
theorem NSl.below {α : Type} {E : El} {row : α → Value → Array Value} {R : World → α → Value → Prop} (hR : ∀ w w' a v, Below w.heap.size w w' → R w a v → R w' a v) {w w' : World} {v : Value} {C : List α} (h : NSl E row R w v C) (hb : Below w.heap.size w w') : NSl E row R w' v C := by
  obtain ⟨P, h1, h2, h3⟩ := h
  exact ⟨P, h1, h2.below hb, fun p hp => hR w w' _ _ hb (h3 p hp)⟩
theorem NSl.slice {α : Type} {E : El} {row : α → Value → Array Value} {R : World → α → Value → Prop} {w : World} {v : Value} {C : List α} (h : NSl E row R w v C) : ∃ (o : Option Addr) (cap : Nat), v = .slice o C.length cap ∧ C.length ≤ cap ∧ cap ≤ maxLen := by
  obtain ⟨P, h1, h2, _⟩ := h
  obtain ⟨o, cap, e, h4, h5⟩ := h2.slice
  have hl : P.length = C.length := by rw [← h1, List.length_map]
  rw [hl] at e h4
  exact ⟨o, cap, e, h4, h5⟩
theorem NSl.at {α : Type} {E : El} {row : α → Value → Array Value} {R : World → α → Value → Prop} {w : World} {o : Option Addr} {n cap : Nat} {C : List α} (h : NSl E row R w (.slice o n cap) C) (k : Nat) (hk : k < n) :
    ∃ g off cur t fr, ∃ (c : α) (u : Value), o = some ⟨g, off, none⟩ ∧ w.heap[g]? = some (.cells cur t fr) ∧ (∀ j, j < E.size → cur[off + k * E.size + j]? = (row c u)[j]?) ∧ C[k]? = some c ∧ R w c u := by
  obtain ⟨P, h1, h2, h3⟩ := h
  obtain ⟨g, off, cur, t, fr, c, e1, e2, e3, e4⟩ := h2.at k hk
  exact ⟨g, off, cur, t, fr, c.1, c.2, e1, e2, e3, by rw [← h1, List.getElem?_map, e4]; rfl, h3 c (List.mem_of_getElem? e4)⟩
/-- The same of one's own row. -/
def NOwn {α : Type} (E : El) (row : α → Value → Array Value) (R : World → α → Value → Prop) (w : World) (B : Nat) (v : Value) (C : List α) : Prop :=
  ∃ P : List (α × Value), P.map (·.1) = C ∧ w.ownsRow B E.elem E.size v P.length (gcells (fun p : α × Value => row p.1 p.2) P) ∧ ∀ p ∈ P, R w p.1 p.2
theorem NOwn.sl {α : Type} {E : El} {row : α → Value → Array Value} {R : World → α → Value → Prop} (hrow : ∀ a u, (row a u).size = E.size) {w : World} {B : Nat} {v : Value} {C : List α} (h : NOwn E row R w B v C) : NSl E row R w v C := by
  obtain ⟨P, h1, h2, h3⟩ := h
  exact ⟨P, h1, gsl_of h2 fun c _ => hrow c.1 c.2, h3⟩
theorem NOwn.nil {α : Type} (E : El) (row : α → Value → Array Value) (R : World → α → Value → Prop) (w : World) (B : Nat) : NOwn E row R w B (.slice none 0 0) [] :=
  ⟨[], rfl, World.ownsRow_nil _ _ _ _, fun p hp => by simp at hp⟩
theorem NOwn.below {α : Type} {E : El} {row : α → Value → Array Value} {R : World → α → Value → Prop} (hR : ∀ w w' a v, Below w.heap.size w w' → R w a v → R w' a v) {w w' : World} {B : Nat} {v : Value} {C : List α} (h : NOwn E row R w B v C) (hb : Below w.heap.size w w') : NOwn E row R w' B v C := by
  obtain ⟨P, h1, h2, h3⟩ := h
  exact ⟨P, h1, gown_below h2 hb, fun p hp => hR w w' _ _ hb (h3 p hp)⟩
/-- A row stays as it is while another one grows. -/
theorem own_grown {w w' : World} {b : Option Nat} (hgr : w.grownBy w' b) {B : Nat} {e : TypeId} {s : Nat} {u : Value} {m : Nat} {ys : List Value} (h : w.ownsRow B e s u m ys) (hne : ∀ g, b = some g → u.ownBlock ≠ some g) : w'.ownsRow B e s u m ys := by
  obtain ⟨h0, h1 | ⟨g, cap, cur, rfl, hB, hcur, h3⟩⟩ := h
  · exact ⟨h0, .inl h1⟩
  · refine ⟨h0, .inr ⟨g, cap, cur, rfl, hB, ?_, h3⟩⟩
    rw [hgr.block g (Array.getElem?_eq_some_iff.1 hcur).1 (fun hq => hne g hq.symm rfl)]
    exact hcur
theorem NOwn.grown {α : Type} {E : El} {row : α → Value → Array Value} {R : World → α → Value → Prop} {w w' : World} {b : Option Nat} (hgr : w.grownBy w' b) {B : Nat} {v : Value} {C : List α} (h : NOwn E row R w B v C) (hne : ∀ g, b = some g → v.ownBlock ≠ some g) (hR : ∀ a u, R w a u → R w' a u) : NOwn E row R w' B v C := by
  obtain ⟨P, h1, h2, h3⟩ := h
  exact ⟨P, h1, own_grown hgr h2 hne, fun p hp => hR _ _ (h3 p hp)⟩
end Go.Proofs.Yteongcihannldaa
namespace Go.Proofs.Yteongcihannldaa
open Go.ChangeShapes Go.WideShapes Go.ChangeAt Go.WideMaps Go.WideElems Go.RowKit
set_option maxRecDepth 20000

theorem take_one {cs : List Value} {i : Nat} {v : Value} (h : (cs.drop i).take 1 = [v]) : cs[i]? = some v := by
  have := congrArg List.head? h
  rw [List.head?_take, if_neg (by decide), List.head?_drop] at this
  simpa using this
/-- The one cell of a field. -/
theorem field_int {P : Program} {H : Type} {enc : TypeId × Value → H} {W : World} {base : Nat} {spare : Nat → Bool} {held : Bool} {n : Nat} {t : TypeId} {cs : List Value} {y : Option (DataW H × List MemPlace)} {i : Nat} {k : IntKind} (ht : P.underlying t = some (.int k)) (hc : P.cellsOf t = 1)
    (h : DataW.trod enc P W base spare held n t ((cs.drop i).take (P.cellsOf t)) = y) (hy : y.isSome = true) : ∃ z : Int, cs[i]? = some (.int k z) ∧ (Lit.int k z).wf = true := by
  obtain ⟨y', rfl⟩ := Option.isSome_iff_exists.1 hy
  obtain ⟨z, h1, _, h3⟩ := DataW.trod_int ht h
  rw [hc] at h1
  exact ⟨z, take_one h1, h3⟩
theorem xs_some {α : Type} {xs : List α} {n i : Nat} (h : xs.length = n) (hi : i < n) : (xs[i]?).isSome = true := by
  rw [List.getElem?_eq_getElem (by omega)]; rfl

end Go.Proofs.Yteongcihannldaa
namespace Go.Proofs.Yteongcihannldaa
open Go.ChangeShapes Go.WideShapes Go.ChangeAt Go.WideMaps Go.WideElems Go.RowKit
set_option maxRecDepth 20000

def zeroAct21 : ActR := ⟨0, 0, 0, 0, 0, 0⟩
def Act21E : El := ⟨34, 22, 6, 48, actV21 zeroAct21⟩
theorem Act21Ok : Act21E.Ok := ⟨Try.underlying22, ⟨_, Try.underlying34, rfl⟩, by kernel_rfl, rfl, by decide, by decide, by decide⟩
theorem act21_fits (x : ActR) : Fits Act21E (actV21 x) := ⟨rfl, by simp [actV21, Value.oneCell']⟩
theorem act21_of {H : Type} {enc : TypeId × Value → H} {W : World} {base : Nat} {spare : Nat → Bool} {held : Bool} (fuel : Nat) (cs : List Value) (x : DataW H × List MemPlace) (hl : cs.length = 6)
    (h : DataW.trod enc Try.prog W base spare held fuel 34 cs = some x) : ∃ r : ActR, cs = (actV21 r).toList ∧ OkActR r := by
  have c3 : Try.prog.cellsOf 3 = 1 := by kernel_rfl
  obtain ⟨xs, n, _, hxe, _, hxl, hf⟩ := DataW.trod_struct Try.underlying34 h
  obtain ⟨n0, h0, _⟩ := field_int Try.underlying3 c3 (hf 0 _ rfl) (xs_some hxl (by decide))
  obtain ⟨n1, h1, _⟩ := field_int Try.underlying3 c3 (hf 1 _ rfl) (xs_some hxl (by decide))
  obtain ⟨n2, h2, _⟩ := field_int Try.underlying3 c3 (hf 2 _ rfl) (xs_some hxl (by decide))
  obtain ⟨n3, h3, w3⟩ := field_int Try.underlying3 c3 (hf 3 _ rfl) (xs_some hxl (by decide))
  obtain ⟨n4, h4, w4⟩ := field_int Try.underlying3 c3 (hf 4 _ rfl) (xs_some hxl (by decide))
  obtain ⟨n5, h5, _⟩ := field_int Try.underlying3 c3 (hf 5 _ rfl) (xs_some hxl (by decide))
  refine ⟨⟨n0, n1, n2, n3, n4, n5⟩, ?_, w3, w4⟩
  apply List.ext_getElem?
  intro k
  refine Eq.trans ?_ (Array.getElem?_toList).symm
  rcases (show k = 0 ∨ k = 1 ∨ k = 2 ∨ k = 3 ∨ k = 4 ∨ k = 5 ∨ 6 ≤ k by omega) with rfl | rfl | rfl | rfl | rfl | rfl | hk
  · exact h0
  · exact h1
  · exact h2
  · exact h3
  · exact h4
  · exact h5
  · rw [List.getElem?_eq_none (by omega), Array.getElem?_eq_none (by simpa [actV21] using hk)]
theorem open_acts21 {H : Type} {enc : TypeId × Value → H} {W : World} {r : Reach} {b0 base : Nat} {spare : Nat → Bool} {held : Bool} {v : Value} {d : DataW H} {p : List MemPlace}
    (hok : Value.okWide Try.prog W r b0 22 v) (h : DataW.Trod enc Try.prog W base spare held 22 v d p) : ∃ A : List ActR, GSl Act21E actV21 W v A ∧ ∀ x ∈ A, OkActR x := by
  obtain ⟨fuel, hf⟩ := h
  have hv1 : v.cells.toList = [v] := by
    simp only [Value.okWide, Cell.okWide, Cell.ok, Try.underlying22] at hok
    cases v <;> simp_all [Value.cells]
  rw [hv1] at hf
  have hin : Inhabited ActR := ⟨zeroAct21⟩
  exact open_anyK (E := Act21E) Act21Ok actV21 (fun _ => rfl) OkActR (fun _ => True) (fun fuel cs x h1 _ h2 => act21_of fuel cs x h1 h2) hf (fun _ _ _ _ _ => trivial)
theorem open_act21 {H : Type} {enc : TypeId × Value → H} {W : World} {r : Reach} {b0 base : Nat} {spare : Nat → Bool} {held : Bool} {v : Value} {d : DataW H} {p : List MemPlace}
    (hok : Value.okWide Try.prog W r b0 34 v) (h : DataW.Trod enc Try.prog W base spare held 34 v d p) : ∃ x : ActR, v = .agg (actV21 x) ∧ OkActR x := by
  have c5 : Try.prog.cellsOf 34 = 6 := by kernel_rfl
  simp only [Value.okWide, Try.underlying34] at hok
  obtain ⟨cs, rfl, hsz, _⟩ := hok
  rw [c5] at hsz
  obtain ⟨fuel, hf⟩ := h
  simp only [Value.cells] at hf
  obtain ⟨x, h1, h2⟩ := act21_of fuel cs.toList _ (by simpa using hsz) hf
  exact ⟨x, by congr 1; exact Array.ext' h1, h2⟩
structure AskR where
  ep : Int
  now : Int
  lost : Int
  lease : Int
def askV21 (x : AskR) : Array Value := #[.int .i64 x.ep, .int .i64 x.now, .int .i64 x.lost, .int .i64 x.lease]
structure OkAskR (x : AskR) : Prop where
  ep : WfI x.ep
  now : WfI x.now
  lost : WfI x.lost
  lease : WfI x.lease
theorem ask21_of {H : Type} {enc : TypeId × Value → H} {W : World} {base : Nat} {spare : Nat → Bool} {held : Bool} (fuel : Nat) (cs : List Value) (x : DataW H × List MemPlace) (hl : cs.length = 4)
    (h : DataW.trod enc Try.prog W base spare held fuel 24 cs = some x) : ∃ r : AskR, cs = (askV21 r).toList ∧ OkAskR r := by
  have c3 : Try.prog.cellsOf 3 = 1 := by kernel_rfl
  obtain ⟨xs, n, _, hxe, _, hxl, hf⟩ := DataW.trod_struct Try.underlying24 h
  obtain ⟨n0, h0, w0⟩ := field_int Try.underlying3 c3 (hf 0 _ rfl) (xs_some hxl (by decide))
  obtain ⟨n1, h1, w1⟩ := field_int Try.underlying3 c3 (hf 1 _ rfl) (xs_some hxl (by decide))
  obtain ⟨n2, h2, w2⟩ := field_int Try.underlying3 c3 (hf 2 _ rfl) (xs_some hxl (by decide))
  obtain ⟨n3, h3, w3⟩ := field_int Try.underlying3 c3 (hf 3 _ rfl) (xs_some hxl (by decide))
  refine ⟨⟨n0, n1, n2, n3⟩, ?_, w0, w1, w2, w3⟩
  apply List.ext_getElem?
  intro k
  refine Eq.trans ?_ (Array.getElem?_toList).symm
  rcases (show k = 0 ∨ k = 1 ∨ k = 2 ∨ k = 3 ∨ 4 ≤ k by omega) with rfl | rfl | rfl | rfl | hk
  · exact h0
  · exact h1
  · exact h2
  · exact h3
  · rw [List.getElem?_eq_none (by omega), Array.getElem?_eq_none (by simpa [askV21] using hk)]
theorem open_ask21 {H : Type} {enc : TypeId × Value → H} {W : World} {r : Reach} {b0 base : Nat} {spare : Nat → Bool} {held : Bool} {v : Value} {d : DataW H} {p : List MemPlace}
    (hok : Value.okWide Try.prog W r b0 24 v) (h : DataW.Trod enc Try.prog W base spare held 24 v d p) : ∃ x : AskR, v = .agg (askV21 x) ∧ OkAskR x := by
  have c5 : Try.prog.cellsOf 24 = 4 := by kernel_rfl
  simp only [Value.okWide, Try.underlying24] at hok
  obtain ⟨cs, rfl, hsz, _⟩ := hok
  rw [c5] at hsz
  obtain ⟨fuel, hf⟩ := h
  simp only [Value.cells] at hf
  obtain ⟨x, h1, h2⟩ := ask21_of fuel cs.toList _ (by simpa using hsz) hf
  exact ⟨x, by congr 1; exact Array.ext' h1, h2⟩
end Go.Proofs.Yteongcihannldaa
