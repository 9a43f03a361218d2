import Derived.Test.YtagogbodkbbikaaJ7
import Derived.Test.YtagogbodkbbikaaJ8
import Derived.Test.YtagogbodkbbikaaJ9
namespace Go.Proofs.Ytagogbodkbbikaa
open Go Go.RowKit
set_option maxRecDepth 20000

/-! Both side by side; X: blocks of others that stay. -/
def TwM (w wr : World) (g r : Nat) (mo mr : WaitM) (X : Nat → Prop) : Prop := ∃ v va vd P, WaitV w.heap.size wr g mo v ∧ RwO w.heap.size wr r mr va vd P ∧ RwI mr P ∧ (∀ k, footW g v k → ¬ footR r va vd k) ∧ (∀ k, X k → k < wr.heap.size ∧ ¬ footW g v k ∧ ¬ footR r va vd k) ∧ Below w.heap.size w wr
def KpX (X : Nat → Prop) (w w' : World) : Prop := ∀ k, X k → w'.heap[k]? = w.heap[k]?
theorem TwM.below {w wr : World} {g r : Nat} {mo mr : WaitM} {X : Nat → Prop} (h : TwM w wr g r mo mr X) : Below w.heap.size w wr := by obtain ⟨_, _, _, _, _, _, _, _, _, h⟩ := h; exact h
theorem TwM.grow {w wr w' : World} {g r : Nat} {mo mr : WaitM} {X : Nat → Prop} (h : TwM w wr g r mo mr X) (hb : Below wr.heap.size wr w') : TwM w w' g r mo mr X ∧ KpX X wr w' := by
  obtain ⟨v, va, vd, P, h1, h2, h3, h4, h5, h6⟩ := h
  exact ⟨⟨v, va, vd, P, h1.below hb, h2.below hb, h3, h4, fun k e => ⟨Nat.lt_of_lt_of_le (h5 k e).1 hb.size, (h5 k e).2⟩, h6.trans (hb.mono h6.size)⟩, fun k e => hb.block k (h5 k e).1⟩
theorem TwM.less {w wr : World} {g r : Nat} {mo mr : WaitM} {X Y : Nat → Prop} (h : TwM w wr g r mo mr X) (hY : ∀ k, Y k → X k) : TwM w wr g r mo mr Y := by
  obtain ⟨v, va, vd, P, h1, h2, h3, h4, h5, h6⟩ := h
  exact ⟨v, va, vd, P, h1, h2, h3, h4, fun k e => h5 k (hY k e), h6⟩
/-- A new block of others. -/
theorem TwM.block {w wr : World} {g r : Nat} {mo mr : WaitM} {X : Nat → Prop} (h : TwM w wr g r mo mr X) (ob : Obj) : TwM w (wr.alloc ob) g r mo mr (fun k => X k ∨ k = wr.heap.size) := by
  obtain ⟨v, va, vd, P, h1, h2, h3, h4, h5, h6⟩ := h
  have hb : Below wr.heap.size wr (wr.alloc ob) := (Below.refl _ _).alloc (Nat.le_refl _) _
  refine ⟨v, va, vd, P, h1.below hb, h2.below hb, h3, h4, fun k e => ?_, h6.trans (hb.mono h6.size)⟩
  rcases e with e | e
  · exact ⟨Nat.lt_of_lt_of_le (h5 k e).1 hb.size, (h5 k e).2⟩
  · subst e
    exact ⟨by simp, fun e' => by have := (h1.foot_in _ e').2; omega, fun e' => by have := (h2.foot_in _ e').2; omega⟩
theorem TwM.own {w wr w' : World} {g r : Nat} {mo mo' mr : WaitM} {X : Nat → Prop} {v u va vd : Value} {P : List AskP} (h1 : WaitV w.heap.size wr g mo v) (h2 : RwO w.heap.size wr r mr va vd P) (h3 : RwI mr P) (h4 : ∀ k, footW g v k → ¬ footR r va vd k) (h5 : ∀ k, X k → k < wr.heap.size ∧ ¬ footW g v k ∧ ¬ footR r va vd k) (h6 : Below w.heap.size w wr)
    (q1 : WaitV w.heap.size w' g mo' u) (q2 : Frm (footW g v) (footW g u) wr w') : TwM w w' g r mo' mr X ∧ KpX X wr w' := by
  have hk := q2.kept
  refine ⟨⟨u, va, vd, P, q1, h2.kept hk fun k e e' => h4 k e' e, h3, fun k e e' => ?_, fun k e => ⟨Nat.lt_of_lt_of_le (h5 k e).1 hk.size, fun e' => ?_, (h5 k e).2.2⟩, h6.trans (hk.below (fun k e => (h1.foot_in k e).1) h6.size)⟩, fun k e => hk.block k (h5 k e).1 (h5 k e).2.1⟩
  · rcases q2.foot k e with e1 | e1
    · exact h4 k e1 e'
    · have := (h2.foot_in k e').2; omega
  · rcases q2.foot k e' with e1 | e1
    · exact (h5 k e).2.1 e1
    · have := (h5 k e).1; omega
theorem TwM.ref {w wr w' : World} {g r : Nat} {mo mr mr' : WaitM} {X : Nat → Prop} {v va vd ua ud : Value} {P P' : List AskP} (h1 : WaitV w.heap.size wr g mo v) (h2 : RwO w.heap.size wr r mr va vd P) (h4 : ∀ k, footW g v k → ¬ footR r va vd k) (h5 : ∀ k, X k → k < wr.heap.size ∧ ¬ footW g v k ∧ ¬ footR r va vd k) (h6 : Below w.heap.size w wr)
    (q1 : RwO w.heap.size w' r mr' ua ud P') (q3 : RwI mr' P') (q2 : Frm (footR r va vd) (footR r ua ud) wr w') : TwM w w' g r mo mr' X ∧ KpX X wr w' := by
  have hk := q2.kept
  refine ⟨⟨v, ua, ud, P', h1.kept hk fun k e e' => h4 k e e', q1, q3, fun k e e' => ?_, fun k e => ⟨Nat.lt_of_lt_of_le (h5 k e).1 hk.size, (h5 k e).2.1, fun e' => ?_⟩, h6.trans (hk.below (fun k e => (h2.foot_in k e).1) h6.size)⟩, fun k e => hk.block k (h5 k e).1 (h5 k e).2.2⟩
  · rcases q2.foot k e' with e1 | e1
    · exact h4 k e e1
    · have := (h1.foot_in k e).2; omega
  · rcases q2.foot k e' with e1 | e1
    · exact (h5 k e).2.2 e1
    · have := (h5 k e).1; omega
theorem asks_kp {X : Nat → Prop} {B : Nat} {w w' : World} {v : Value} {C : List AskM} (h : AsksAt B w v C) (hk : KpX X w w') (hX : ∀ k, v.ownBlock = some k → X k) : AsksAt B w' v C := by
  obtain ⟨h1, h2 | ⟨g, cap, cur, rfl, hB, hcur, h3⟩⟩ := h
  · exact ⟨h1, .inl h2⟩
  · exact ⟨h1, .inr ⟨g, cap, cur, rfl, hB, (hk g (hX g rfl)).trans hcur, h3⟩⟩
theorem addO_any {w wr : World} {g r : Nat} {m mr : WaitM} {X : Nat → Prop} (h : TwM w wr g r m mr X) (hm : WaitIn m) (i : Int) (L : List Int) (hL : L.length = 13) (now : Int) (hlast : m.last < 1000000000000) :
    Calls Try.prog 10 #[.pointer (some ⟨g, 0, none⟩), .int .i64 i, .agg (hv L), .int .i64 now] wr fun e w' => e = .returned (.tuple #[.int .i64 (addW m i L now).2.1, .int .i64 (addW m i L now).2.2]) ∧ TwM w w' g r (addW m i L now).1 mr X ∧ KpX X wr w' := by
  obtain ⟨v, va, vd, P, h1, h2, h3, h4, h5, h6⟩ := h
  refine (addW_any w.heap.size wr g m v h1 hm i L hL now hlast).mono ?_
  rintro e w' ⟨rfl, u, q1, q2⟩
  exact ⟨rfl, TwM.own h1 h2 h3 h4 h5 h6 q1 q2⟩
theorem addR_any {w wr : World} {g r : Nat} {mo m : WaitM} {X : Nat → Prop} (h : TwM w wr g r mo m X) (hm : WaitIn m) (i : Int) (L : List Int) (hL : L.length = 13) (now : Int) (hlast : m.last ≤ 99999) :
    Calls Try.prog 11 #[.pointer (some ⟨r, 0, none⟩), .int .i64 i, .agg (hv L), .int .i64 now] wr fun e w' => e = .returned (.tuple #[.int .i64 (addW m i L now).2.1, .int .i64 (addW m i L now).2.2]) ∧ TwM w w' g r mo (addW m i L now).1 X ∧ KpX X wr w' := by
  obtain ⟨v, va, vd, P, h1, h2, h3, h4, h5, h6⟩ := h
  refine (raddW_any w.heap.size wr r m va vd P h2 h3 hm i L hL now hlast).mono ?_
  rintro e w' ⟨rfl, ua, ud, P', q1, q2, q3⟩
  exact ⟨rfl, TwM.ref h1 h2 h4 h5 h6 q1 q2 q3⟩
theorem ansO_any {w wr : World} {g r : Nat} {m mr : WaitM} {X : Nat → Prop} (h : TwM w wr g r m mr X) (hm : WaitIn m) (s : Int) :
    Calls Try.prog 12 #[.pointer (some ⟨g, 0, none⟩), .int .i64 s] wr fun e w' => e = .returned (.tuple #[.agg (askV ((answerW m s).2.getD zeroA)), .bool (answerW m s).2.isSome]) ∧ TwM w w' g r (answerW m s).1 mr X ∧ KpX X wr w' := by
  obtain ⟨v, va, vd, P, h1, h2, h3, h4, h5, h6⟩ := h
  refine (answerK_any w.heap.size wr g m v h1 hm s).mono ?_
  rintro e w' ⟨rfl, u, q1, q2⟩
  exact ⟨rfl, TwM.own h1 h2 h3 h4 h5 h6 q1 q2⟩
theorem ansR_any {w wr : World} {g r : Nat} {mo m : WaitM} {X : Nat → Prop} (h : TwM w wr g r mo m X) (s : Int) (hlast : m.last ≤ 99999) :
    Calls Try.prog 13 #[.pointer (some ⟨r, 0, none⟩), .int .i64 s] wr fun e w' => e = .returned (.tuple #[.agg (askV ((answerW m s).2.getD zeroA)), .bool (answerW m s).2.isSome]) ∧ TwM w w' g r mo (answerW m s).1 X ∧ KpX X wr w' := by
  obtain ⟨v, va, vd, P, h1, h2, h3, h4, h5, h6⟩ := h
  refine (ranswerK_any w.heap.size wr r m va vd P h2 h3 s hlast).mono ?_
  rintro e w' ⟨rfl, ua, ud, P', q1, q2, q3⟩
  exact ⟨rfl, TwM.ref h1 h2 h4 h5 h6 q1 q2 q3⟩
theorem tickO_any {w wr : World} {g r : Nat} {m mr : WaitM} {X : Nat → Prop} (h : TwM w wr g r m mr X) (hm : WaitIn m) (now : Int) :
    Calls Try.prog 14 #[.pointer (some ⟨g, 0, none⟩), .int .i64 now] wr fun e w' => ∃ a b, e = .returned (.tuple #[a, b]) ∧ AsksAt w.heap.size w' a (againW m now) ∧ AsksAt w.heap.size w' b (goneW m now) ∧ TwM w w' g r (tickW m now) mr (fun k => X k ∨ rowX a k ∨ rowX b k) ∧ KpX X wr w' := by
  obtain ⟨v, va, vd, P, h1, h2, h3, h4, h5, h6⟩ := h
  refine (tickK_any w.heap.size wr g m v h1 hm now).mono ?_
  rintro e w' ⟨a, b, u, rfl, hr, q1, q2⟩
  obtain ⟨⟨v', va', vd', P', t1, t2, t3, t4, t5, t6⟩, t7⟩ := TwM.own h1 h2 h3 h4 h5 h6 q1 q2
  have kk := q2.kept
  refine ⟨a, b, rfl, hr.b.base h6.size, hr.c.base h6.size, ⟨u, va, vd, P, q1, h2.kept kk fun k e e' => h4 k e' e, h3, fun k e e' => ?_, fun k e => ?_, t6⟩, t7⟩
  · rcases q2.foot k e with e1 | e1
    · exact h4 k e1 e'
    · have := (h2.foot_in k e').2; omega
  · rcases e with e | e | e
    · refine ⟨Nat.lt_of_lt_of_le (h5 k e).1 kk.size, fun e' => ?_, (h5 k e).2.2⟩
      rcases q2.foot k e' with e1 | e1
      · exact (h5 k e).2.1 e1
      · have := (h5 k e).1; omega
    · have hl := hr.b.lt k e
      refine ⟨hl.2, fun e' => ?_, fun e' => by have := (h2.foot_in k e').2; omega⟩
      rcases e' with e' | e'
      · have := (h1.foot_in g (.inl rfl)).2; omega
      · exact hr.ab.ne k e' e
    · have hl := hr.c.lt k e
      refine ⟨hl.2, fun e' => ?_, fun e' => by have := (h2.foot_in k e').2; omega⟩
      rcases e' with e' | e'
      · have := (h1.foot_in g (.inl rfl)).2; omega
      · exact hr.ac.ne k e' e
theorem tickR_any {w wr : World} {g r : Nat} {mo m : WaitM} {X : Nat → Prop} (h : TwM w wr g r mo m X) (hm : WaitIn m) (now : Int) (hlast : m.last ≤ 99999) :
    Calls Try.prog 15 #[.pointer (some ⟨r, 0, none⟩), .int .i64 now] wr fun e w' => ∃ a b, e = .returned (.tuple #[a, b]) ∧ AsksAt w.heap.size w' a (againW m now) ∧ AsksAt w.heap.size w' b (goneW m now) ∧ TwM w w' g r mo (tickW m now) X ∧ KpX X wr w' := by
  obtain ⟨v, va, vd, P, h1, h2, h3, h4, h5, h6⟩ := h
  refine (rtickK_any w.heap.size wr r m va vd P h2 h3 hm now hlast).mono ?_
  rintro e w' ⟨a, b, rfl, r1, r2, q1, q2, q3⟩
  exact ⟨a, b, rfl, r1.base h6.size, r2.base h6.size, TwM.ref h1 h2 h4 h5 h6 q1 q2 q3⟩
theorem clrO_any {w wr : World} {g r : Nat} {m mr : WaitM} {X : Nat → Prop} (h : TwM w wr g r m mr X) :
    Calls Try.prog 17 #[.pointer (some ⟨g, 0, none⟩)] wr fun e w' => ∃ u, e = .returned u ∧ AsksAt w.heap.size w' u m.l ∧ TwM w w' g r (clearW m) mr (fun k => X k ∨ rowX u k) ∧ KpX X wr w' := by
  obtain ⟨v, va, vd, P, h1, h2, h3, h4, h5, h6⟩ := h
  refine (clearW_any w.heap.size wr g m v h1).mono ?_
  rintro e w' ⟨rfl, r1, q1, q2⟩
  obtain ⟨⟨v', va', vd', P', t1, t2, t3, t4, t5, t6⟩, t7⟩ := TwM.own h1 h2 h3 h4 h5 h6 q1 q2
  have kk := q2.kept
  have ng : v.ownBlock ≠ some g := own_tyK h1.own h1.blk (by decide)
  refine ⟨v, rfl, r1, ⟨_, va, vd, P, q1, h2.kept kk fun k e e' => h4 k e' e, h3, fun k e e' => ?_, fun k e => ?_, t6⟩, t7⟩
  · rcases q2.foot k e with e1 | e1
    · exact h4 k e1 e'
    · have := (h2.foot_in k e').2; omega
  · rcases e with e | e
    · refine ⟨Nat.lt_of_lt_of_le (h5 k e).1 kk.size, fun e' => ?_, (h5 k e).2.2⟩
      rcases q2.foot k e' with e1 | e1
      · exact (h5 k e).2.1 e1
      · have := (h5 k e).1; omega
    · refine ⟨(r1.lt k e).2, fun e' => ?_, h4 k (.inr e)⟩
      rcases e' with e' | e'
      · rw [e'] at e; exact ng e
      · cases e'
theorem clrR_any {w wr : World} {g r : Nat} {mo m : WaitM} {X : Nat → Prop} (h : TwM w wr g r mo m X) (hlast : m.last ≤ 99999) :
    Calls Try.prog 18 #[.pointer (some ⟨r, 0, none⟩)] wr fun e w' => ∃ u, e = .returned u ∧ AsksAt w.heap.size w' u m.l ∧ TwM w w' g r mo (clearW m) X ∧ KpX X wr w' := by
  obtain ⟨v, va, vd, P, h1, h2, h3, h4, h5, h6⟩ := h
  refine (rclearW_any w.heap.size wr r m va vd P h2 h3 hlast).mono ?_
  rintro e w' ⟨⟨u, rfl, r1⟩, ua, ud, P', q1, q2, q3⟩
  exact ⟨u, rfl, r1.base h6.size, TwM.ref h1 h2 h4 h5 h6 q1 q2 q3⟩
theorem lstO_any {w wr : World} {g r : Nat} {m mr : WaitM} {X : Nat → Prop} (h : TwM w wr g r m mr X) (hm : WaitIn m) :
    Calls Try.prog 19 #[.pointer (some ⟨g, 0, none⟩)] wr fun e w' => ∃ u, e = .returned u ∧ AsksAt w.heap.size w' u m.l ∧ TwM w w' g r m mr X ∧ Below wr.heap.size wr w' := by
  have h0 := h
  obtain ⟨v, va, vd, P, h1, h2, h3, h4, h5, h6⟩ := h
  refine (listW_any w.heap.size wr g m v h1 hm).mono ?_
  rintro e w' ⟨⟨u, rfl, r1⟩, hb⟩
  exact ⟨u, rfl, r1.base h6.size, (h0.grow hb).1, hb⟩
theorem lstR_any {w wr : World} {g r : Nat} {mo m : WaitM} {X : Nat → Prop} (h : TwM w wr g r mo m X) (hlast : m.last ≤ 99999) :
    Calls Try.prog 20 #[.pointer (some ⟨r, 0, none⟩)] wr fun e w' => ∃ u, e = .returned u ∧ AsksAt w.heap.size w' u m.l ∧ TwM w w' g r mo m X ∧ Below wr.heap.size wr w' := by
  have h0 := h
  obtain ⟨v, va, vd, P, h1, h2, h3, h4, h5, h6⟩ := h
  have hl := rlistW_any w.heap.size wr r m va vd P h2 (by have := h3.last; omega)
  rw [h3.rest] at hl
  refine hl.mono ?_
  rintro e w' ⟨⟨u, rfl, r1⟩, hb⟩
  exact ⟨u, rfl, r1.base h6.size, (h0.grow hb).1, hb⟩
theorem newT (w w2 w3 : World) (room tries time : Int) (h1 : WaitV w.heap.size w2 w.heap.size ⟨room, tries, time, [], 0⟩ (.slice none 0 0)) (hb : Below w.heap.size w w2) (h2 : RwO w2.heap.size w3 w2.heap.size ⟨room, tries, time, [], 0⟩ (.slice none 0 0) (.slice none 0 0) []) (hb2 : Below w2.heap.size w2 w3) : TwM w w3 w.heap.size w2.heap.size ⟨room, tries, time, [], 0⟩ ⟨room, tries, time, [], 0⟩ (fun _ => False) := by
  refine ⟨_, _, _, [], h1.below hb2, ⟨h2.blk, h2.all.base hb.size, VOwn.base h2.dn hb.size, hb.size⟩, ⟨rfl, fun i p e => by simp at e, rfl, fun p hp => absurd hp List.not_mem_nil⟩, fun k e e' => ?_, fun k e => e.elim, hb.trans (hb2.mono hb.size)⟩
  have := (h1.foot_in k e).2
  rcases e' with e' | e' | e'
  · omega
  · cases e'
  · cases e'
end Go.Proofs.Ytagogbodkbbikaa
namespace Go.Proofs.Ytagogbodkbbikaa
open Go Go.RowKit
set_option maxRecDepth 20000

/-! The object, made by the caller. -/
def OwnS (w wr : World) (g : Nat) (m : WaitM) : Prop := ∃ v, WaitV w.heap.size wr g m v ∧ Below w.heap.size w wr
theorem OwnS.below {w wr : World} {g : Nat} {m : WaitM} (h : OwnS w wr g m) : Below w.heap.size w wr := by obtain ⟨_, _, h⟩ := h; exact h
theorem OwnS.grow {w wr w' : World} {g : Nat} {m : WaitM} (h : OwnS w wr g m) (hb : Below wr.heap.size wr w') : OwnS w w' g m := by
  obtain ⟨v, h1, h2⟩ := h
  exact ⟨v, h1.below hb, h2.trans (hb.mono h2.size)⟩
theorem OwnS.step {w wr w' : World} {g : Nat} {m m' : WaitM} {v u : Value} (h1 : WaitV w.heap.size wr g m v) (h2 : Below w.heap.size w wr) (h3 : WaitV w.heap.size w' g m' u) (h4 : Frm (footW g v) (footW g u) wr w') : OwnS w w' g m' :=
  ⟨u, h3, h2.trans (h4.kept.below (fun k e => (h1.foot_in k e).1) h2.size)⟩
/-- Rows of one's own outside the object stay. -/
theorem OwnS.keepX {X : Nat → Prop} {w wr w' : World} {g : Nat} {m : WaitM} (h : OwnS w wr g m) (hk : Kept X wr w') (hX : ∀ v, WaitV w.heap.size wr g m v → ∀ k, footW g v k → ¬ X k) (hB : ∀ k, X k → w.heap.size ≤ k) : OwnS w w' g m := by
  obtain ⟨v, h1, h2⟩ := h
  exact ⟨v, h1.kept hk (hX v h1), h2.trans (hk.below hB h2.size)⟩
theorem newS_any (room tries time : Int) (h : OkNew room tries time) (w : World) :
    Calls Try.prog 8 #[.int .i64 room, .int .i64 tries, .int .i64 time] w fun e w' => e = .returned (.tuple #[.pointer (some ⟨w.heap.size, 0, none⟩), .int .i64 0]) ∧ OwnS w w' w.heap.size ⟨room, tries, time, [], 0⟩ :=
  (newWt_yes room tries time h w).mono fun _ _ hh => ⟨hh.1, _, hh.2.1, hh.2.2⟩
theorem addS_any {w wr : World} {g : Nat} {m : WaitM} (h : OwnS w wr g m) (hm : WaitIn m) (i : Int) (L : List Int) (hL : L.length = 13) (now : Int) (hlast : m.last < 1000000000000) :
    Calls Try.prog 10 #[.pointer (some ⟨g, 0, none⟩), .int .i64 i, .agg (hv L), .int .i64 now] wr fun e w' => e = .returned (.tuple #[.int .i64 (addW m i L now).2.1, .int .i64 (addW m i L now).2.2]) ∧ OwnS w w' g (addW m i L now).1 := by
  obtain ⟨v, h1, h2⟩ := h
  refine (addW_any w.heap.size wr g m v h1 hm i L hL now hlast).mono ?_
  rintro e w' ⟨rfl, u, h3, h4⟩
  exact ⟨rfl, OwnS.step h1 h2 h3 h4⟩
theorem tickS_any {w wr : World} {g : Nat} {m : WaitM} (h : OwnS w wr g m) (hm : WaitIn m) (now : Int) :
    Calls Try.prog 14 #[.pointer (some ⟨g, 0, none⟩), .int .i64 now] wr fun e w' => ∃ a b, e = .returned (.tuple #[a, b]) ∧ AsksAt w.heap.size w' a (againW m now) ∧ AsksAt w.heap.size w' b (goneW m now) ∧ OwnS w w' g (tickW m now) := by
  obtain ⟨v, h1, h2⟩ := h
  refine (tickK_any w.heap.size wr g m v h1 hm now).mono ?_
  rintro e w' ⟨a, b, u, rfl, hr, h3, h4⟩
  exact ⟨a, b, rfl, hr.b.base h2.size, hr.c.base h2.size, OwnS.step h1 h2 h3 h4⟩
theorem listS_any {w wr : World} {g : Nat} {m : WaitM} (h : OwnS w wr g m) (hm : WaitIn m) :
    Calls Try.prog 19 #[.pointer (some ⟨g, 0, none⟩)] wr fun e w' => ∃ u, e = .returned u ∧ AsksAt w.heap.size w' u m.l ∧ OwnS w w' g m := by
  obtain ⟨v, h1, h2⟩ := h
  refine (listW_any w.heap.size wr g m v h1 hm).mono ?_
  rintro e w' ⟨⟨u, rfl, h3⟩, h4⟩
  exact ⟨u, rfl, h3.base h2.size, v, h1.below h4, h2.trans (h4.mono h2.size)⟩
end Go.Proofs.Ytagogbodkbbikaa
namespace Go.Proofs.Ytagogbodkbbikaa
open Go Go.RowKit
set_option maxRecDepth 20000

/-! Who was added, and who is over. -/
def seqL (n : Nat) : List Int := (List.range n).map fun (p : Nat) => (p : Int) + 1
def stL (n : Nat) (A : List Int) : List Int := (List.range n).map fun (p : Nat) => if (p : Int) + 1 ∈ A then 1 else 2
def iL (l : List Int) : List Value := l.map (Value.int .i64)
theorem seqL_succ (n : Nat) : seqL (n + 1) = seqL n ++ [(n : Int) + 1] := by unfold seqL; rw [List.range_succ, List.map_append]; rfl
theorem seqL_len (n : Nat) : (seqL n).length = n := by unfold seqL; simp
theorem stL_len (n : Nat) (A : List Int) : (stL n A).length = n := by unfold stL; simp
theorem stL_congr {n : Nat} {A A' : List Int} (h : ∀ p : Nat, p < n → ((p : Int) + 1 ∈ A ↔ (p : Int) + 1 ∈ A')) : stL n A = stL n A' := by
  unfold stL
  refine List.map_congr_left fun p hp => ?_
  have := h p (List.mem_range.1 hp)
  by_cases hc : (p : Int) + 1 ∈ A
  · rw [if_pos hc, if_pos (this.1 hc)]
  · rw [if_neg hc, if_neg fun e => hc (this.2 e)]
theorem stL_succ (n : Nat) (A : List Int) : stL (n + 1) (A ++ [(n : Int) + 1]) = stL n A ++ [1] := by
  have e : stL n A = stL n (A ++ [(n : Int) + 1]) := stL_congr fun p hp => by
    rw [List.mem_append, List.mem_singleton]
    constructor
    · exact .inl
    · rintro (q | q)
      · exact q
      · omega
  rw [e]
  unfold stL
  rw [List.range_succ, List.map_append]
  simp
theorem seqL_at {n p : Nat} (h : p < n) : (seqL n)[p]? = some ((p : Int) + 1) := by
  unfold seqL
  rw [List.getElem?_map, List.getElem?_range h]
  rfl
theorem stL_at {n p : Nat} {A : List Int} (h : p < n) (ha : (p : Int) + 1 ∈ A) : (stL n A)[p]? = some 1 := by
  unfold stL
  rw [List.getElem?_map, List.getElem?_range h, Option.map_some, if_pos ha]
theorem stL_set {n p : Nat} {A : List Int} (h : p < n) : (stL n A).set p 2 = stL n (A.filter fun s => !(s == (p : Int) + 1)) := by
  apply List.ext_getElem?
  intro j
  by_cases hj : j < n
  · by_cases hpj : p = j
    · subst hpj
      rw [List.getElem?_set_self (by rw [stL_len]; exact h)]
      unfold stL
      rw [List.getElem?_map, List.getElem?_range h, Option.map_some, if_neg]
      intro hc
      rw [List.mem_filter] at hc
      simp at hc
    · rw [List.getElem?_set_ne hpj]
      unfold stL
      rw [List.getElem?_map, List.getElem?_map, List.getElem?_range hj, Option.map_some, Option.map_some]
      congr 1
      have : ((j : Int) + 1 ∈ A) ↔ ((j : Int) + 1 ∈ A.filter fun s => !(s == (p : Int) + 1)) := by
        rw [List.mem_filter]
        constructor
        · intro q
          refine ⟨q, ?_⟩
          simp
          omega
        · exact fun q => q.1
      by_cases hc : (j : Int) + 1 ∈ A
      · rw [if_pos hc, if_pos (this.1 hc)]
      · rw [if_neg hc, if_neg fun e => hc (this.2 e)]
  · rw [List.getElem?_eq_none (by rw [List.length_set, stL_len]; omega), List.getElem?_eq_none (by rw [stL_len]; omega)]
/-- Open ones, when the first k of D are over. -/
def openA (A : List Int) (D : List AskM) (k : Nat) : List Int := A.filter fun s => !((D.take k).map (·.seq)).contains s
theorem openA_zero (A : List Int) (D : List AskM) : openA A D 0 = A := by unfold openA; simp
theorem openA_mem {A : List Int} {D : List AskM} {k : Nat} {s : Int} : s ∈ openA A D k ↔ s ∈ A ∧ s ∉ (D.take k).map (·.seq) := by
  unfold openA
  rw [List.mem_filter, Bool.not_eq_true', List.contains_eq_mem]
  simp
structure DoneS (n : Nat) (A : List Int) (D : List AskM) : Prop where
  mem : ∀ d ∈ D, d.seq ∈ A ∧ 1 ≤ d.seq ∧ d.seq ≤ (n : Int)
  rise : D.Pairwise fun x y => x.seq < y.seq
theorem done_at {n : Nat} {A : List Int} {D : List AskM} (h : DoneS n A D) {k : Nat} {d : AskM} (hd : D[k]? = some d) : d.seq ∈ openA A D k ∧ ∃ p : Nat, p < n ∧ d.seq = (p : Int) + 1 ∧ stL n (openA A D (k + 1)) = (stL n (openA A D k)).set p 2 := by
  obtain ⟨h1, h2, h3⟩ := h.mem d (List.mem_of_getElem? hd)
  have hk := (List.getElem?_eq_some_iff.1 hd).1
  have hn : d.seq ∉ (D.take k).map (·.seq) := by
    intro hc
    obtain ⟨x, hx, e⟩ := List.mem_map.1 hc
    obtain ⟨j, hj⟩ := List.getElem?_of_mem hx
    have hjk : j < k := by have := (List.getElem?_eq_some_iff.1 hj).1; rw [List.length_take] at this; omega
    rw [List.getElem?_take_of_lt hjk] at hj
    have hjl := (List.getElem?_eq_some_iff.1 hj).1
    have := (List.pairwise_iff_getElem.1 h.rise) j k hjl hk hjk
    rw [(List.getElem?_eq_some_iff.1 hj).2, (List.getElem?_eq_some_iff.1 hd).2] at this
    omega
  refine ⟨openA_mem.2 ⟨h1, hn⟩, (d.seq - 1).toNat, by omega, by omega, ?_⟩
  rw [stL_set (by omega)]
  refine stL_congr fun p hp => ?_
  rw [openA_mem, List.mem_filter, openA_mem, List.take_add_one, hd, Option.toList_some, List.map_append, List.mem_append, List.map_cons, List.map_nil, List.mem_singleton]
  have e : (((d.seq - 1).toNat : Nat) : Int) + 1 = d.seq := by omega
  rw [e]
  simp only [Bool.not_eq_true', beq_eq_false_iff_ne, ne_eq, not_or]
  constructor
  · rintro ⟨q1, q2, q3⟩; exact ⟨⟨q1, q2⟩, q3⟩
  · rintro ⟨⟨q1, q2⟩, q3⟩; exact ⟨q1, q2, q3⟩
def seqA (m : WaitM) : List Int := m.l.map (·.seq)
theorem seqA_in {m : WaitM} (h : WaitOk m) {x : AskM} (hx : x ∈ m.l) : x.seq ∈ seqA m ∧ 1 ≤ x.seq ∧ x.seq ≤ (m.last : Int) := ⟨List.mem_map.2 ⟨x, hx, rfl⟩, h.seq x hx⟩
/-- When all of D are over. -/
theorem done_all {n : Nat} {A A' : List Int} {D : List AskM} {k : Nat} (hk : D.length ≤ k) (h : ∀ s, (s ∈ A ∧ s ∉ D.map (·.seq)) ↔ s ∈ A') : stL n (openA A D k) = stL n A' := by
  refine stL_congr fun p _ => ?_
  rw [openA_mem, List.take_of_length_le hk]
  exact h _
theorem nobody (A : List Int) : ∀ s, (s ∈ A ∧ s ∉ ([] : List AskM).map (·.seq)) ↔ s ∈ A := fun s => by simp
theorem done_nil (n : Nat) (A : List Int) : DoneS n A [] := ⟨fun _ hd => absurd hd List.not_mem_nil, List.Pairwise.nil⟩
theorem done_ans {m : WaitM} (h : WaitOk m) {s : Int} {x : AskM} (hx : (answerW m s).2 = some x) : DoneS m.last (seqA m) [x] ∧ (∀ q, (q ∈ seqA m ∧ q ∉ [x].map (·.seq)) ↔ q ∈ seqA (answerW m s).1) ∧ (answerW m s).1.last = m.last := by
  unfold answerW at hx ⊢
  cases hf : m.l.find? (seqW s) with
  | none => rw [hf] at hx; cases hx
  | some y =>
    rw [hf] at hx
    obtain rfl : y = x := by simpa using hx
    have hy := List.mem_of_find?_eq_some hf
    have hs : y.seq = s := by have := List.find?_some hf; unfold seqW at this; simpa using this
    refine ⟨⟨fun d hd => by obtain rfl := List.mem_singleton.1 hd; exact seqA_in h hy, List.pairwise_singleton _ _⟩, fun q => ?_, rfl⟩
    show _ ↔ q ∈ (m.l.filter fun x => !(seqW s x)).map (·.seq)
    unfold seqA seqW
    rw [List.map_cons, List.map_nil, List.mem_singleton, hs, List.mem_map, List.mem_map]
    constructor
    · rintro ⟨⟨z, hz, rfl⟩, hq⟩
      exact ⟨z, List.mem_filter.2 ⟨hz, by simpa using hq⟩, rfl⟩
    · rintro ⟨z, hz, rfl⟩
      obtain ⟨h1, h2⟩ := List.mem_filter.1 hz
      exact ⟨⟨z, h1, rfl⟩, by simpa using h2⟩
theorem done_tick {m : WaitM} (h : WaitOk m) (now : Int) : DoneS m.last (seqA m) (goneW m now) ∧ (∀ q, (q ∈ seqA m ∧ q ∉ (goneW m now).map (·.seq)) ↔ q ∈ seqA (tickW m now)) := by
  refine ⟨⟨fun d hd => seqA_in h (gone_out h hd).1, h.rise.sublist List.filter_sublist⟩, fun q => ?_⟩
  unfold seqA
  rw [List.mem_map, List.mem_map, List.mem_map]
  constructor
  · rintro ⟨⟨x, hx, rfl⟩, hq⟩
    rcases tick_or (now := now) hx with e | ⟨y, hy, e⟩
    · exact absurd ⟨x, e, rfl⟩ hq
    · exact ⟨y, hy, e⟩
  · rintro ⟨y, hy, rfl⟩
    obtain ⟨x, hx, hxy⟩ := List.mem_filterMap.1 hy
    refine ⟨⟨x, hx, (step_seq hxy).symm⟩, ?_⟩
    rintro ⟨z, hz, e⟩
    exact (gone_out h hz).2 y hy e.symm
theorem done_clear {m : WaitM} (h : WaitOk m) : DoneS m.last (seqA m) m.l ∧ (∀ q, (q ∈ seqA m ∧ q ∉ m.l.map (·.seq)) ↔ q ∈ seqA (clearW m)) := by
  refine ⟨⟨fun d hd => seqA_in h hd, h.rise⟩, fun q => ?_⟩
  show _ ↔ q ∈ []
  unfold seqA
  constructor
  · rintro ⟨h1, h2⟩; exact absurd h1 h2
  · intro hc; exact absurd hc List.not_mem_nil
theorem again_ok {m : WaitM} (h : WaitOk m) {now : Int} {y : AskM} (hy : y ∈ againW m now) : y.seq ∈ seqA m ∧ 1 ≤ y.seq ∧ y.seq ≤ (m.last : Int) ∧ y.sent ≤ m.tries + 1 := by
  obtain ⟨h1, x, hx, e⟩ := again_in hy
  have := seqA_in h hx
  rw [e]
  exact ⟨this.1, this.2.1, this.2.2, ((tick_okW h now).sent y h1).2⟩
/-! In memory. -/
structure OnS (w wr : World) (g : Nat) (m : WaitM) (vs vt : Value) (A : List Int) : Prop where
  own : OwnS w wr g m
  sq : VOwn 3 w.heap.size wr vs (iL (seqL m.last))
  st : VOwn 3 w.heap.size wr vt (iL (stL m.last A))
  ap : ApartR vs.ownBlock vt.ownBlock
theorem OnS.grow {w wr w' : World} {g : Nat} {m : WaitM} {vs vt : Value} {A : List Int} (h : OnS w wr g m vs vt A) (hb : Below wr.heap.size wr w') : OnS w w' g m vs vt A := ⟨h.own.grow hb, h.sq.below hb, h.st.below hb, h.ap⟩
theorem foot_int {B : Nat} {w : World} {g : Nat} {m : WaitM} {v y : Value} {L : List Value} (h : WaitV B w g m v) (hy : VOwn 3 B w y L) : ∀ k, y.ownBlock = some k → ¬ footW g v k := fun k e e' => by
  rcases e' with rfl | e'
  · exact own_tyK hy h.blk (by decide) e
  · obtain ⟨_, ⟨rfl, _⟩ | ⟨g', cap, cur, rfl, _, h1, _⟩⟩ := h.own
    · cases e'
    · have hk : g' = k := by simpa [Value.ownBlock] using e'
      exact own_tyK hy h1 (by decide) (by rw [hk]; exact e)
theorem OnS.step {w wr w' : World} {g : Nat} {m m' : WaitM} {v u vs vt : Value} {A : List Int} (h : OnS w wr g m vs vt A) (h1 : WaitV w.heap.size wr g m v) (h3 : WaitV w.heap.size w' g m' u) (h4 : Frm (footW g v) (footW g u) wr w') (hl : m'.last = m.last) : OnS w w' g m' vs vt A :=
  ⟨OwnS.step h1 h.own.below h3 h4, by rw [hl]; exact h.sq.kept h4.kept (foot_int h1 h.sq), by rw [hl]; exact h.st.kept h4.kept (foot_int h1 h.st), h.ap⟩
theorem addN_any {w wr : World} {g : Nat} {m : WaitM} {vs vt : Value} {A : List Int} (h : OnS w wr g m vs vt A) (hm : WaitIn m) (i : Int) (L : List Int) (hL : L.length = 13) (now : Int) (hlast : m.last < 1000000000000) :
    Calls Try.prog 10 #[.pointer (some ⟨g, 0, none⟩), .int .i64 i, .agg (hv L), .int .i64 now] wr fun e w' => e = .returned (.tuple #[.int .i64 (addW m i L now).2.1, .int .i64 (addW m i L now).2.2]) ∧ OwnS w w' g (addW m i L now).1 ∧ VOwn 3 w.heap.size w' vs (iL (seqL m.last)) ∧ VOwn 3 w.heap.size w' vt (iL (stL m.last A)) := by
  obtain ⟨v, h1, h2⟩ := h.own
  refine (addW_any w.heap.size wr g m v h1 hm i L hL now hlast).mono ?_
  rintro e w' ⟨rfl, u, h3, h4⟩
  exact ⟨rfl, OwnS.step h1 h2 h3 h4, h.sq.kept h4.kept (foot_int h1 h.sq), h.st.kept h4.kept (foot_int h1 h.st)⟩
theorem tickN_any {w wr : World} {g : Nat} {m : WaitM} {vs vt : Value} {A : List Int} (h : OnS w wr g m vs vt A) (hm : WaitIn m) (now : Int) :
    Calls Try.prog 14 #[.pointer (some ⟨g, 0, none⟩), .int .i64 now] wr fun e w' => ∃ a b, e = .returned (.tuple #[a, b]) ∧ AsksAt w.heap.size w' a (againW m now) ∧ AsksAt w.heap.size w' b (goneW m now) ∧ OnS w w' g (tickW m now) vs vt A := by
  obtain ⟨v, h1, h2⟩ := h.own
  refine (tickK_any w.heap.size wr g m v h1 hm now).mono ?_
  rintro e w' ⟨a, b, u, rfl, hr, h3, h4⟩
  exact ⟨a, b, rfl, hr.b.base h2.size, hr.c.base h2.size, h.step h1 h3 h4 rfl⟩
theorem answerN_any {w wr : World} {g : Nat} {m : WaitM} {vs vt : Value} {A : List Int} (h : OnS w wr g m vs vt A) (hm : WaitIn m) (s : Int) (hl : (answerW m s).1.last = m.last) :
    Calls Try.prog 12 #[.pointer (some ⟨g, 0, none⟩), .int .i64 s] wr fun e w' => e = .returned (.tuple #[.agg (askV ((answerW m s).2.getD zeroA)), .bool (answerW m s).2.isSome]) ∧ OnS w w' g (answerW m s).1 vs vt A := by
  obtain ⟨v, h1, h2⟩ := h.own
  refine (answerK_any w.heap.size wr g m v h1 hm s).mono ?_
  rintro e w' ⟨rfl, u, h3, h4⟩
  exact ⟨rfl, h.step h1 h3 h4 hl⟩
theorem clearN_any {w wr : World} {g : Nat} {m : WaitM} {vs vt : Value} {A : List Int} (h : OnS w wr g m vs vt A) :
    Calls Try.prog 17 #[.pointer (some ⟨g, 0, none⟩)] wr fun e w' => ∃ u, e = .returned u ∧ AsksAt w.heap.size w' u m.l ∧ OnS w w' g (clearW m) vs vt A := by
  obtain ⟨v, h1, h2⟩ := h.own
  refine (clearW_any w.heap.size wr g m v h1).mono ?_
  rintro e w' ⟨rfl, h3, h4, h5⟩
  exact ⟨v, rfl, h3, h.step h1 h4 h5 rfl⟩
/-- One is over. -/
theorem OnS.over {w wr : World} {g : Nat} {m : WaitM} {vs : Value} {gt nt ct : Nat} {A A' : List Int} (h : OnS w wr g m vs (.slice (some ⟨gt, 0, none⟩) nt ct) A) {p : Nat} (he : stL m.last A' = (stL m.last A).set p 2) : OnS w (wr.setCell ⟨gt, p, none⟩ (.int .i64 2)) g m vs (.slice (some ⟨gt, 0, none⟩) nt ct) A' ∧ wr.grownBy (wr.setCell ⟨gt, p, none⟩ (.int .i64 2)) (some gt) := by
  have hg := h.st.setBelow p (.int .i64 2)
  have hk : Kept (rowX (.slice (some ⟨gt, 0, none⟩) nt ct)) wr (wr.setCell ⟨gt, p, none⟩ (.int .i64 2)) := Kept.of_grown hg fun _ e => e
  refine ⟨⟨h.own.keepX hk (fun v hv k e e' => foot_int hv h.st k e' e) (fun k e => (h.st.lt k e).1), h.sq.kept hk fun k e e' => h.ap.ne k e e', ?_, h.ap⟩, hg⟩
  rw [he]
  have := h.st.set p (.int .i64 2)
  unfold iL at this ⊢
  rw [List.map_set]
  exact this
def placeN (n : Nat) (s : Int) : Int := if 1 ≤ s ∧ s ≤ (n : Int) then s - 1 else -1
set_option maxHeartbeats 4000000 in
theorem place_any (w : World) (vs : Value) (n : Nat) (h : VSl w vs (iL (seqL n))) (s : Int) :
    Calls Try.prog 21 #[vs, .int .i64 s] w fun e w' => e = .returned (.int .i64 (placeN n s)) ∧ w' = w := by
  have hl : (iL (seqL n)).length = n := by unfold iL; rw [List.length_map, seqL_len]
  obtain ⟨o, cap, hv, hc1, hc2⟩ := h.slice
  rw [hl] at hv hc1
  subst hv
  have HV : Hid (VSl w (.slice o n cap) (iL (seqL n))) := h
  unfold maxLen at hc2
  clear h hl
  go_enter Try.func21, Try.ntmps21
  go_wp2_with fail
  go_loopw [5] (fun s5 wr => ∃ k : Nat, k ≤ n ∧ s5 = .int .i64 (k : Int) ∧ Hid (s ≤ 0 ∨ (k : Int) < s) ∧ wr = w) (fun s5 _ => n - (intOf s5).toNat)
  case atStart => exact ⟨0, Nat.zero_le _, rfl, by show _ ∨ _; omega, rfl⟩
  case round =>
    obtain ⟨k, hk, rfl, HK, rfl⟩ := hrel
    by_cases hlt : k < n
    · have hlt' : (k : Int) < (n : Int) := by omega
      obtain ⟨g', off, c, rfl, hcd, hck⟩ := HV.out.at k hlt
      unfold iL at hck
      rw [List.getElem?_map, seqL_at hlt, Option.map_some] at hck
      have hce := (Option.some.inj hck).symm
      rw [hce] at hcd
      clear hck hce
      by_cases e1 : (k : Int) + 1 = s
      · have HP : Hid (placeN n s = (k : Int)) := by show _ = _; unfold placeN; rw [if_pos (by omega)]; omega
        have d1 : ((k : Int) + 1 == s) = true := by simpa using e1
        clear e1
        go_wp2_with fail
        go_ret
        exact ⟨by rw [HP.out]; rfl, rfl⟩
      · have d1 : ((k : Int) + 1 == s) = false := by simpa using e1
        go_wp2_with fail
        go_roundw
        case rel => exact ⟨k + 1, by omega, by go_num, by have := HK.out; show _ ∨ _; omega, by trivial⟩
        case measure => simp [intOf]; omega
    · have hlt' : ¬ (k : Int) < (n : Int) := by omega
      have HP : Hid (placeN n s = -1) := by show _ = _; unfold placeN; rw [if_neg (by have := HK.out; omega)]
      go_wp2_with fail
      go_ret
      exact ⟨by rw [HP.out]; rfl, rfl⟩
end Go.Proofs.Ytagogbodkbbikaa
