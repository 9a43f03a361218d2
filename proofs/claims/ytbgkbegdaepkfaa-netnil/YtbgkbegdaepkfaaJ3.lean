import Derived.Test.YtbgkbegdaepkfaaJ2
import Derived.BigRegion
namespace Go.Proofs.Ytbgkbegdaepkfaa
open Go Go.RowKit
set_option maxRecDepth 20000

/-- What a letter more does to the links. -/
theorem put_links {n : NetM} {F T : Nat} (hT : T ≤ 6) (s : List UInt8) :
    linkK (putNt n (F : Int) (T : Int) s) (F * 7 + T) = linkK n (F * 7 + T) ++ [⟨(F : Int), (T : Int), s, n.last + 1⟩] ∧ ∀ k, k ≠ F * 7 + T → linkK (putNt n (F : Int) (T : Int) s) k = linkK n k := by
  refine ⟨?_, fun k hk => ?_⟩
  · rw [linkK_at _ _ _ hT, linkK_at _ _ _ hT]
    unfold linkL putNt
    dsimp only
    rw [filter_snoc, if_pos (by unfold onL; simp)]
  · unfold linkK linkL putNt
    dsimp only
    rw [filter_snoc, if_neg, List.append_nil]
    unfold onL
    simp only [Bool.and_eq_true, beq_iff_eq, not_and]
    omega
theorem send_arg {n : NetM} {f t : Int} {s : List UInt8} (h : isL n f t = false) : sendN n f t s = (n, 1) := by unfold sendN; rw [h]; rfl
theorem send_full {n : NetM} {f t : Int} {s : List UInt8} (h : isL n f t = true) (h' : (n.room : Int) ≤ (linkL n f t).length) : sendN n f t s = (n, 13) := by unfold sendN countL; rw [if_pos h, if_pos h']
theorem send_yes {n : NetM} {f t : Int} {s : List UInt8} (h : isL n f t = true) (h' : ¬ (n.room : Int) ≤ (linkL n f t).length) : sendN n f t s = (putNt n f t s, 0) := by unfold sendN countL; rw [if_pos h, if_neg h']
theorem step_app1 {ops : Array Oper} {o : Oper} {a : Act} {w : World} {K : Act → World → Prop} {Q : Exit → Act → World → Prop} {R : Prop} (hgd : o.guard = none) (s x : Operand) (ho : o.op = .call { callee := .builtin .append, args := #[s, x], argTypes := #[49, 49] })
    (B : Nat) (v : Value) (C : List LetM) (c : LetM) (hs : a.eval s = v) (hown : LetsAt B w v C) (g cap : Nat) (hx : a.eval x = .slice (some ⟨g, 0, none⟩) 1 cap) (hg : w.heap[g]? = some (.cells (letV c) 55 (0, 0)))
    (hn : C.length ≤ 1000000) (hB : B ≤ w.heap.size)
    (hK : ∀ v' w', LetsAt B w' v' (C ++ [c]) → w.grownBy w' v.ownBlock → (v'.ownBlock = v.ownBlock ∨ v'.ownBlock = some w.heap.size) → K (a.put o.dst v') w') :
    if Region.wanted o (yielded ops a.tmps) = true then Oper.wp Try.prog o a w K Q else R :=
  step_appE (E := LetE) LetOk letV hgd s x ho B v C c (let_fits c) hs hown g cap hx hg hn hB hK
set_option maxHeartbeats 16000000 in
theorem send_any (B : Nat) (w : World) (g : Nat) (n : NetM) (vs : List Value) (h : NetV B w g n vs) (hn : NetIn n) (f t : Int) (s : ByteArray) (hs : s.size ≤ 281474976710656) (hlast : n.last < 1000000000000) :
    Calls Try.prog 16 #[.pointer (some ⟨g, 0, none⟩), .int .i64 f, .int .i64 t, .string s] w fun e w' => e = .returned (.int .i64 (sendN n f t s.data.toList).2) ∧ NetTo B w w' g (sendN n f t s.data.toList).1 vs := by
  have HL := leads_any w g n h.f.c0 f t
  have HV : Hid (NetV B w g n vs) := h
  cases hl : isL n f t with
  | false =>
    rw [hl] at HL
    rw [send_arg hl]
    clear hl h hn
    go_enter Try.func16, Try.ntmps16
    go_wp2_with (go_at_call 24; refine HL.mono ?_; rintro e w1 ⟨rfl, h1⟩; subst h1)
    go_ret
    exact ⟨rfl, HV.out.stay (Below.refl _ _)⟩
  | true =>
    rw [hl] at HL
    obtain ⟨F, T, rfl, rfl, hF, hT⟩ := is_nat hn hl
    obtain ⟨v, hv, ho⟩ := h.at (F * 7 + T) (by omega)
    obtain ⟨o, cap, hve, hc1, hc2⟩ := ho.slice
    rw [linkK_at n F T hT] at hve
    have hcnt := hn.ok.count F T
    unfold countL at hcnt
    have b1 : (F : Int) < 7 := by omega
    have b2 : (T : Int) < 7 := by omega
    have hr5 := hn.r5
    have cv := h.f.ck _ _ hv
    rw [show 3 + (F * 7 + T) = 3 + F * 7 + T by omega] at cv
    have cr := h.f.c1
    obtain ⟨q, hq⟩ : ∃ q, q = (linkL n F T).length := ⟨_, rfl⟩
    rw [← hq] at hve hcnt
    by_cases hfull : n.room ≤ (q : Int)
    · rw [send_full hl (by rw [← hq]; exact hfull)]
      obtain ⟨r, hr⟩ : ∃ r, r = n.room := ⟨_, rfl⟩
      rw [← hr] at cr hfull hcnt
      obtain rfl : r = (q : Int) := by omega
      clear hr hfull hcnt hq hl hn h ho hv
      subst hve
      go_enter Try.func16, Try.ntmps16
      go_wp2_with (go_at_call 24; refine HL.mono ?_; rintro e w1 ⟨rfl, h1⟩; subst h1)
      go_region
      go_wp2_with fail
      go_ret
      exact ⟨rfl, HV.out.stay (Below.refl _ _).drew⟩
    · rw [send_yes hl (by rw [← hq]; exact hfull)]
      have c2 := h.f.c2
      have fz2 := h.f.fz 2
      obtain ⟨W8, hW8⟩ : ∃ W8, W8 = w.drew.setCell ⟨g, 2, none⟩ (.int .i64 ((n.last : Int) + 1)) := ⟨_, rfl⟩
      have hset := (h.below (w' := w.drew) (Below.refl _ _).drew).setLast (n.last + 1)
      rw [show (((n.last + 1 : Nat)) : Int) = (n.last : Int) + 1 by omega, ← hW8] at hset
      obtain ⟨hV8, hK8⟩ := hset
      obtain ⟨l1, l2⟩ := put_links (n := n) (F := F) hT s.data.toList
      obtain ⟨c, hc⟩ : ∃ c : LetM, c = ⟨(F : Int), (T : Int), s.data.toList, n.last + 1⟩ := ⟨_, rfl⟩
      have hcV : letV c = #[.int .i64 ((n.last : Int) + 1), .string s] := by
        rw [hc]
        unfold letV
        rw [show (((n.last + 1 : Nat)) : Int) = (n.last : Int) + 1 by omega]
      rw [← hc] at l1
      have HC : Hid (∀ W, Calls Try.prog 25 #[.string s] W fun e w' => e = .returned (.string s) ∧ Below W.heap.size W w') := fun W => clone_any s W hs
      have HF : Hid (∀ W, Below W8.heap.size W8 W → W.cell? ⟨g, 3 + F * 7 + T, none⟩ = some v ∧ W.cell? ⟨g, 2, none⟩ = some (.int .i64 ((n.last : Int) + 1))) := fun W hb => by
        have hf := (hV8.below hb).f
        have c1 := hf.ck _ _ hv
        rw [show 3 + (F * 7 + T) = 3 + F * 7 + T by omega] at c1
        have c3 := hf.c2
        dsimp only at c3
        rw [show (((n.last + 1 : Nat)) : Int) = (n.last : Int) + 1 by omega] at c3
        exact ⟨c1, c3⟩
      have HO : Hid (∀ W, Below W8.heap.size W8 W → LetsAt B W v (linkK n (F * 7 + T)) ∧ B ≤ W.heap.size) := fun W hb => ⟨(hV8.below hb).own _ v hv, (hV8.below hb).hw⟩
      have HN : Hid ((linkK n (F * 7 + T)).length ≤ 1000000) := by show _ ≤ _; rw [linkK_at _ _ _ hT, ← hq]; omega
      have HX : Hid (∀ W W' u, Below W8.heap.size W8 W → LetsAt B W' u (linkK n (F * 7 + T) ++ [c]) → W.grownBy W' v.ownBlock → (u.ownBlock = v.ownBlock ∨ u.ownBlock = some W.heap.size) → W'.cell? ⟨g, 3 + F * 7 + T, none⟩ = some v ∧ W'.frozen? ⟨g, 3 + F * 7 + T, none⟩ = false ∧ NetTo B w (W'.setCell ⟨g, 3 + F * 7 + T, none⟩ u) g (putNt n F T s.data.toList) vs) := fun W W' u hb hu hgr hq => by
        have hW := hV8.below hb
        have hk : Kept (rowX v) W W' := Kept.of_grown hgr fun k e => e
        have hgx : ¬ rowX v g := own_ty (hW.own _ v hv) hW.blk (by decide)
        have hf := netf_of (hk.heap hW.blk hgx)
        have c1 := hf.ck _ _ hv
        rw [show 3 + (F * 7 + T) = 3 + F * 7 + T by omega] at c1
        refine ⟨c1, hf.fz _, ?_⟩
        have := hW.put (n' := putNt n F T s.data.toList) (F * 7 + T) v hv u hk (by rw [l1]; exact hu) (by
          rcases hq with e | e
          · exact .inl e
          · exact .inr fun k e' => by rw [e] at e'; have := Option.some.inj e'; omega) rfl rfl rfl l2
        rw [show 3 + (F * 7 + T) = 3 + F * 7 + T by omega] at this
        have hk0 : Kept (footN g vs) w W8 := ((Kept.of_below (X := footN g vs) (w := w) (w' := w.drew) (Below.refl _ _).drew).trans (hK8.mono (Y := footN g vs) fun k _ e => .inl e) fun k e => .inl e)
        exact NetTo.trans (hk0.add hb) (fun k e => .inl e) this
      have HSL : Hid (∀ W' u, LetsAt B W' u (linkK n (F * 7 + T) ++ [c]) → ∃ o q c, u = .slice o q c) := fun W' u hu => by
        obtain ⟨o, cap, e, _⟩ := hu.slice
        exact ⟨o, _, cap, e⟩
      have hd0 : ((q : Int) == n.room) = false := by simp; omega
      have mixed : Try.prog.follows Departure.mixedOrders = true := by kernel_rfl
      have hwr : IntKind.i64.wrap ((n.last : Int) + 1) = (n.last : Int) + 1 := by rw [IntKind.wrap_i64]; omega
      obtain ⟨m, hm⟩ : ∃ m : Int, m = (n.last : Int) := ⟨_, rfl⟩
      obtain ⟨r, hr⟩ : ∃ r, r = n.room := ⟨_, rfl⟩
      rw [← hm] at c2 hW8 hwr hcV HF
      rw [← hr] at cr hd0
      clear l1 l2 hc hm hr hK8 hV8 hlast hs hq hfull hcnt hr5 hc1 hl hn h ho hv
      subst hve
      have cv0 := cv
      go_enter Try.func16, Try.ntmps16
      go_wp2_with (go_at_call 24; refine HL.mono ?_; rintro e w1 ⟨rfl, h1⟩; subst h1)
      go_region
      go_wp2_with fail
      rw [show (w1.setCell ⟨g, 2, none⟩ (.int .i64 (m + 1))).drew = W8 from hW8.symm]
      clear hW8 cv cv0 cr c2 fz2 HL hd0 hwr
      have HB8 : Hid (Below W8.heap.size W8 W8.drew) := (Below.refl _ _).drew
      obtain ⟨k1, k2⟩ := HF.out W8.drew HB8.out
      go_region_law_o (first
        | (refine step_call rfl 25 #[.tmp 48] (by intro b w; have hf := Try.func25; simp [go_sem]) #[.string s] (by simp [Act.eval, Act.put]) _ (HC.out W8.drew) (by rintro e w' ⟨h, _⟩; exact ⟨_, h⟩) ?_; rintro u0 w2 ⟨hu0, hb2⟩; obtain rfl : u0 = Value.string s := (by simpa using hu0); have HB2 : Hid (Below W8.heap.size W8 w2) := below_step HB8.out HB8.out.size hb2; have HB3 : Hid (Below W8.heap.size W8 (w2.alloc (.cells #[.int .i64 (m + 1), .string s] 55))) := HB2.out.alloc HB2.out.size _; obtain ⟨k3, k4⟩ := HF.out w2 HB2.out; obtain ⟨k5, k6⟩ := HF.out _ HB3.out; clear hu0 hb2)
        | (refine step_app1 rfl (.tmp 43) (.tmp 51) rfl B (.slice o q cap) (linkK n (F * 7 + T)) c (by simp [Act.eval]) (HO.out _ HB3.out).1 w2.heap.size 1 (by simp [Act.eval]) (by rw [hcV]; exact heap_new _ _ _ rfl) HN.out (HO.out _ HB3.out).2 ?_; intro u0 w3 q1 q2 q3; obtain ⟨o2, n2, p2, rfl⟩ := HSL.out w3 u0 q1; obtain ⟨f1, f2, f3⟩ := HX.out _ w3 _ HB3.out q1 q2 q3; have F3 : Hid _ := f3; clear q1 q2 q3 f3))
      all_goals
        go_wp2_with fail
        go_ret
        exact ⟨rfl, F3.out⟩
end Go.Proofs.Ytbgkbegdaepkfaa
namespace Go.Proofs.Ytbgkbegdaepkfaa
open Go Go.RowKit
set_option maxRecDepth 20000

set_option maxHeartbeats 8000000 in
theorem twice_any (B : Nat) (w : World) (g : Nat) (n : NetM) (vs : List Value) (h : NetV B w g n vs) (hn : NetIn n) (f t i : Int) (hlast : n.last < 1000000000000) :
    Calls Try.prog 18 #[.pointer (some ⟨g, 0, none⟩), .int .i64 f, .int .i64 t, .int .i64 i] w fun e w' => e = .returned (.int .i64 (twiceN n f t i).2) ∧ NetTo B w w' g (twiceN n f t i).1 vs := by
  have HP := peek_any B w g n vs h hn f t i
  have HV : Hid (NetV B w g n vs) := h
  have hlen := peek_len hn f t i
  have HS : Hid (∀ W, Below w.heap.size w W → Calls Try.prog 16 #[.pointer (some ⟨g, 0, none⟩), .int .i64 f, .int .i64 t, .string ⟨(peekN n f t i).1.toArray⟩] W fun e w' => e = .returned (.int .i64 (sendN n f t (peekN n f t i).1).2) ∧ NetTo B W w' g (sendN n f t (peekN n f t i).1).1 vs) := fun W hb =>
    send_any B W g n vs (h.below hb) hn f t ⟨(peekN n f t i).1.toArray⟩ (by simpa [ByteArray.size] using hlen) hlast
  have HE : Hid (twiceN n f t i = if (peekN n f t i).2 = 0 then sendN n f t (peekN n f t i).1 else (n, (peekN n f t i).2)) := rfl
  obtain ⟨c, hc⟩ : ∃ c, c = (peekN n f t i).2 := ⟨_, rfl⟩
  obtain ⟨s, hs⟩ : ∃ s : ByteArray, s = ⟨(peekN n f t i).1.toArray⟩ := ⟨_, rfl⟩
  rw [← hc, ← hs] at HP
  rw [← hs] at HS
  rw [← hc] at HE
  rw [HE.out]
  clear hc hs hlen h hn hlast HE
  by_cases h0 : c = 0
  · rw [if_pos h0]
    subst h0
    obtain ⟨y, hy⟩ : ∃ y, y = (sendN n f t (peekN n f t i).1) := ⟨_, rfl⟩
    rw [← hy]
    rw [← hy] at HS
    clear hy
    go_enter Try.func18, Try.ntmps18
    go_wp2_with (first
      | (go_at_call 19; refine HP.mono ?_; rintro e w1 ⟨rfl, hb1⟩)
      | (go_at_call 16; refine (HS.out _ hb1).mono ?_; rintro e w2 ⟨rfl, hb2⟩))
    go_ret
    exact ⟨rfl, NetTo.pre hb1 hb2⟩
  · rw [if_neg h0]
    have h0' : (c != 0) = true := by simpa using h0
    go_enter Try.func18, Try.ntmps18
    go_wp2_with (go_at_call 19; refine HP.mono ?_; rintro e w1 ⟨rfl, hb1⟩)
    go_ret
    exact ⟨rfl, HV.out.stay hb1⟩
end Go.Proofs.Ytbgkbegdaepkfaa
namespace Go.Proofs.Ytbgkbegdaepkfaa
open Go Go.RowKit
set_option maxRecDepth 20000

/-! The reference's net: one row of all letters. -/
def rletV (x : LetM) : Array Value := #[.int .i64 x.src, .int .i64 x.dst, .string ⟨x.data.toArray⟩]
def RLetE : El := ⟨47, 37, 3, 32, #[.int .i64 0, .int .i64 0, .string ⟨#[]⟩]⟩
theorem RLetOk : RLetE.Ok := ⟨Try.underlying37, ⟨_, Try.underlying47, rfl⟩, by kernel_rfl, rfl, by decide, by decide, by decide⟩
theorem rlet_fits (x : LetM) : Fits RLetE (rletV x) := ⟨rfl, by simp [rletV, Value.oneCell']⟩
def RowAt (B : Nat) (w : World) (v : Value) (C : List LetM) : Prop := w.ownsRow B 47 3 v C.length (gcells rletV C)
theorem RowAt.sl {B : Nat} {w : World} {v : Value} {C : List LetM} (h : RowAt B w v C) : GSl RLetE rletV w v C := gsl_of (E := RLetE) h fun _ _ => rfl
theorem RowAt.lt {B : Nat} {w : World} {v : Value} {C : List LetM} (h : RowAt B w v C) : ∀ k, v.ownBlock = some k → B ≤ k ∧ k < w.heap.size := World.ownsRow.lt h
theorem RowAt.kept {X : Nat → Prop} {B : Nat} {w w' : World} {v : Value} {C : List LetM} (h : RowAt B w v C) (hk : Kept X w w') (hX : ∀ k, v.ownBlock = some k → ¬ X k) : RowAt B w' v C := hk.own h hX
theorem RowAt.below {B : Nat} {w w' : World} {v : Value} {C : List LetM} (h : RowAt B w v C) (hb : Below w.heap.size w w') : RowAt B w' v C := gown_below h hb
theorem RowAt.slice {B : Nat} {w : World} {v : Value} {C : List LetM} (h : RowAt B w v C) : ∃ o cap, v = .slice o C.length cap ∧ C.length ≤ cap ∧ cap ≤ maxLen := h.sl.slice
def rnetV (n : NetM) (v : Value) : Array Value := #[.int .i64 n.nodes, .int .i64 n.room, v]
structure RNetV (B : Nat) (w : World) (r : Nat) (n : NetM) (v : Value) : Prop where
  blk : w.heap[r]? = some (.cells (rnetV n v) 39 (0, 0))
  own : RowAt B w v n.row
  hB : B ≤ r
def footRN (r : Nat) (v : Value) (k : Nat) : Prop := k = r ∨ v.ownBlock = some k
theorem RNetV.foot_in {B : Nat} {w : World} {r : Nat} {n : NetM} {v : Value} (h : RNetV B w r n v) : ∀ k, footRN r v k → B ≤ k ∧ k < w.heap.size := by
  rintro k (rfl | e)
  · exact ⟨h.hB, (Array.getElem?_eq_some_iff.1 h.blk).1⟩
  · exact h.own.lt k e
theorem RNetV.kept {X : Nat → Prop} {B : Nat} {w w' : World} {r : Nat} {n : NetM} {v : Value} (h : RNetV B w r n v) (hk : Kept X w w') (hX : ∀ k, footRN r v k → ¬ X k) : RNetV B w' r n v :=
  ⟨hk.heap h.blk (hX _ (.inl rfl)), h.own.kept hk fun k e => hX k (.inr e), h.hB⟩
theorem RNetV.below {B : Nat} {w w' : World} {r : Nat} {n : NetM} {v : Value} (h : RNetV B w r n v) (hb : Below w.heap.size w w') : RNetV B w' r n v := h.kept (X := fun _ => False) (Kept.of_below hb) fun _ _ e => e
theorem RNetV.hw {B : Nat} {w : World} {r : Nat} {n : NetM} {v : Value} (h : RNetV B w r n v) : B ≤ w.heap.size := by have := h.foot_in r (.inl rfl); omega
structure RNetF (w : World) (r : Nat) (n : NetM) (v : Value) : Prop where
  c0 : w.cell? ⟨r, 0, none⟩ = some (.int .i64 n.nodes)
  c1 : w.cell? ⟨r, 1, none⟩ = some (.int .i64 n.room)
  c2 : w.cell? ⟨r, 2, none⟩ = some v
  fz : ∀ k, w.frozen? ⟨r, k, none⟩ = false
theorem rnetf_of {w : World} {r : Nat} {n : NetM} {v : Value} {t : TypeId} (h : w.heap[r]? = some (.cells (rnetV n v) t (0, 0))) : RNetF w r n v :=
  ⟨by rw [cell_of_row w r _ _ _ _ h]; rfl, by rw [cell_of_row w r _ _ _ _ h]; rfl, by rw [cell_of_row w r _ _ _ _ h]; rfl, fun k => by simp [World.frozen?, h]⟩
theorem RNetV.f {B : Nat} {w : World} {r : Nat} {n : NetM} {v : Value} (h : RNetV B w r n v) : RNetF w r n v := rnetf_of h.blk
def RNetTo (B : Nat) (w w' : World) (r : Nat) (n' : NetM) (v : Value) : Prop := ∃ u, RNetV B w' r n' u ∧ Kept (footRN r v) w w' ∧ ∀ k, footRN r u k → footRN r v k ∨ w.heap.size ≤ k
theorem RNetV.stay {B : Nat} {w w' : World} {r : Nat} {n : NetM} {v : Value} (h : RNetV B w r n v) (hb : Below w.heap.size w w') : RNetTo B w w' r n v := ⟨v, h.below hb, Kept.of_below hb, fun _ e => .inl e⟩
theorem RNetTo.pre {B : Nat} {w w1 w2 : World} {r : Nat} {n' : NetM} {v : Value} (hb : Below w.heap.size w w1) (h : RNetTo B w1 w2 r n' v) : RNetTo B w w2 r n' v := by
  obtain ⟨u, h1, h2, h3⟩ := h
  refine ⟨u, h1, Kept.pre hb h2, fun k e => ?_⟩
  rcases h3 k e with e | e
  · exact .inl e
  · exact .inr (Nat.le_trans hb.size e)
/-- The row is put back. -/
theorem RNetV.put {B : Nat} {w w' : World} {r : Nat} {n n' : NetM} {v u : Value} (h : RNetV B w r n v) (hk : Kept (rowX v) w w') (hu : RowAt B w' u n'.row) (ho : u.ownBlock = v.ownBlock ∨ ∀ k, u.ownBlock = some k → w.heap.size ≤ k) (h0 : n'.nodes = n.nodes) (h1 : n'.room = n.room) : RNetTo B w (w'.setCell ⟨r, 2, none⟩ u) r n' v := by
  have hgx : ¬ rowX v r := own_ty h.own h.blk (by decide)
  have hbk := hk.heap h.blk hgx
  have hset : (w'.setCell ⟨r, 2, none⟩ u).heap[r]? = some (.cells (rnetV n' u) 39 (0, 0)) := by
    rw [heap_setCell_same w' r 2 _ _ u hbk]
    unfold rnetV
    rw [h0, h1]
    rfl
  have hK2 : Kept (isB r) w' (w'.setCell ⟨r, 2, none⟩ u) := ⟨rfl, rfl, rfl, by simp [World.setCell], fun k _ e => heap_setCell_other w' ⟨r, 2, none⟩ k _ e⟩
  refine ⟨u, ⟨hset, hu.kept hK2 fun k e e' => by unfold isB at e'; subst e'; exact own_ty hu hbk (by decide) e, h.hB⟩, (hk.mono (Y := footRN r v) fun k _ e => .inr e).trans hK2 fun k e => .inl (.inl e), fun k e => ?_⟩
  rcases e with e | e
  · exact .inl (.inl e)
  · rcases ho with e' | e'
    · rw [e'] at e; exact .inl (.inr e)
    · exact .inr (e' k e)
/-- A letter's fields. -/
structure RLF (w : World) (g off : Nat) (x : LetM) : Prop where
  c0 : w.cell? ⟨g, off, none⟩ = some (.int .i64 x.src)
  c1 : w.cell? ⟨g, off + 1, none⟩ = some (.int .i64 x.dst)
  c2 : w.cell? ⟨g, off + 2, none⟩ = some (.string ⟨x.data.toArray⟩)
theorem rlf_of {w : World} {g off : Nat} {cur : Array Value} {ty : TypeId} {fr : Nat × Nat} {x : LetM} (hg : w.heap[g]? = some (.cells cur ty fr)) (hc : ∀ j, j < 3 → cur[off + j]? = (rletV x)[j]?) : RLF w g off x :=
  ⟨by rw [cell_of_row w g off cur ty fr hg]; exact hc 0 (by decide), by rw [cell_of_row w g (off + 1) cur ty fr hg]; exact hc 1 (by decide), by rw [cell_of_row w g (off + 2) cur ty fr hg]; exact hc 2 (by decide)⟩

set_option maxHeartbeats 4000000 in
theorem ris_any (w : World) (r : Nat) (n : NetM) (hc : w.cell? ⟨r, 0, none⟩ = some (.int .i64 n.nodes)) (f t : Int) :
    Calls Try.prog 27 #[.pointer (some ⟨r, 0, none⟩), .int .i64 f, .int .i64 t] w fun e w' => e = .returned (.bool (isL n f t)) ∧ w' = w := by
  have hE : isL n f t = (decide (0 ≤ f) && decide (f ≤ n.nodes) && decide (0 ≤ t) && decide (t ≤ n.nodes)) := rfl
  obtain ⟨m, hm⟩ : ∃ m, m = n.nodes := ⟨_, rfl⟩
  rw [← hm] at hc hE
  rw [hE]
  clear hE hm
  by_cases h1 : 0 ≤ f
  · by_cases h2 : f ≤ m
    · by_cases h3 : 0 ≤ t
      · go_enter Try.func27, Try.ntmps27
        go_wp2_with fail
        go_ret
        exact ⟨ret_bool (by simp [h1, h2, h3]), rfl⟩
      · have d3 : decide (0 ≤ t) = false := decide_eq_false h3
        go_enter Try.func27, Try.ntmps27
        go_wp2_with fail
        go_ret
        exact ⟨by simp, rfl⟩
    · have d2 : decide (f ≤ m) = false := decide_eq_false h2
      go_enter Try.func27, Try.ntmps27
      go_wp2_with fail
      go_ret
      exact ⟨by simp, rfl⟩
  · have d1 : decide (0 ≤ f) = false := decide_eq_false h1
    go_enter Try.func27, Try.ntmps27
    go_wp2_with fail
    go_ret
    exact ⟨by simp, rfl⟩
set_option maxHeartbeats 4000000 in
theorem roldest_any (B : Nat) (w : World) (r : Nat) (n : NetM) (v : Value) (h : RNetV B w r n v) (hn : n.row.length ≤ 1000000) :
    Calls Try.prog 12 #[.pointer (some ⟨r, 0, none⟩)] w fun e w' => e = .returned (.tuple #[.int .i64 (oldN n).1, .int .i64 (oldN n).2.1, .bool (oldN n).2.2]) ∧ Below w.heap.size w w' := by
  have c2 := h.f.c2
  obtain ⟨o, cap, hv, hc1, hc2⟩ := h.own.slice
  have hgs := h.own.sl
  rw [hv] at c2 hgs
  cases hr : n.row with
  | nil =>
    have ho : oldN n = (0, 0, false) := by unfold oldN; rw [hr]
    rw [hr] at c2
    rw [ho]
    clear hgs hv h ho hn hr hc1
    go_enter Try.func12, Try.ntmps12
    go_wp2_with fail
    go_ret3
    exact ⟨rfl, Below.refl _ _⟩
  | cons x l =>
    have ho : oldN n = (x.src, x.dst, true) := by unfold oldN; rw [hr]
    obtain ⟨q, hq⟩ : ∃ q, q = n.row.length := ⟨_, rfl⟩
    have hq0 : 0 < q := by rw [hq, hr]; exact Nat.succ_pos _
    rw [← hq] at c2 hgs hn hc1
    rw [ho]
    obtain ⟨g', off, cur, ty, fr, y, rfl, hg, hcc, hy0⟩ := hgs.at 0 hq0
    obtain rfl : y = x := by rw [hr] at hy0; simpa using hy0.symm
    have F := rlf_of (off := off) hg (fun j hj => by have := hcc j hj; rwa [Nat.zero_mul, Nat.add_zero] at this)
    have f0 := F.c0
    have f1 := F.c1
    unfold maxLen at hc2
    obtain ⟨a, ha⟩ : ∃ a, a = y.src := ⟨_, rfl⟩
    obtain ⟨b, hb⟩ : ∃ b, b = y.dst := ⟨_, rfl⟩
    rw [← ha] at f0 ⊢
    rw [← hb] at f1 ⊢
    have hz : ((q : Int) == 0) = false := by simp; omega
    have hq0' : (0 : Int) < (q : Int) := by omega
    clear F hcc hg hgs hy0 hv h ho hn hr hq ha hb
    go_enter Try.func12, Try.ntmps12
    go_wp2_with fail
    go_region
    go_wp2_with fail
    go_ret3
    exact ⟨rfl, (Below.refl _ _).drew⟩
end Go.Proofs.Ytbgkbegdaepkfaa
namespace Go.Proofs.Ytbgkbegdaepkfaa
open Go Go.RowKit
set_option maxRecDepth 20000

set_option maxHeartbeats 4000000 in
theorem rnewN_yes (nodes room : Int) (h : 0 ≤ nodes ∧ nodes ≤ 6 ∧ 1 ≤ room ∧ room ≤ 512) (w : World) :
    Calls Try.prog 9 #[.int .i64 nodes, .int .i64 room] w fun e w' => ∃ r v, e = .returned (.tuple #[.pointer (some ⟨r, 0, none⟩), .int .i64 0]) ∧ RNetV w.heap.size w' r ⟨nodes, room, [], 0⟩ v ∧ Below w.heap.size w w' := by
  have HN : Hid (RNetV w.heap.size (w.alloc (.cells (rnetV ⟨nodes, room, [], 0⟩ (.slice none 0 0)) 39)) w.heap.size ⟨nodes, room, [], 0⟩ (.slice none 0 0)) := ⟨heap_new _ _ _ rfl, World.ownsRow_nil _ _ _ _, Nat.le_refl _⟩
  obtain ⟨h1, h2, h3, h4⟩ := h
  have d1 : ¬ nodes < 0 := by omega
  have d2 : ¬ nodes > 6 := by omega
  have d3 : ¬ room < 1 := by omega
  have d4 : ¬ room > 512 := by omega
  clear h1 h2 h3 h4
  go_enter Try.func9, Try.ntmps9
  go_wp2_with fail
  go_ret2
  exact ⟨_, rfl, ⟨_, HN.out⟩, (Below.refl _ _).alloc (Nat.le_refl _) _⟩
set_option maxHeartbeats 4000000 in
theorem rnewN_no (nodes room : Int) (h : ¬ (0 ≤ nodes ∧ nodes ≤ 6 ∧ 1 ≤ room ∧ room ≤ 512)) (w : World) :
    Calls Try.prog 9 #[.int .i64 nodes, .int .i64 room] w fun e w' => e = .returned (.tuple #[.pointer none, .int .i64 1]) ∧ w' = w := by
  by_cases h1 : nodes < 0
  · clear h
    go_enter Try.func9, Try.ntmps9
    go_wp2_with fail
    go_ret2
    exact ⟨rfl, rfl⟩
  by_cases h2 : nodes > 6
  · clear h
    go_enter Try.func9, Try.ntmps9
    go_wp2_with fail
    go_ret2
    exact ⟨rfl, rfl⟩
  by_cases h3 : room < 1
  · clear h
    go_enter Try.func9, Try.ntmps9
    go_wp2_with fail
    go_ret2
    exact ⟨rfl, rfl⟩
  have h4 : room > 512 := by omega
  clear h
  go_enter Try.func9, Try.ntmps9
  go_wp2_with fail
  go_ret2
  exact ⟨rfl, rfl⟩
theorem filtN_yes {l : List LetM} {k : Nat} {x : LetM} {q : LetM → Bool} (h : l[k]? = some x) (hq : q x = true) : (l.take (k + 1)).filter q = (l.take k).filter q ++ [x] := by
  rw [List.take_add_one, h, List.filter_append]
  simp [hq]
theorem filtN_no {l : List LetM} {k : Nat} {x : LetM} {q : LetM → Bool} (h : l[k]? = some x) (hq : q x = false) : (l.take (k + 1)).filter q = (l.take k).filter q := by
  rw [List.take_add_one, h, List.filter_append]
  simp [hq]
theorem filtN_len {l : List LetM} (k : Nat) (q : LetM → Bool) : ((l.take k).filter q).length ≤ k := Nat.le_trans (List.length_filter_le _ _) (by rw [List.length_take]; omega)
theorem place_hit {p : LetM → Bool} : ∀ {l : List LetM} {j i : Nat} {x : LetM}, l[j]? = some x → p x = true → ((l.take j).filter p).length = i → placeP p l i = some j
  | [], j, i, x, h, _, _ => by simp at h
  | y :: l, 0, i, x, h, hp, hi => by
    obtain rfl : y = x := by simpa using h
    obtain rfl : i = 0 := by simpa using hi.symm
    exact place_first hp
  | y :: l, j + 1, i, x, h, hp, hi => by
    have hx : l[j]? = some x := by simpa using h
    unfold placeP
    cases hy : p y with
    | true =>
      rw [List.take_succ_cons, List.filter_cons_of_pos hy, List.length_cons] at hi
      obtain ⟨k, rfl⟩ : ∃ k, i = k + 1 := ⟨i - 1, by omega⟩
      rw [if_pos rfl]
      show Option.map (fun x => x + 1) (placeP p l k) = _
      rw [place_hit hx hp (i := k) (by omega)]
      rfl
    | false =>
      rw [List.take_succ_cons, List.filter_cons_of_neg (by simp [hy])] at hi
      rw [if_neg (by simp), place_hit hx hp hi]
      rfl
def plI (a : Option Nat) : Int := match a with | some j => (j : Int) | none => -1
set_option maxHeartbeats 8000000 in
theorem rcount_any (B : Nat) (w : World) (r : Nat) (n : NetM) (v : Value) (h : RNetV B w r n v) (hn : n.row.length ≤ 1000000) (f t : Int) :
    Calls Try.prog 15 #[.pointer (some ⟨r, 0, none⟩), .int .i64 f, .int .i64 t] w fun e w' => e = .returned (.int .i64 (countL n f t : Int)) ∧ w' = w := by
  have c2 := h.f.c2
  obtain ⟨o, cap, hv, hc1, hc2⟩ := h.own.slice
  have hgs := h.own.sl
  rw [hv] at c2 hgs
  have HE : Hid (countL n f t = (n.row.filter (onL f t)).length) := rfl
  obtain ⟨q, hq⟩ : ∃ q, q = n.row.length := ⟨_, rfl⟩
  rw [← hq] at c2 hgs hc1 hn
  have HL : Hid (GSl RLetE rletV w (.slice o q cap) n.row) := hgs
  have HQ : Hid (q = n.row.length) := hq
  unfold maxLen at hc2
  clear hv h hgs hq
  go_enter Try.func15, Try.ntmps15
  go_wp2_with fail
  go_loopw [7, 8] (fun s7 s8 wr => ∃ k : Nat, k ≤ q ∧ s8 = .int .i64 (k : Int) ∧ s7 = .int .i64 (((n.row.take k).filter (onL f t)).length : Int) ∧ wr = w) (fun _ s8 _ => q - (intOf s8).toNat)
  case atStart => exact ⟨0, Nat.zero_le _, rfl, by simp, rfl⟩
  case round =>
    obtain ⟨k, hk, rfl, rfl, rfl⟩ := hrel
    by_cases hlt : k < q
    · have hlt' : (k : Int) < (q : Int) := by omega
      obtain ⟨g', off, cur, ty, fr, x, rfl, hg, hcc, hxk⟩ := HL.out.at k hlt
      have RF := rlf_of (off := off + k * 3) hg hcc
      have f0 := RF.c0
      have f1 := RF.c1
      have ML := filtN_len (l := n.row) k (onL f t)
      have HY : Hid (onL f t x = true → ((n.row.take (k + 1)).filter (onL f t)).length = ((n.row.take k).filter (onL f t)).length + 1) := fun e => by rw [filtN_yes hxk e, List.length_append]; rfl
      have HNo : Hid (onL f t x = false → ((n.row.take (k + 1)).filter (onL f t)).length = ((n.row.take k).filter (onL f t)).length) := fun e => by rw [filtN_no hxk e]
      have HO : Hid (onL f t x = (x.src == f && x.dst == t)) := rfl
      obtain ⟨m, hm⟩ : ∃ m, m = ((n.row.take k).filter (onL f t)).length := ⟨_, rfl⟩
      obtain ⟨m', hm'⟩ : ∃ m', m' = ((n.row.take (k + 1)).filter (onL f t)).length := ⟨_, rfl⟩
      have HM : Hid (m' = ((n.row.take (k + 1)).filter (onL f t)).length) := hm'
      rw [← hm, ← hm'] at HY HNo
      rw [← hm] at ML ⊢
      obtain ⟨xs, hxs⟩ : ∃ xs, xs = x.src := ⟨_, rfl⟩
      obtain ⟨xd, hxd⟩ : ∃ xd, xd = x.dst := ⟨_, rfl⟩
      rw [← hxs] at f0 HO
      rw [← hxd] at f1 HO
      clear hm hm' hxs hxd RF hg hcc hxk
      by_cases e1 : xs = f
      · by_cases e2 : xd = t
        · have em : Hid (m' = m + 1) := HY.out (by rw [HO.out]; simp [e1, e2])
          subst e1
          subst e2
          go_wp2_with fail
          go_roundw
          case rel => exact ⟨k + 1, by omega, by go_num, by rw [← HM.out, em.out]; go_num, by trivial⟩
          case measure => simp [intOf]; omega
        · have em : Hid (m' = m) := HNo.out (by rw [HO.out]; simp [e2])
          have d2 : (xd == t) = false := by simpa using e2
          subst e1
          go_wp2_with fail
          go_roundw
          case rel => exact ⟨k + 1, by omega, by go_num, by rw [← HM.out, em.out], by trivial⟩
          case measure => simp [intOf]; omega
      · have em : Hid (m' = m) := HNo.out (by rw [HO.out]; simp [e1])
        have d1 : (xs == f) = false := by simpa using e1
        go_wp2_with fail
        go_roundw
        case rel => exact ⟨k + 1, by omega, by go_num, by rw [← HM.out, em.out], by trivial⟩
        case measure => simp [intOf]; omega
    · have hkn : k = q := by omega
      have hlt' : ¬ (k : Int) < (q : Int) := by omega
      have HZ : Hid (((n.row.take k).filter (onL f t)).length = countL n f t) := by show _ = _; rw [HE.out, hkn, HQ.out, List.take_length]
      rw [HZ.out]
      clear hkn
      go_wp2_with fail
      go_ret
      exact ⟨by simp, by trivial⟩
set_option maxHeartbeats 8000000 in
theorem rplace_any (B : Nat) (w : World) (r : Nat) (n : NetM) (v : Value) (h : RNetV B w r n v) (hn : n.row.length ≤ 1000000) (f t i : Int) :
    Calls Try.prog 28 #[.pointer (some ⟨r, 0, none⟩), .int .i64 f, .int .i64 t, .int .i64 i] w fun e w' => e = .returned (.int .i64 (plI (placeL n f t i))) ∧ w' = w := by
  have c2 := h.f.c2
  obtain ⟨o, cap, hv, hc1, hc2⟩ := h.own.slice
  have hgs := h.own.sl
  rw [hv] at c2 hgs
  obtain ⟨q, hq⟩ : ∃ q, q = n.row.length := ⟨_, rfl⟩
  rw [← hq] at c2 hgs hc1 hn
  have HL : Hid (GSl RLetE rletV w (.slice o q cap) n.row) := hgs
  have HQ : Hid (q = n.row.length) := hq
  have HZ : Hid ((i < 0 ∨ ((n.row.filter (onL f t)).length : Int) ≤ i) → placeL n f t i = none) := fun e => by
    unfold placeL
    split
    · rw [place_none]; omega
    · rfl
  unfold maxLen at hc2
  clear hv h hgs hq
  go_enter Try.func28, Try.ntmps28
  go_wp2_with fail
  go_loopw [9, 10] (fun s9 s10 wr => ∃ k : Nat, k ≤ q ∧ s10 = .int .i64 (k : Int) ∧ s9 = .int .i64 (((n.row.take k).filter (onL f t)).length : Int) ∧ (i < 0 ∨ (((n.row.take k).filter (onL f t)).length : Int) ≤ i) ∧ wr = w) (fun _ s10 _ => q - (intOf s10).toNat)
  case atStart => exact ⟨0, Nat.zero_le _, rfl, by simp, by simp; omega, rfl⟩
  case round =>
    obtain ⟨k, hk, rfl, rfl, hle, rfl⟩ := hrel
    by_cases hlt : k < q
    · have hlt' : (k : Int) < (q : Int) := by omega
      obtain ⟨g', off, cur, ty, fr, x, rfl, hg, hcc, hxk⟩ := HL.out.at k hlt
      have RF := rlf_of (off := off + k * 3) hg hcc
      have f0 := RF.c0
      have f1 := RF.c1
      have ML := filtN_len (l := n.row) k (onL f t)
      have HY : Hid (onL f t x = true → ((n.row.take (k + 1)).filter (onL f t)).length = ((n.row.take k).filter (onL f t)).length + 1) := fun e => by rw [filtN_yes hxk e, List.length_append]; rfl
      have HH : Hid (onL f t x = true → (((n.row.take k).filter (onL f t)).length : Int) = i → placeL n f t i = some k) := fun e e' => by
        unfold placeL
        rw [if_pos (by omega)]
        exact place_hit hxk e (by omega)
      have HNo : Hid (onL f t x = false → ((n.row.take (k + 1)).filter (onL f t)).length = ((n.row.take k).filter (onL f t)).length) := fun e => by rw [filtN_no hxk e]
      have HO : Hid (onL f t x = (x.src == f && x.dst == t)) := rfl
      obtain ⟨m, hm⟩ : ∃ m, m = ((n.row.take k).filter (onL f t)).length := ⟨_, rfl⟩
      obtain ⟨m', hm'⟩ : ∃ m', m' = ((n.row.take (k + 1)).filter (onL f t)).length := ⟨_, rfl⟩
      have HM : Hid (m' = ((n.row.take (k + 1)).filter (onL f t)).length) := hm'
      rw [← hm, ← hm'] at HY HNo
      rw [← hm] at ML HH hle ⊢
      obtain ⟨xs, hxs⟩ : ∃ xs, xs = x.src := ⟨_, rfl⟩
      obtain ⟨xd, hxd⟩ : ∃ xd, xd = x.dst := ⟨_, rfl⟩
      rw [← hxs] at f0 HO
      rw [← hxd] at f1 HO
      have HLE : Hid (i < 0 ∨ (m : Int) ≤ i) := hle
      clear hm hm' hxs hxd RF hg hcc hxk hle
      by_cases e1 : xs = f
      · by_cases e2 : xd = t
        · have eo : Hid (onL f t x = true) := by show _ = _; rw [HO.out]; simp [e1, e2]
          have em : Hid (m' = m + 1) := HY.out eo.out
          by_cases e3 : (m : Int) = i
          · have ep : Hid (placeL n f t i = some k) := HH.out eo.out e3
            subst e1
            subst e2
            have e3' : ((m : Int) == i) = true := by simpa using e3
            clear e3 HH HLE
            go_wp2_with fail
            go_ret
            exact ⟨by rw [ep.out]; rfl, by trivial⟩
          · have HLT : Hid (i < 0 ∨ (m' : Int) ≤ i) := by
              show _ ∨ _
              have h1 := HLE.out
              have h2 := em.out
              omega
            subst e1
            subst e2
            have e3' : ((m : Int) == i) = false := by simpa using e3
            clear e3
            go_wp2_with fail
            go_roundw
            case rel => exact ⟨k + 1, by omega, by go_num, by rw [← HM.out, em.out]; go_num, by rw [← HM.out]; exact HLT.out, by trivial⟩
            case measure => simp [intOf]; omega
        · have em : Hid (m' = m) := HNo.out (by rw [HO.out]; simp [e2])
          have d2 : (xd == t) = false := by simpa using e2
          subst e1
          go_wp2_with fail
          go_roundw
          case rel => exact ⟨k + 1, by omega, by go_num, by rw [← HM.out, em.out], by rw [← HM.out, em.out]; exact HLE.out, by trivial⟩
          case measure => simp [intOf]; omega
      · have em : Hid (m' = m) := HNo.out (by rw [HO.out]; simp [e1])
        have d1 : (xs == f) = false := by simpa using e1
        go_wp2_with fail
        go_roundw
        case rel => exact ⟨k + 1, by omega, by go_num, by rw [← HM.out, em.out], by rw [← HM.out, em.out]; exact HLE.out, by trivial⟩
        case measure => simp [intOf]; omega
    · have hkn : k = q := by omega
      have hlt' : ¬ (k : Int) < (q : Int) := by omega
      rw [show n.row.take k = n.row by rw [hkn, HQ.out, List.take_length]] at hle ⊢
      have HP : Hid (placeL n f t i = none) := HZ.out hle
      clear hkn hle
      go_wp2_with fail
      go_ret
      exact ⟨by rw [HP.out]; rfl, by trivial⟩
end Go.Proofs.Ytbgkbegdaepkfaa
