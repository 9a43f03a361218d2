import Derived.Test.YtpbinkmeldkehaaJ4
import Derived.Deep.Slices
import Derived.Test.YtpbinkmeldkehaaProg
import Derived.Test.YtpbinkmeldkehaaJ1
import Derived.Lib.Bytealg
import Derived.Lib.UnsafeStr
import Derived.Lib.BufferWrite
import Derived.Laws.MakeOwn
import Derived.OwnWalk
import Derived.Test.YtpbinkmeldkehaaJ2
import Derived.OrdersHeld
namespace Go.Proofs.Ytpbinkmeldkehaa
open Go.ChangeShapes Go.WideShapes Go.ChangeAt Go.WideMaps Go.WideElems Go.RowKit
set_option maxRecDepth 20000

theorem El.Ok.cellsOf {E : El} (H : E.Ok) : Try.prog.cellsOf E.elem = E.size := by
  obtain ⟨i, h1, _, h2, _⟩ := H.info
  simp [Program.cellsOf, h1, h2]

/-- A slice that comes in, of elements that are opened one by one. -/
theorem open_any {E : El} (HE : E.Ok) {α : Type} [Inhabited α] (row : α → Array Value) (hrow : ∀ a, (row a).size = E.size) (Q : α → Prop) {H : Type} {enc : TypeId × Value → H} {W : World} {base : Nat} {spare : Nat → Bool} {held : Bool}
    (elem : ∀ (fuel : Nat) (cs : List Value) (x : DataW H × List MemPlace), cs.length = E.size → DataW.trod enc Try.prog W base spare held fuel E.elem cs = some x → ∃ a, cs = (row a).toList ∧ Q a)
    {fuel : Nat} {v : Value} {x : DataW H × List MemPlace} (hf : DataW.trod enc Try.prog W base spare held fuel E.slice [v] = some x) : ∃ C : List α, GSl E row W v C ∧ ∀ c ∈ C, Q c := by
  have hp := HE.hp
  rcases Deep.open_slice HE.hs hf with ⟨h0, _⟩ | ⟨a, len, cap, m, n, D, Pl, h0, hb, hl, hm, hmm, _, hx⟩
  · obtain rfl : v = .slice none 0 0 := by simpa using h0
    exact ⟨[], gsl_nil E row W, fun c hc => absurd hc (by simp)⟩
  · obtain rfl : v = .slice (some a) len cap := by simpa using h0
    rw [HE.cellsOf] at hx
    have hlm : len ≤ m := by rw [hmm]; split <;> omega
    have each : ∀ i, i < len → ∃ c : α, Q c ∧ ∀ j, j < E.size → W.cell? (a.add (i * E.size + j)) = (row c)[j]? := fun i hi => by
      obtain ⟨cs', h1, h2⟩ := hx i (by omega)
      obtain ⟨_, hlen, hcell⟩ := World.cells?_some h1
      obtain ⟨c, h3, h4⟩ := elem _ cs' _ hlen h2
      refine ⟨c, h4, fun j hj => ?_⟩
      have := hcell j hj
      rw [Deep.add_add] at this
      rw [this, h3]
      simp
    obtain ⟨f, hf⟩ := Deep.choose_lt each
    refine ⟨(List.range len).map f, ⟨some a, cap, by simp, by simpa using hl, hm, fun i hi => ?_⟩, fun c hc => ?_⟩
    · have hi' : i < len := by simpa using hi
      have h1 := (hf i hi').2
      obtain ⟨g, off, sp⟩ := a
      have hj : ∀ j, j < E.size → ∃ cur t fr, W.heap[g]? = some (.cells cur t fr) ∧ cur[off + i * E.size + j]? = (row (f i))[j]? ∧ (i * E.size + j = 0 → sp = none) := fun j hj => by
        have h2 := h1 j hj
        obtain ⟨y, hy⟩ : ∃ y, (row (f i))[j]? = some y := ⟨_, Array.getElem?_eq_getElem (by rw [hrow]; exact hj)⟩
        rw [hy] at h2 ⊢
        unfold World.cell? at h2
        split at h2
        · rename_i cur t fr hq
          have hbk : (Addr.add ⟨g, off, sp⟩ (i * E.size + j)).block = g := by unfold Addr.add; split <;> rfl
          have hof : (Addr.add ⟨g, off, sp⟩ (i * E.size + j)).off = off + i * E.size + j := by unfold Addr.add; split <;> simp_all [Nat.add_assoc]
          rw [hbk] at hq
          rw [hof] at h2
          split at h2
          · cases h2
          · rename_i hsp
            refine ⟨cur, t, fr, hq, h2, fun h0 => ?_⟩
            unfold Addr.add at hsp
            rw [if_pos h0] at hsp
            simpa using hsp
        · cases h2
      have hsp : sp = none := by
        obtain ⟨cur, t, fr, h2, h3, h4⟩ := hj 0 hp
        by_cases hi0 : i = 0
        · exact h4 (by rw [hi0]; simp)
        · have h5 := (hf 0 (by omega)).2 0 hp
          obtain ⟨y, hy⟩ : ∃ y, (row (f 0))[0]? = some y := ⟨_, Array.getElem?_eq_getElem (by rw [hrow]; exact hp)⟩
          rw [hy] at h5
          unfold World.cell? at h5
          split at h5
          · split at h5
            · cases h5
            · rename_i hs
              simpa [Addr.add] using hs
          · cases h5
      subst hsp
      obtain ⟨cur, t, fr, h2, _, _⟩ := hj 0 hp
      refine ⟨g, off, cur, t, fr, rfl, h2, fun j hjl => ?_⟩
      obtain ⟨cur', t', fr', h3, h4, _⟩ := hj j hjl
      rw [h2] at h3
      obtain ⟨rfl, rfl, rfl⟩ : cur = cur' ∧ t = t' ∧ fr = fr' := by simpa using h3
      rw [h4]
      simp
    · rw [List.mem_map] at hc
      obtain ⟨i, hi, rfl⟩ := hc
      exact (hf i (by simpa using hi)).1

/-- A list whose elements hold lists of their own: each row with the value of its inner list. -/
def NSl {α : Type} (E : El) (row : α → Value → Array Value) (R : World → α → Value → Prop) (w : World) (v : Value) (C : List α) : Prop :=
  ∃ P : List (α × Value), P.map (·.1) = C ∧ GSl E (fun p => row p.1 p.2) w v P ∧ ∀ p ∈ P, R w p.1 p.2
theorem NSl.below {α : Type} {E : El} {row : α → Value → Array Value} {R : World → α → Value → Prop} (hR : ∀ w w' a v, Below w.heap.size w w' → R w a v → R w' a v) {w w' : World} {v : Value} {C : List α} (h : NSl E row R w v C) (hb : Below w.heap.size w w') : NSl E row R w' v C := by
  obtain ⟨P, h1, h2, h3⟩ := h
  exact ⟨P, h1, h2.below hb, fun p hp => hR w w' _ _ hb (h3 p hp)⟩
theorem NSl.slice {α : Type} {E : El} {row : α → Value → Array Value} {R : World → α → Value → Prop} {w : World} {v : Value} {C : List α} (h : NSl E row R w v C) : ∃ (o : Option Addr) (cap : Nat), v = .slice o C.length cap ∧ C.length ≤ cap ∧ cap ≤ maxLen := by
  obtain ⟨P, h1, h2, _⟩ := h
  obtain ⟨o, cap, e, h4, h5⟩ := h2.slice
  have hl : P.length = C.length := by rw [← h1, List.length_map]
  rw [hl] at e h4
  exact ⟨o, cap, e, h4, h5⟩
theorem NSl.at {α : Type} {E : El} {row : α → Value → Array Value} {R : World → α → Value → Prop} {w : World} {o : Option Addr} {n cap : Nat} {C : List α} (h : NSl E row R w (.slice o n cap) C) (k : Nat) (hk : k < n) :
    ∃ g off cur t fr, ∃ (c : α) (u : Value), o = some ⟨g, off, none⟩ ∧ w.heap[g]? = some (.cells cur t fr) ∧ (∀ j, j < E.size → cur[off + k * E.size + j]? = (row c u)[j]?) ∧ C[k]? = some c ∧ R w c u := by
  obtain ⟨P, h1, h2, h3⟩ := h
  obtain ⟨g, off, cur, t, fr, c, e1, e2, e3, e4⟩ := h2.at k hk
  exact ⟨g, off, cur, t, fr, c.1, c.2, e1, e2, e3, by rw [← h1, List.getElem?_map, e4]; rfl, h3 c (List.mem_of_getElem? e4)⟩
/-- The same of one's own row. -/
def NOwn {α : Type} (E : El) (row : α → Value → Array Value) (R : World → α → Value → Prop) (w : World) (B : Nat) (v : Value) (C : List α) : Prop :=
  ∃ P : List (α × Value), P.map (·.1) = C ∧ w.ownsRow B E.elem E.size v P.length (gcells (fun p : α × Value => row p.1 p.2) P) ∧ ∀ p ∈ P, R w p.1 p.2
theorem NOwn.sl {α : Type} {E : El} {row : α → Value → Array Value} {R : World → α → Value → Prop} (hrow : ∀ a u, (row a u).size = E.size) {w : World} {B : Nat} {v : Value} {C : List α} (h : NOwn E row R w B v C) : NSl E row R w v C := by
  obtain ⟨P, h1, h2, h3⟩ := h
  exact ⟨P, h1, gsl_of h2 fun c _ => hrow c.1 c.2, h3⟩
theorem NOwn.nil {α : Type} (E : El) (row : α → Value → Array Value) (R : World → α → Value → Prop) (w : World) (B : Nat) : NOwn E row R w B (.slice none 0 0) [] :=
  ⟨[], rfl, World.ownsRow_nil _ _ _ _, fun p hp => by simp at hp⟩
theorem NOwn.below {α : Type} {E : El} {row : α → Value → Array Value} {R : World → α → Value → Prop} (hR : ∀ w w' a v, Below w.heap.size w w' → R w a v → R w' a v) {w w' : World} {B : Nat} {v : Value} {C : List α} (h : NOwn E row R w B v C) (hb : Below w.heap.size w w') : NOwn E row R w' B v C := by
  obtain ⟨P, h1, h2, h3⟩ := h
  exact ⟨P, h1, gown_below h2 hb, fun p hp => hR w w' _ _ hb (h3 p hp)⟩
/-- Rows of two types lie apart. -/
theorem own_apart {w : World} {B B' : Nat} {e e' : TypeId} {s s' : Nat} {v u : Value} {n m : Nat} {xs ys : List Value} (h : w.ownsRow B e s v n xs) (h' : w.ownsRow B' e' s' u m ys) (hne : e ≠ e') : ∀ g, v.ownBlock = some g → u.ownBlock ≠ some g := by
  intro g hg hu
  obtain ⟨_, ⟨rfl, _⟩ | ⟨g1, cap, cur, rfl, _, h1, _⟩⟩ := h
  · simp [Value.ownBlock] at hg
  · obtain ⟨_, ⟨rfl, _⟩ | ⟨g2, cap', cur', rfl, _, h2, _⟩⟩ := h'
    · simp [Value.ownBlock] at hu
    · simp only [Value.ownBlock, Option.some.injEq] at hg hu
      subst hg
      subst hu
      rw [h1] at h2
      simp only [Option.some.injEq, Obj.cells.injEq] at h2
      exact hne h2.2.1
/-- A row stays as it is while another one grows. -/
theorem own_grown {w w' : World} {b : Option Nat} (hgr : w.grownBy w' b) {B : Nat} {e : TypeId} {s : Nat} {u : Value} {m : Nat} {ys : List Value} (h : w.ownsRow B e s u m ys) (hne : ∀ g, b = some g → u.ownBlock ≠ some g) : w'.ownsRow B e s u m ys := by
  obtain ⟨h0, h1 | ⟨g, cap, cur, rfl, hB, hcur, h3⟩⟩ := h
  · exact ⟨h0, .inl h1⟩
  · refine ⟨h0, .inr ⟨g, cap, cur, rfl, hB, ?_, h3⟩⟩
    rw [hgr.block g (Array.getElem?_eq_some_iff.1 hcur).1 (fun hq => hne g hq.symm rfl)]
    exact hcur
theorem NOwn.grown {α : Type} {E : El} {row : α → Value → Array Value} {R : World → α → Value → Prop} {w w' : World} {b : Option Nat} (hgr : w.grownBy w' b) {B : Nat} {v : Value} {C : List α} (h : NOwn E row R w B v C) (hne : ∀ g, b = some g → v.ownBlock ≠ some g) (hR : ∀ a u, R w a u → R w' a u) : NOwn E row R w' B v C := by
  obtain ⟨P, h1, h2, h3⟩ := h
  exact ⟨P, h1, own_grown hgr h2 hne, fun p hp => hR _ _ (h3 p hp)⟩
end Go.Proofs.Ytpbinkmeldkehaa
namespace Go.Proofs.Ytpbinkmeldkehaa
open Go
set_option maxRecDepth 20000

/-- A token. -/
structure Tok where
  kind : Nat
  pos : Nat
  text : List UInt8
  num : Nat

def isLet (c : UInt8) : Bool := decide (97 ≤ c.toNat) && decide (c.toNat ≤ 122)
def isDig (c : UInt8) : Bool := decide (48 ≤ c.toNat) && decide (c.toNat ≤ 57)
def isBlank (c : UInt8) : Bool := c == 9 || c == 13 || c == 32
def notEnd (c : UInt8) : Bool := c != 10
/-- Digits as a number. -/
def val (D : List UInt8) : Nat := D.foldl (fun n c => n * 10 + (c.toNat - 48)) 0
/-- Digits as a number that may be. -/
def numOf (D : List UInt8) : Option Nat := if decide (4294967295 < val D) || (decide (1 < D.length) && D.head? == some 48) then none else some (val D)

/-- What begins at a place: nothing, a token, or something wrong. -/
abbrev Lx := Except Nat (Option (Nat × List UInt8 × Nat))
abbrev Lx.none : Lx := Except.ok Option.none
abbrev Lx.tok (k : Nat) (t : List UInt8) (v : Nat) : Lx := Except.ok (some (k, t, v))
abbrev Lx.err (e : Nat) : Lx := Except.error e

/-- What begins with a byte, and how many more bytes it has. -/
def lexeme (c : UInt8) (r : List UInt8) : Lx × Nat :=
  if isBlank c then (Lx.none, 0)
  else if isLet c then (Lx.tok 1 (c :: r.takeWhile isLet) 0, (r.takeWhile isLet).length)
  else if isDig c then (match numOf (c :: r.takeWhile isDig) with | some n => Lx.tok 2 [] n | Option.none => Lx.err 7, (r.takeWhile isDig).length)
  else if c == 46 then (Lx.tok 3 [] 0, 0)
  else if c == 47 then (Lx.tok 4 [] 0, 0)
  else if c == 45 then (if r.head? == some 62 then (Lx.tok 6 [] 0, 1) else (Lx.tok 5 [] 0, 0))
  else if c == 10 then (Lx.tok 7 [] 0, 0)
  else if c == 35 then (Lx.none, (r.takeWhile notEnd).length)
  else (Lx.err 6, 0)

/-- Tokens ahead of what comes to be. -/
def glue (P : List Tok) : Except (Nat × Nat) (List Tok) → Except (Nat × Nat) (List Tok)
  | .ok l => .ok (P ++ l)
  | .error x => .error x
theorem glue_glue (P Q : List Tok) (x : Except (Nat × Nat) (List Tok)) : glue P (glue Q x) = glue (P ++ Q) x := by
  cases x <;> simp [glue]
theorem glue_nil (x : Except (Nat × Nat) (List Tok)) : glue [] x = x := by cases x <;> rfl

/-- The tokens of a text that begins at a place, so many steps at most. -/
def lexF : Nat → Nat → List UInt8 → Except (Nat × Nat) (List Tok)
  | 0, _, _ => .ok []
  | _ + 1, _, [] => .ok []
  | f + 1, p, c :: r => match lexeme c r with
    | (.ok Option.none, n) => lexF f (p + 1 + n) (r.drop n)
    | (.ok (some (k, t, v)), n) => glue [⟨k, p, t, v⟩] (lexF f (p + 1 + n) (r.drop n))
    | (.error e, _) => .error (e, p)
/-- The tokens of a text that begins at a place. -/
def lexW (p : Nat) (S : List UInt8) : Except (Nat × Nat) (List Tok) := lexF S.length p S
end Go.Proofs.Ytpbinkmeldkehaa
namespace Go.Proofs.Ytpbinkmeldkehaa
open Go Go.RowKit
set_option maxRecDepth 20000

end Go.Proofs.Ytpbinkmeldkehaa
namespace Go.Proofs.Ytpbinkmeldkehaa
open Go Go.RowKit
set_option maxRecDepth 20000

/-- Where a walk stands still. -/
def StopT (p : Prop) : Prop := p
theorem of_stopT {p : Prop} (h : StopT p) : p := h
/-- A token's cells. -/
def tv (k p : Int) (t : ByteArray) (n : Int) : Array Value := #[.int .i64 k, .int .i64 p, .string t, .int .i64 n]
theorem eqFields_step {P : Program} (w : World) {d : Nat} {xs ys : Array Value} {f : Field} {fs : List Field} {a b : Value} {r R : Bool} (hn : f.name ≠ "_") (ha : (part f.type xs f.offset).run P w = .ok a w) (hb : (part f.type ys f.offset).run P w = .ok b w)
    (he : (Op.equalIn d f.type a b).run P w = .ok r w) (h : (Op.eqFields d xs ys fs).run P w = .ok R w) : (Op.eqFields d xs ys (f :: fs)).run P w = .ok (r && R) w := by
  simp only [Op.eqFields, if_pos hn, Sem.run_bind, ha, hb, he, Result.andThen_ok]
  cases r
  · simp
  · simpa using h
theorem part_cell {P : Program} (w : World) {t : TypeId} {xs : Array Value} {k : Nat} {v : Value} (ha : (isAgg t).run P w = .ok false w) (hx : xs[k]? = some v) : (part t xs k).run P w = .ok v w := by
  simp [part, ha, hx, Sem.run_bind]
end Go.Proofs.Ytpbinkmeldkehaa
namespace Go.Proofs.Ytpbinkmeldkehaa
open Go Go.RowKit
set_option maxRecDepth 20000

/-- A rule. -/
structure RuleM where
  order : Int
  cube : List Int × List Int
  action : Int
def okR8 (r : RuleM) : Prop := Byt r.cube.1 ∧ Byt r.cube.2
def ruleV (r : RuleM) : Array Value := #[.int .i64 r.order] ++ (cv r.cube.1 r.cube.2 ++ #[.int .i64 r.action])
def RuleE : El := ⟨44, 27, 28, 48, #[.int .i64 0] ++ (zeroC ++ #[.int .i64 0])⟩
theorem RuleOk : RuleE.Ok := ⟨Try.underlying27, ⟨_, Try.underlying44, rfl⟩, by kernel_rfl, by decide, by decide, by decide, by decide⟩
theorem ruleV_size {r : RuleM} (h : okR8 r) : (ruleV r).size = 28 := by
  unfold ruleV
  simp [cv_size _ _ h.1.1 h.2.1]
theorem rule_fits {r : RuleM} (h : okR8 r) : Fits RuleE (ruleV r) := by
  refine ⟨ruleV_size h, ?_⟩
  unfold ruleV
  rw [Array.all_append, Array.all_append, cv_one]
  simp [Value.oneCell']
theorem list13 {V : List Int} (h : V.length = 13) : ∃ a b c d e f g i j k l m n, V = [a, b, c, d, e, f, g, i, j, k, l, m, n] := by
  match V, h with
  | [a, b, c, d, e, f, g, i, j, k, l, m, n], _ => exact ⟨a, b, c, d, e, f, g, i, j, k, l, m, n, rfl⟩
/-- A rule's cells. -/
theorem rule_at {r : RuleM} (h : okR8 r) : (ruleV r)[0]? = some (.int .i64 r.order) ∧ (∀ j, j < 26 → (ruleV r)[1 + j]? = (cv r.cube.1 r.cube.2)[j]?) ∧ (ruleV r)[27]? = some (.int .i64 r.action) := by
  have hs := cv_size _ _ h.1.1 h.2.1
  unfold ruleV
  refine ⟨?_, fun j hj => ?_, ?_⟩
  · rw [Array.getElem?_append_left (by simp)]; rfl
  · rw [Array.getElem?_append_right (by simp), Array.getElem?_append_left (by simp [hs]; omega)]
    simp
  · rw [Array.getElem?_append_right (by simp), Array.getElem?_append_right (by simp [hs])]
    simp [hs]
theorem zero_rule : RuleE.zero = ruleV ⟨0, (Z, Z), 0⟩ := by
  unfold RuleE ruleV
  rw [← zeroC_eq]
set_option maxRecDepth 100000 in
theorem build_rule (n a : Int) (V M : List Int) (hV : V.length = 13) (hM : M.length = 13) (W : World) : (Instr.build 44 #[(0, .int .i64 n), (1, .agg (cv V M)), (2, .int .i64 a)]).run Try.prog W = .ok (.agg (ruleV ⟨n, (V, M), a⟩)) W := by
  obtain ⟨a0, a1, a2, a3, a4, a5, a6, a7, a8, a9, a10, a11, a12, rfl⟩ := list13 hV
  obtain ⟨b0, b1, b2, b3, b4, b5, b6, b7, b8, b9, b10, b11, b12, rfl⟩ := list13 hM
  kernel_rfl
theorem wl_buildR {ops : Array Oper} {rest : List Oper} {o : Oper} {a : Act} {w : World} {Q : Exit → Act → World → Prop} (hgd : o.guard = none) (x y z : Operand) (ho : o.op = .build 44 #[(0, x), (1, y), (2, z)]) (n : Int) (V M : List Int) (c : Int) (hV : V.length = 13) (hM : M.length = 13)
    (hx : a.eval x = .int .i64 n) (hy : a.eval y = .agg (cv V M)) (hz : a.eval z = .int .i64 c) (h : wpList Try.prog ops Q rest (a.put o.dst (.agg (ruleV ⟨n, (V, M), c⟩))) w) : wpList Try.prog ops Q (o :: rest) a w := by
  refine wpList_plain hgd fun _ hK => ?_
  unfold Oper.wp execOp
  simp only [ho, Sem.run_bind, List.map_toArray, List.map_cons, List.map_nil, hx, hy, hz, build_rule n c V M hV hM, Result.andThen_ok, Sem.run_pure]
  exact hK _ _ h
theorem eqC_in (V M V' M' : List Int) (hV : V.length = 13) (hM : M.length = 13) (hV' : V'.length = 13) (hM' : M'.length = 13) (w : World) :
    (Op.equalIn 9999 42 (.agg (cv V M)) (.agg (cv V' M'))).run Try.prog w = .ok (V == V' && M == M') w := by
  have eH : ∀ A B : List Int, A.length = 13 → B.length = 13 → ∀ w, (Op.equalIn 9998 38 (.agg (hv A)) (.agg (hv B))).run Try.prog w = .ok (A == B) w := fun A B hA hB w => by
    have z5 : (sizeOf 5).run Try.prog w = .ok 1 w := by kernel_rfl
    rw [show (9998 : Nat) = 9997 + 1 from rfl, Op.equalIn]
    simp only [Sem.run_bind, run_underlying Try.underlying38, Result.andThen_ok, z5]
    simp only [Std.Legacy.Range.forIn_eq_forIn_range', Std.Legacy.Range.size, Nat.sub_zero, Nat.add_sub_cancel, Nat.div_one]
    rw [← all_eq A B hA hB]
    exact loopN 9996 A B hA hB w _ rfl rfl (List.range' 0 13) (fun i hi => by simp at hi; omega)
  rw [show (9999 : Nat) = 9998 + 1 from rfl, run_equalIn_struct w 9998 42 _ _ (by kernel_rfl) (by kernel_rfl)]
  rw [show (Try.prog.fieldsOf 42).toList = [{ name := "Value", type := 38, offset := 0, embedded := false, tag := "", pkgPath := "", byteOffset := 0 }, { name := "Mask", type := 38, offset := 13, embedded := false, tag := "", pkgPath := "", byteOffset := 13 }] from by kernel_rfl]
  simp only [Op.eqFields, ne_eq, String.reduceEq, not_false_eq_true, if_true, Sem.run_bind]
  simp only [part_val V M hV, part_val V' M' hV', Result.andThen_ok, eH V V' hV hV']
  cases hA : (V == V')
  · simp
  · simp only [Bool.not_true, Bool.false_eq_true, if_false, Sem.run_bind, part_mask V M hV hM, part_mask V' M' hV' hM', Result.andThen_ok, eH M M' hM hM']
    cases hB : (M == M') <;> simp
/-- A rule is the same as itself. -/
theorem eqR_same {r : RuleM} (h : okR8 r) (w : World) : (Op.equalIn 10000 44 (.agg (ruleV r)) (.agg (ruleV r))).run Try.prog w = .ok true w := by
  have hs := cv_size _ _ h.1.1 h.2.1
  obtain ⟨c0, c1, c2⟩ := rule_at h
  have hp : (part 42 (ruleV r) 1).run Try.prog w = .ok (.agg (cv r.cube.1 r.cube.2)) w := by
    have hz : ∀ w, (sizeOf 42).run Try.prog w = .ok 26 w := fun w => by kernel_rfl
    have ha : ∀ w, (isAgg 42).run Try.prog w = .ok true w := fun w => by kernel_rfl
    have e : (ruleV r).extract 1 27 = cv r.cube.1 r.cube.2 := by
      apply Array.ext_getElem?
      intro k
      rw [Array.getElem?_extract]
      have hz := ruleV_size h
      split
      · rename_i hk
        rw [hz] at hk
        exact c1 k (by omega)
      · rename_i hk
        rw [hz] at hk
        rw [Array.getElem?_eq_none (by omega)]
    simp [part, ha, hz, Sem.run_bind, e]
  have a3 : (isAgg 3).run Try.prog w = .ok false w := by kernel_rfl
  have hh : (Op.equalIn 10000 44 (.agg (ruleV r)) (.agg (ruleV r))).run Try.prog w = .ok ((r.order == r.order) && ((r.cube.1 == r.cube.1 && r.cube.2 == r.cube.2) && ((r.action == r.action) && true))) w := by
    rw [run_equalIn_struct w 9999 44 _ _ Try.underlying44 (by kernel_rfl)]
    simp only [Program.fieldsOf, Try.underlying44]
    refine eqFields_step w (by decide) (part_cell w a3 c0) (part_cell w a3 c0) (run_equalIn_int w _ 3 .i64 .i64 _ _ Try.underlying3) ?_
    refine eqFields_step w (by decide) hp hp (eqC_in _ _ _ _ h.1.1 h.2.1 h.1.1 h.2.1 w) ?_
    refine eqFields_step w (by decide) (part_cell w a3 c2) (part_cell w a3 c2) (run_equalIn_int w _ 3 .i64 .i64 _ _ Try.underlying3) ?_
    rfl
  rw [hh]
  simp
theorem egR (op : BinOp) (x y : Operand) (xs ys : Array Value) (w : World) : (eqGuard op 44 x y (.agg xs) (.agg ys)).run Try.prog w = .ok () w :=
  run_eqGuard_agg w op 44 x y xs ys (by kernel_rfl)
theorem cub_load {w : World} {g off : Nat} {cur : Array Value} {t : TypeId} {fr : Nat × Nat} {V M : List Int} (hV : V.length = 13) (hM : M.length = 13) (hg : w.heap[g]? = some (.cells cur t fr)) (hc : ∀ j, j < 26 → cur[off + j]? = (cv V M)[j]?) :
    (loadVar 42 ⟨g, off, none⟩).run Try.prog w = .ok (.agg (cv V M)) w := by
  have hl : (loadCells ⟨g, off, none⟩ (cv V M).toList.length).run Try.prog w = .ok (cv V M).toList.toArray w :=
    run_loadCells_list (P := Try.prog) w ⟨g, off, none⟩ (cv V M).toList (fun j v hv => by
      have hadd : (⟨g, off, none⟩ : Addr).add j = ⟨g, off + j, none⟩ := by unfold Addr.add; split <;> simp_all
      have hj : j < 26 := by
        have := (List.getElem?_eq_some_iff.1 hv).1
        rw [Array.length_toList, cv_size V M hV hM] at this
        omega
      rw [hadd, cell_of_row w g (off + j) cur t fr hg, hc j hj]
      simpa using hv)
  have hz : ∀ w, (sizeOf 42).run Try.prog w = .ok 26 w := fun w => by kernel_rfl
  have ha : ∀ w, (isAgg 42).run Try.prog w = .ok true w := fun w => by kernel_rfl
  rw [Array.length_toList, cv_size V M hV hM, Array.toArray_toList] at hl
  simp [loadVar, Sem.run_bind, ha, hz, hl]
theorem wl_loadCw {ops : Array Oper} {rest : List Oper} {o : Oper} {a : Act} {w : World} {Q : Exit → Act → World → Prop} (hw : Region.wanted o (yielded ops a.tmps) = true) (x : Operand) (ho : o.op = .load 42 x)
    (g off : Nat) (hx : a.eval x = .pointer (some ⟨g, off, none⟩)) (cur : Array Value) (t : TypeId) (fr : Nat × Nat) (V M : List Int) (hV : V.length = 13) (hM : M.length = 13) (hg : w.heap[g]? = some (.cells cur t fr)) (hc : ∀ j, j < 26 → cur[off + j]? = (cv V M)[j]?)
    (h : wpList Try.prog ops Q rest (a.put o.dst (.agg (cv V M))) w) : wpList Try.prog ops Q (o :: rest) a w := by
  refine wpList_step fun K hK => ?_
  rw [if_pos hw]
  unfold Oper.wp execOp
  simp only [ho, hx, Instr.loadAt, Instr.sureAddr, Sem.run_bind, Sem.run_pure, Result.andThen_ok, cub_load hV hM hg hc]
  exact hK _ _ h

theorem qlCw {K : World → Prop} {ops : Array Oper} {Q : Act → Prop} {rest : List Oper} {o : Oper} {a : Act} (hw : Region.wanted o (yielded ops a.tmps) = true) (x : Operand) (ho : o.op = .load 42 x)
    (g off : Nat) (hx : a.eval x = .pointer (some ⟨g, off, none⟩)) (cur : Array Value) (t : TypeId) (fr : Nat × Nat) (V M : List Int) (hV : V.length = 13) (hM : M.length = 13) (hg : ∀ w', K w' → w'.heap[g]? = some (.cells cur t fr)) (hc : ∀ j, j < 26 → cur[off + j]? = (cv V M)[j]?)
    (h : wpQuiet Try.prog ops K Q rest (a.put o.dst (.agg (cv V M)))) : wpQuiet Try.prog ops K Q (o :: rest) a := by
  refine BigFrame.wpQuiet_want hw fun K' hK => ⟨.agg (cv V M), fun w hC => ?_, hK _ h⟩
  unfold Oper.quietAt execOp
  simp only [ho, hx, Instr.loadAt, Instr.sureAddr, Sem.run_bind, Sem.run_pure, Result.andThen_ok, cub_load hV hM (hg w hC) hc]
  exact ⟨rfl, rfl⟩
end Go.Proofs.Ytpbinkmeldkehaa
namespace Go.Proofs.Ytpbinkmeldkehaa
open Go Go.RowKit
set_option maxRecDepth 20000

/-- An operation that only reckons or reads. -/
def isRead (o : Oper) : Bool :=
  match o.op with
  | .move _ | .load _ _ | .binOp _ _ _ _ _ | .indexAddr _ _ _ | .extract _ _ | .assign _ | .fieldAddr _ _ _ | .slice _ _ _ _ _ => true
  | _ => false

theorem read_value {P : Program} {ρ : Operand → Value} {o : Oper} (h : isRead o = true) (w : World) (nx : Next) (w' : World) (hr : (execOp ρ o).run P w = .ok nx w') : ∃ u, nx = .value u := by
  unfold isRead at h
  unfold execOp at hr
  split at h
  · rename_i x e
    simp only [e, Sem.run_pure, Result.ok.injEq] at hr
    exact ⟨_, hr.1.symm⟩
  · rename_i t x e
    simp only [e, Sem.run_bind, Sem.run_pure] at hr
    revert hr
    generalize (Instr.loadAt t (ρ x)).run P w = r
    intro hr
    cases r with
    | ok a w1 => simp only [Result.andThen_ok, Result.ok.injEq] at hr; exact ⟨_, hr.1.symm⟩
    | halt x w1 => simp [Result.andThen] at hr
  · rename_i op t x y z e
    simp only [e, Sem.run_bind, Sem.run_pure] at hr
    revert hr
    generalize ((eqGuard op t x y (ρ x) (ρ y)).run P w).andThen (fun _ w' => (binOp op t (ρ x) (ρ y)).run P w') = r
    intro hr
    cases r with
    | ok a w1 => simp only [Result.andThen_ok, Result.ok.injEq] at hr; exact ⟨_, hr.1.symm⟩
    | halt x w1 => simp [Result.andThen] at hr
  · rename_i t x y e
    simp only [e, Sem.run_bind, Sem.run_pure] at hr
    revert hr
    generalize (Instr.indexAt t (ρ x) (ρ y)).run P w = r
    intro hr
    cases r with
    | ok a w1 => simp only [Result.andThen_ok, Result.ok.injEq] at hr; exact ⟨_, hr.1.symm⟩
    | halt x w1 => simp [Result.andThen] at hr
  · rename_i x i e
    simp only [e, Sem.run_bind, Sem.run_pure] at hr
    revert hr
    generalize (Instr.extract (ρ x) i).run P w = r
    intro hr
    cases r with
    | ok a w1 => simp only [Result.andThen_ok, Result.ok.injEq] at hr; exact ⟨_, hr.1.symm⟩
    | halt x w1 => simp [Result.andThen] at hr
  · rename_i x e
    simp only [e, Sem.run_pure, Result.ok.injEq] at hr
    exact ⟨_, hr.1.symm⟩
  · rename_i t x i e
    simp only [e, Sem.run_bind, Sem.run_pure] at hr
    revert hr
    generalize (Instr.fieldAt t (ρ x) i).run P w = r
    intro hr
    cases r with
    | ok a w1 => simp only [Result.andThen_ok, Result.ok.injEq] at hr; exact ⟨_, hr.1.symm⟩
    | halt x w1 => simp [Result.andThen] at hr
  · rename_i t x lo hi mx e
    simp only [e, Sem.run_bind, Sem.run_pure] at hr
    revert hr
    generalize (Instr.sliceAt t (ρ x) (lo.map ρ) (hi.map ρ) (mx.map ρ)).run P w = r
    intro hr
    cases r with
    | ok a w1 => simp only [Result.andThen_ok, Result.ok.injEq] at hr; exact ⟨_, hr.1.symm⟩
    | halt x w1 => simp [Result.andThen] at hr
  · cases h

theorem yieldsIf_of_in {P : Program} {ops : Array Oper} {S : World → Prop} {o : Oper} {v : Value} {a : Act} (h : isRead o = true) (hy : YieldsIn P ops S o v a) : YieldsIf P ops S o v a := by
  rcases hy with ⟨hw, hv⟩ | hn
  · refine .inl ⟨hw, fun w hS => ?_⟩
    have hq := hv w hS
    unfold Oper.quietAt at hq
    cases hr : (execOp a.eval o).run P w with
    | ok nx w' =>
      obtain ⟨u, rfl⟩ := read_value h w nx w' hr
      rw [hr] at hq
      obtain ⟨rfl, rfl⟩ := hq
      rfl
    | halt x w' => rw [hr] at hq; exact hq.elim
  · exact .inr hn

def headFrom (md : Region.Mode) (ops : Array Oper) : Nat → Nat → Array Bool → Bool
  | 0, _, _ => true
  | f + 1, k, listed => (Region.ready md ops listed).contains k && Region.free md ops listed k && headFrom md ops f (k + 1) (listed.setIfInBounds k true)
def listedFrom : Nat → Nat → Array Bool → Array Bool
  | 0, _, l => l
  | f + 1, k, l => listedFrom f (k + 1) (l.setIfInBounds k true)

theorem reads_held {P : Program} {md : Region.Mode} {ops : Array Oper} {Q : Exit → Act → World → Prop} {S : World → Prop} {g : Nat} (hs : Region.noSelect ops = true) (hQ : ∀ d v c a w, Q (.panic c) (Act.put a d v) w → Q (.panic c) a w) (w : World) (hS : S w) :
    ∀ (l : List Oper) (k : Nat) (listed : Array Bool) (a : Act), (∀ j, j < l.length → l[j]? = ops[k + j]?) → headFrom md ops l.length k listed = true → l.all isRead = true →
      wpQuiet P ops S (fun a' => wpAnyH P md ops Q S g (listedFrom l.length k listed) a' w) l a → wpAnyH P md ops Q S (l.length + g) listed a w
  | [], _, _, _, _, _, _, h => by simpa [wpQuiet, listedFrom] using h
  | o :: l, k, listed, a, hl, hB, hr, h => by
    have h0 : ops[k]? = some o := by simpa using (hl 0 (by simp)).symm
    simp only [List.length_cons, headFrom, Bool.and_eq_true] at hB
    simp only [List.all_cons, Bool.and_eq_true] at hr
    have hst : qOp P ops S k (wpQuiet P ops S (fun a' => wpAnyH P md ops Q S g (listedFrom (o :: l).length k listed) a' w) l) a := by
      unfold qOp; simp only [h0]; exact h
    obtain ⟨v, hy, hK⟩ := yieldsIn_of_qOp h0 hst
    have ih := reads_held hs hQ w hS l (k + 1) (listed.setIfInBounds k true) (a.put o.dst v) (fun j hj => by
      have := hl (j + 1) (by simp; omega)
      simpa [Nat.add_assoc, Nat.add_comm 1 j] using this) hB.2 hr.2 hK
    rw [show (o :: l).length + g = (l.length + g) + 1 by simp; omega]
    exact wpAnyH_take h0 hs hB.1.2 hB.1.1 (fun c a w => hQ o.dst v c a w) (yieldsIf_of_in hr.1 hy) hS ih

/-- A drawn region, from its beginning. -/
theorem region_begin {P : Program} {id : Nat} {Q : Exit → Act → World → Prop} {a : Act} {w : World} {lo : List Oper} (n : Nat) (hn : lo.length = n) (hm : P.follows .mixedOrders = true)
    (h : wpAnyH P .any lo.toArray Q (fun w' => ∃ u : Later w, w' = u.world) n (Array.replicate n false) a w.drew) : (Code.region id lo.toArray true).wp P Q a w := by
  refine wp_region_held (S := fun w' => ∃ u : Later w, w' = u.world) hm ?_
  rw [show lo.toArray.size = n by simpa using hn]
  exact h
/-- The same with a class of worlds of one's own. -/
theorem region_beginS {P : Program} {id : Nat} {Q : Exit → Act → World → Prop} {a : Act} {w : World} {lo : List Oper} (S : World → Prop) (n : Nat) (hn : lo.length = n) (hm : P.follows .mixedOrders = true)
    (h : wpAnyH P .any lo.toArray Q S n (Array.replicate n false) a w.drew) : (Code.region id lo.toArray true).wp P Q a w := by
  refine wp_region_held (S := S) hm ?_
  rw [show lo.toArray.size = n by simpa using hn]
  exact h
/-- n operations, from number k on, that only read, are taken first. -/
theorem region_reads {P : Program} {Q : Exit → Act → World → Prop} {S : World → Prop} {a : Act} {w : World} {lo : List Oper} {listed : Array Bool} (k n g : Nat) (hl : ((lo.drop k).take n).length = n) (hs : Region.noSelect lo.toArray = true)
    (hB : headFrom .any lo.toArray n k listed = true) (hr : ((lo.drop k).take n).all isRead = true) (hQ : ∀ d v c a w, Q (.panic c) (Act.put a d v) w → Q (.panic c) a w) (hS : S w)
    (h : wpQuiet P lo.toArray S (fun a' => wpAnyH P .any lo.toArray Q S g (listedFrom n k listed) a' w) ((lo.drop k).take n) a) : wpAnyH P .any lo.toArray Q S (n + g) listed a w := by
  have := reads_held (P := P) (md := .any) (Q := Q) (g := g) hs hQ w hS ((lo.drop k).take n) k listed a (fun j hj => by
    rw [hl] at hj
    rw [List.getElem?_take_of_lt hj, List.getElem?_drop]
    simp) (by rw [hl]; exact hB) hr (by rw [hl]; exact h)
  rwa [hl] at this
/-- A cut behind a region. -/
theorem region_cut {P : Program} {c : Code} {Q : Exit → Act → World → Prop} {a : Act} {w : World} (F : Act → Act → World → Prop) (h1 : c.wp P (fun e a' w' => e = .normal ∧ F a a' w') a w) (h2 : ∀ a' w', F a a' w' → Q .normal a' w') : c.wp P Q a w :=
  Code.wp_mono (by rintro e a' w' ⟨rfl, h⟩; exact h2 a' w' h) h1

theorem wpOp_wanted {P : Program} {ops : Array Oper} {Q : Exit → Act → World → Prop} {i : Nat} {o : Oper} {K : Act → World → Prop} {a : Act} {w : World} (hi : ops[i]? = some o) (hw : Region.wanted o (yielded ops a.tmps) = true) (h : o.wp P a w K Q) : wpOp P ops Q i K a w := by
  unfold Go.wpOp
  simp only [hi, hw, if_true]
  exact .inl h
theorem wpOp_call {ops : Array Oper} {Q : Exit → Act → World → Prop} {i : Nat} {o : Oper} {K : Act → World → Prop} {a : Act} {w : World} (hi : ops[i]? = some o) (hw : Region.wanted o (yielded ops a.tmps) = true) (f : FuncId) (xs : Array Operand)
    (hf : ∀ (b : Act) (w : World), (execOp b.eval o).run Try.prog w = .ok (.enter f (xs.map b.eval)) w) (vs : Array Value) (hvs : xs.toList.map a.eval = vs.toList)
    (D : Value → World → Prop) (h : Calls Try.prog f vs w fun e w' => ∃ v, e = .returned v ∧ D v w') (d : Option Tmp) (hd : o.dst = d) (hK : ∀ v w', D v w' → K (a.put d v) w') : wpOp Try.prog ops Q i K a w := by
  subst hd
  refine wpOp_wanted hi hw ?_
  unfold Oper.wp
  rw [hf a w, show xs.map a.eval = vs from Array.ext' (by rw [Array.toList_map]; exact hvs)]
  refine h.mono ?_
  rintro e w' ⟨v, rfl, hc⟩
  exact hK v w' hc
theorem wpOp_allocC {ops : Array Oper} {Q : Exit → Act → World → Prop} {i : Nat} {o : Oper} {K : Act → World → Prop} {a : Act} {w : World} (hi : ops[i]? = some o) (hw : Region.wanted o (yielded ops a.tmps) = true) (ho : o.op = .alloc 42) (d : Option Tmp) (hd : o.dst = d)
    (hK : K (a.put d (.pointer (some ⟨w.heap.size, 0, none⟩))) (w.alloc (.cells zeroC 42))) : wpOp Try.prog ops Q i K a w := by
  subst hd
  refine wpOp_wanted hi hw ?_
  obtain ⟨dst, op, ty, pos, after, guard⟩ := o
  subst ho
  unfold Oper.wp
  have : ∀ (b : Act), (execOp b.eval ⟨dst, .alloc 42, ty, pos, after, guard⟩).run Try.prog w = .ok (.value (.pointer (some ⟨w.heap.size, 0, none⟩))) (w.alloc (.cells zeroC 42)) := fun b => by simp [go_sem]
  rw [this a]
  exact hK
theorem wpOp_storeC {ops : Array Oper} {Q : Exit → Act → World → Prop} {i : Nat} {o : Oper} {K : Act → World → Prop} {a : Act} {w : World} (hi : ops[i]? = some o) (hw : Region.wanted o (yielded ops a.tmps) = true) (x y : Operand) (ho : o.op = .store 42 x y)
    (g : Nat) (V M : List Int) (hx : a.eval x = .pointer (some ⟨g, 0, none⟩)) (hy : a.eval y = .agg (cv V M)) (old : Array Value) (hg : w.heap[g]? = some (.cells old 42 (0, 0))) (hold : old.size = 26) (hV : V.length = 13) (hM : M.length = 13) (d : Option Tmp) (hd : o.dst = d)
    (hK : K (a.put d undef) (w.setRow g (cv V M))) : wpOp Try.prog ops Q i K a w := by
  subst hd
  exact wpOp_wanted hi hw (wp_store_row 42 x y ho g (cv V M) hx hy 42 old hg (sizeC V M hV hM) (by rw [cv_size V M hV hM, hold]) (cv_one V M) hK)
theorem wpOp_assign {P : Program} {ops : Array Oper} {Q : Exit → Act → World → Prop} {i : Nat} {o : Oper} {K : Act → World → Prop} {a : Act} {w : World} (hi : ops[i]? = some o) (hw : Region.wanted o (yielded ops a.tmps) = true) (x : Operand) (ho : o.op = .assign x) (v : Value) (hx : a.eval x = v) (d : Option Tmp) (hd : o.dst = d)
    (hK : K (a.put d v) w) : wpOp P ops Q i K a w := by
  subst hd hx
  refine wpOp_wanted hi hw ?_
  unfold Oper.wp execOp
  simp only [ho, Sem.run_pure]
  exact hK
end Go.Proofs.Ytpbinkmeldkehaa
namespace Go.Proofs.Ytpbinkmeldkehaa
open Go Go.RowKit
set_option maxRecDepth 20000

/-- The first rule that has a header. -/
def hasR (H : List Int) (r : RuleM) : Bool := has r.cube.1 r.cube.2 H
def rule0 : RuleM := ⟨0, (Z, Z), 0⟩
def lookT (l : List RuleM) (H : List Int) : RuleM × Bool := match l.find? (hasR H) with
  | some r => (r, true)
  | none => (rule0, false)
theorem find_take_none {α : Type} {p : α → Bool} {l : List α} {k : Nat} {x : α} (h : (l.take k).find? p = none) (hx : l[k]? = some x) (hp : p x = false) : (l.take (k + 1)).find? p = none := by
  rw [List.take_add_one, hx, List.find?_append, h]
  simp [hp]
theorem find_of_take {α : Type} {p : α → Bool} {l : List α} {k : Nat} {x : α} (h : (l.take k).find? p = none) (hx : l[k]? = some x) (hp : p x = true) : l.find? p = some x := by
  obtain ⟨hk, rfl⟩ := List.getElem?_eq_some_iff.1 hx
  conv => lhs; rw [← List.take_append_drop k l]
  rw [List.find?_append, h, List.drop_eq_getElem_cons hk, List.find?_cons, hp]
  rfl
theorem rule0_ok : okR8 rule0 := ⟨Z_byt, Z_byt⟩
/-- The end of a function that answers a rule in memory and a truth value. -/
theorem retRb {fn : Func} {R : Ending → World → Prop} {a : Act} {w : World} {p u : Tmp} (hr : fn.results = #[.cell p 44, .tmp u]) (hd : a.defers = []) (g : Nat) (hp : a.tmps.getD p undef = .pointer (some ⟨g, 0, none⟩)) (r : RuleM) (hk : okR8 r)
    (hg : w.heap[g]? = some (.cells (ruleV r) 44 (0, 0))) (v : Value) (hv : a.tmps.getD u undef = v) (h : R (.returned (.tuple #[.agg (ruleV r), v])) w) : bodyPost Try.prog fn R .ret a w := by
  refine bodyPost_ret (v := .tuple #[.agg (ruleV r), v]) ?_ hd h
  have hl := RuleOk.load w g 0 _ _ _ (ruleV r) (ruleV_size hk) hg (own_cells _ _)
  unfold RuleE at hl
  simp only at hl
  have hp' : a.tmps[p]?.getD undef = .pointer (some ⟨g, 0, none⟩) := by simpa using hp
  have hv' : a.tmps[u]?.getD undef = v := by simpa using hv
  simp [results, hr, hp', hv', hl, asAddr]

def RulesAt (w : World) (v : Value) (l : List RuleM) : Prop := GSl RuleE ruleV w v l
set_option maxHeartbeats 8000000 in
set_option maxRecDepth 100000 in
theorem look_any (l : List RuleM) (hl0 : ∀ r ∈ l, okR8 r) (vl : Value) (H : List Int) (hH : Byt H) (w : World) (hl : RulesAt w vl l) :
    Calls Try.prog 18 #[vl, .agg (hv H)] w fun e w' => e = .returned (.tuple #[.agg (ruleV (lookT l H).1), .bool (lookT l H).2]) ∧ Below w.heap.size w w' := by
  have hHl := hH.1
  have HA : Hid (∀ (V M : List Int) W, Byt V → Byt M → Calls Try.prog 33 #[.agg (cv V M), .agg (hv H)] W fun e w' => e = .returned (.bool (has V M H)) ∧ Below W.heap.size W w') := fun V M W h1 h2 => has_any V M H h1 h2 hH W
  obtain ⟨o, cap, rfl, hc1, hc2⟩ := GSl.slice hl
  obtain ⟨n, hn0⟩ : ∃ n, n = l.length := ⟨_, rfl⟩
  have HN : Hid (n = l.length) := hn0
  rw [← hn0] at hl hc1 ⊢
  have HL : Hid (RulesAt w (.slice o n cap) l) := hl
  have HOK : Hid (∀ r ∈ l, okR8 r) := hl0
  unfold maxLen at hc2
  have K0 : Hid (((w.alloc (.cells (hv H) 38)).alloc (.cells RuleE.zero 44)).heap[w.heap.size]? = some (.cells (hv H) 38 (0, 0)) ∧ ((w.alloc (.cells (hv H) 38)).alloc (.cells RuleE.zero 44)).heap[w.heap.size + 1]? = some (.cells RuleE.zero 44 (0, 0))) := ⟨heap_past _ _ _ _ (heap_new _ _ _ rfl), heap_new _ _ _ (by simp)⟩
  have B0 : Hid (Below w.heap.size w ((w.alloc (.cells (hv H) 38)).alloc (.cells RuleE.zero 44))) := ((Below.refl _ _).alloc (Nat.le_refl _) _).alloc (by simp) _
  obtain ⟨S, hS⟩ : ∃ S, S = lookT l H := ⟨_, rfl⟩
  have HS : Hid (S = lookT l H) := hS
  rw [← hS]
  clear hl hn0 hl0 hS
  go_enter Try.func18, Try.ntmps18
  go_wp2_with fail
  go_loopw [10] (fun i wr => ∃ k : Nat, k ≤ n ∧ i = .int .i64 (k : Int) ∧ Hid ((l.take k).find? (hasR H) = none) ∧ wr.heap[w.heap.size]? = some (.cells (hv H) 38 (0, 0)) ∧ wr.heap[w.heap.size + 1]? = some (.cells RuleE.zero 44 (0, 0)) ∧ Below w.heap.size w wr) (fun i _ => n - (intOf i).toNat)
  case atStart => exact ⟨0, Nat.zero_le _, rfl, rfl, K0.out.1, K0.out.2, B0.out⟩
  case round =>
    clear K0 B0
    obtain ⟨k, hk, rfl, HF, h1, h2, hb⟩ := hrel
    have R1 : Hid (wr.heap[w.heap.size]? = some (.cells (hv H) 38 (0, 0))) := h1
    have R2 : Hid (wr.heap[w.heap.size + 1]? = some (.cells RuleE.zero 44 (0, 0))) := h2
    have HB : Hid (Below w.heap.size w wr) := hb
    clear h1 h2 hb
    by_cases hlt : k < n
    · have hlt' : (k : Int) < (n : Int) := by omega
      obtain ⟨g, off, cur, ty, fr, r, rfl, hg, hc, hxk⟩ := (GSl.below HL.out HB.out).at k hlt
      have hr : okR8 r := HOK.out r (List.mem_of_getElem? hxk)
      have HR : Hid (okR8 r) := hr
      have hsz := ruleV_size hr
      have K1 : Hid (wr.heap[g]? = some (.cells cur ty fr)) := hg
      have H1 : Hid (∀ j, j < 28 → cur[off + k * 28 + j]? = (ruleV r)[j]?) := hc
      have KN : Hid ((wr.alloc (.cells (ruleV r) 44)).heap[wr.heap.size]? = some (.cells (ruleV r) 44 (0, 0))) := heap_new _ _ _ rfl
      have RN1 : Hid ((wr.alloc (.cells (ruleV r) 44)).heap[w.heap.size]? = some (.cells (hv H) 38 (0, 0))) := heap_past _ _ _ _ R1.out
      have RN2 : Hid ((wr.alloc (.cells (ruleV r) 44)).heap[w.heap.size + 1]? = some (.cells RuleE.zero 44 (0, 0))) := heap_past _ _ _ _ R2.out
      have BN : Hid (Below w.heap.size w (wr.alloc (.cells (ruleV r) 44))) := HB.out.alloc HB.out.size _
      have HX : Hid (l[k]? = some r) := hxk
      clear hg hc hxk hr
      go_wp2_with (first
        | (refine wl_loadE (E := RuleE) RuleOk rfl _ rfl g (off + k * 28) rfl cur ty fr (ruleV r) hsz K1.out H1.out ?_)
        | (refine wl_storeE (E := RuleE) RuleOk rfl _ _ rfl wr.heap.size (ruleV r) (rule_fits HR.out) rfl rfl _ (heap_new _ _ _ rfl) rfl _ (setRow_new _ _ _ _ _ rfl) ?_)
        | (refine wl_loadCw rfl _ rfl wr.heap.size 1 rfl _ _ _ r.cube.1 r.cube.2 HR.out.1.1 HR.out.2.1 KN.out (rule_at HR.out).2.1 ?_)
        | (refine wl_load26 rfl _ rfl w.heap.size rfl H RN1.out hHl ?_))
      refine (HA.out r.cube.1 r.cube.2 _ HR.out.1 HR.out.2).mono ?_
      rintro e w1 ⟨rfl, hb1⟩
      have B1 : Hid (Below w.heap.size w w1) := BN.out.trans (hb1.mono BN.out.size)
      have KR : Hid (w1.heap[wr.heap.size]? = some (.cells (ruleV r) 44 (0, 0))) := (hb1.block _ (by simp)).trans KN.out
      have R3 : Hid (w1.heap[w.heap.size]? = some (.cells (hv H) 38 (0, 0))) := (hb1.block _ (Array.getElem?_eq_some_iff.1 RN1.out).1).trans RN1.out
      have R4 : Hid (w1.heap[w.heap.size + 1]? = some (.cells RuleE.zero 44 (0, 0))) := (hb1.block _ (Array.getElem?_eq_some_iff.1 RN2.out).1).trans RN2.out
      clear hb1
      cases hhas : has r.cube.1 r.cube.2 H with
      | true =>
        have HE : Hid (S = (r, true)) := by
          show _ = _
          rw [HS.out]
          unfold lookT
          rw [find_of_take HF.out HX.out hhas]
        clear hhas
        go_wp2_with (first
          | (refine wl_loadE (E := RuleE) RuleOk rfl _ rfl wr.heap.size 0 rfl _ _ _ (ruleV r) hsz KR.out (own_cells _ _) ?_)
          | (refine wl_storeE (E := RuleE) RuleOk rfl _ _ rfl (w.heap.size + 1) (ruleV r) (rule_fits HR.out) rfl rfl _ R4.out rfl _ rfl ?_))
        refine retRb rfl rfl (w.heap.size + 1) rfl r HR.out (setRow_heap _ _ _ _ _ _ R4.out) _ rfl ?_
        rw [HE.out]
        exact ⟨rfl, below_setRow B1.out (by omega) _⟩
      | false =>
        have HF2 : Hid ((l.take (k + 1)).find? (hasR H) = none) := find_take_none HF.out HX.out hhas
        clear hhas
        go_wp2_with fail
        go_roundw
        case rel => exact ⟨k + 1, by omega, by go_num, HF2, R3.out, R4.out, B1.out⟩
        case measure => simp [intOf]; omega
    · have hlt' : ¬ (k : Int) < (n : Int) := by omega
      have HE : Hid (S = (rule0, false)) := by
        have e := HN.out
        have hF := HF.out
        rw [List.take_of_length_le (by omega)] at hF
        show _ = _
        rw [HS.out]
        unfold lookT
        rw [hF]
      have HZ : Hid (RuleE.zero = ruleV rule0) := zero_rule
      go_wp2_with (first
        | (refine wl_storeE (E := RuleE) RuleOk rfl _ _ rfl (w.heap.size + 1) (ruleV rule0) (rule_fits rule0_ok) rfl (by rw [← HZ.out]; rfl) _ R2.out rfl _ rfl ?_))
      refine retRb rfl rfl (w.heap.size + 1) rfl rule0 rule0_ok (setRow_heap _ _ _ _ _ _ R2.out) _ rfl ?_
      rw [HE.out]
      exact ⟨rfl, below_setRow HB.out (by omega) _⟩
end Go.Proofs.Ytpbinkmeldkehaa
