import Derived.Test.YtagogbodkbbikaaJ1
import Derived.Deep.Slices
import Derived.Test.YtagogbodkbbikaaJ6
import Derived.SizedLaws
import Derived.Laws.AppendOwn
import Derived.Laws.OwnMore
import Derived.Laws.AppendOwnNone
import Derived.Maps.AppendAt
import Derived.OwnWalk
import Derived.Lib.Hide
namespace Go.Proofs.Ytagogbodkbbikaa
open Go.ChangeShapes Go.WideShapes Go.ChangeAt Go.WideMaps Go.WideElems Go.RowKit
set_option maxRecDepth 20000

theorem El.Ok.cellsOf {E : El} (H : E.Ok) : Try.prog.cellsOf E.elem = E.size := by
  obtain ⟨i, h1, _, h2, _⟩ := H.info
  simp [Program.cellsOf, h1, h2]

/-- A slice that comes in, of elements that are opened one by one. -/
theorem open_anyK {E : El} (HE : E.Ok) {α : Type} [Inhabited α] (row : α → Array Value) (hrow : ∀ a, (row a).size = E.size) (Q : α → Prop) {H : Type} {enc : TypeId × Value → H} {W : World} {base : Nat} {spare : Nat → Bool} {held : Bool} (Ok : DataW H → Prop)
    (elem : ∀ (fuel : Nat) (cs : List Value) (x : DataW H × List MemPlace), cs.length = E.size → Ok x.1 → DataW.trod enc Try.prog W base spare held fuel E.elem cs = some x → ∃ a, cs = (row a).toList ∧ Q a)
    {fuel : Nat} {v : Value} {x : DataW H × List MemPlace} (hf : DataW.trod enc Try.prog W base spare held fuel E.slice [v] = some x) (hOk : ∀ es sp, x.1 = .slice es sp → ∀ d ∈ es, Ok d) : ∃ C : List α, GSl E row W v C ∧ ∀ c ∈ C, Q c := by
  have hp := HE.hp
  rcases Deep.open_slice HE.hs hf with ⟨h0, _⟩ | ⟨a, len, cap, m, n, D, Pl, h0, hb, hl, hm, hmm, hxe, hx⟩
  · obtain rfl : v = .slice none 0 0 := by simpa using h0
    exact ⟨[], gsl_nil E row W, fun c hc => absurd hc (by simp)⟩
  · obtain rfl : v = .slice (some a) len cap := by simpa using h0
    rw [HE.cellsOf] at hx
    have hlm : len ≤ m := by rw [hmm]; split <;> omega
    have each : ∀ i, i < len → ∃ c : α, Q c ∧ ∀ j, j < E.size → W.cell? (a.add (i * E.size + j)) = (row c)[j]? := fun i hi => by
      obtain ⟨cs', h1, h2⟩ := hx i (by omega)
      obtain ⟨_, hlen, hcell⟩ := World.cells?_some h1
      obtain ⟨c, h3, h4⟩ := elem _ cs' _ hlen (hOk _ _ (by rw [hxe]) _ (List.mem_map.2 ⟨i, List.mem_range.2 hi, rfl⟩)) h2
      refine ⟨c, h4, fun j hj => ?_⟩
      have := hcell j hj
      rw [Deep.add_add] at this
      rw [this, h3]
      simp
    obtain ⟨f, hf⟩ := Deep.choose_lt each
    refine ⟨(List.range len).map f, ⟨some a, cap, by simp, by simpa using hl, hm, fun i hi => ?_⟩, fun c hc => ?_⟩
    · have hi' : i < len := by simpa using hi
      have h1 := (hf i hi').2
      obtain ⟨g, off, sp⟩ := a
      have hj : ∀ j, j < E.size → ∃ cur t fr, W.heap[g]? = some (.cells cur t fr) ∧ cur[off + i * E.size + j]? = (row (f i))[j]? ∧ (i * E.size + j = 0 → sp = none) := fun j hj => by
        have h2 := h1 j hj
        obtain ⟨y, hy⟩ : ∃ y, (row (f i))[j]? = some y := ⟨_, Array.getElem?_eq_getElem (by rw [hrow]; exact hj)⟩
        rw [hy] at h2 ⊢
        unfold World.cell? at h2
        split at h2
        · rename_i cur t fr hq
          have hbk : (Addr.add ⟨g, off, sp⟩ (i * E.size + j)).block = g := by unfold Addr.add; split <;> rfl
          have hof : (Addr.add ⟨g, off, sp⟩ (i * E.size + j)).off = off + i * E.size + j := by unfold Addr.add; split <;> simp_all [Nat.add_assoc]
          rw [hbk] at hq
          rw [hof] at h2
          split at h2
          · cases h2
          · rename_i hsp
            refine ⟨cur, t, fr, hq, h2, fun h0 => ?_⟩
            unfold Addr.add at hsp
            rw [if_pos h0] at hsp
            simpa using hsp
        · cases h2
      have hsp : sp = none := by
        obtain ⟨cur, t, fr, h2, h3, h4⟩ := hj 0 hp
        by_cases hi0 : i = 0
        · exact h4 (by rw [hi0]; simp)
        · have h5 := (hf 0 (by omega)).2 0 hp
          obtain ⟨y, hy⟩ : ∃ y, (row (f 0))[0]? = some y := ⟨_, Array.getElem?_eq_getElem (by rw [hrow]; exact hp)⟩
          rw [hy] at h5
          unfold World.cell? at h5
          split at h5
          · split at h5
            · cases h5
            · rename_i hs
              simpa [Addr.add] using hs
          · cases h5
      subst hsp
      obtain ⟨cur, t, fr, h2, _, _⟩ := hj 0 hp
      refine ⟨g, off, cur, t, fr, rfl, h2, fun j hjl => ?_⟩
      obtain ⟨cur', t', fr', h3, h4, _⟩ := hj j hjl
      rw [h2] at h3
      obtain ⟨rfl, rfl, rfl⟩ : cur = cur' ∧ t = t' ∧ fr = fr' := by simpa using h3
      rw [h4]
      simp
    · rw [List.mem_map] at hc
      obtain ⟨i, hi, rfl⟩ := hc
      exact (hf i (by simpa using hi)).1

/-- A list whose elements hold lists of their own: each row with the value of its inner list. -/
def NSl {α : Type} (E : El) (row : α → Value → Array Value) (R : World → α → Value → Prop) (w : World) (v : Value) (C : List α) : Prop :=
  ∃ P : List (α × Value), P.map (·.1) = C ∧ GSl E (fun p => row p.1 p.2) w v P ∧ ∀ p ∈ P, R w p.1 p.2
theorem NSl.below {α : Type} {E : El} {row : α → Value → Array Value} {R : World → α → Value → Prop} (hR : ∀ w w' a v, Below w.heap.size w w' → R w a v → R w' a v) {w w' : World} {v : Value} {C : List α} (h : NSl E row R w v C) (hb : Below w.heap.size w w') : NSl E row R w' v C := by
  obtain ⟨P, h1, h2, h3⟩ := h
  exact ⟨P, h1, h2.below hb, fun p hp => hR w w' _ _ hb (h3 p hp)⟩
theorem NSl.slice {α : Type} {E : El} {row : α → Value → Array Value} {R : World → α → Value → Prop} {w : World} {v : Value} {C : List α} (h : NSl E row R w v C) : ∃ (o : Option Addr) (cap : Nat), v = .slice o C.length cap ∧ C.length ≤ cap ∧ cap ≤ maxLen := by
  obtain ⟨P, h1, h2, _⟩ := h
  obtain ⟨o, cap, e, h4, h5⟩ := h2.slice
  have hl : P.length = C.length := by rw [← h1, List.length_map]
  rw [hl] at e h4
  exact ⟨o, cap, e, h4, h5⟩
theorem NSl.at {α : Type} {E : El} {row : α → Value → Array Value} {R : World → α → Value → Prop} {w : World} {o : Option Addr} {n cap : Nat} {C : List α} (h : NSl E row R w (.slice o n cap) C) (k : Nat) (hk : k < n) :
    ∃ g off cur t fr, ∃ (c : α) (u : Value), o = some ⟨g, off, none⟩ ∧ w.heap[g]? = some (.cells cur t fr) ∧ (∀ j, j < E.size → cur[off + k * E.size + j]? = (row c u)[j]?) ∧ C[k]? = some c ∧ R w c u := by
  obtain ⟨P, h1, h2, h3⟩ := h
  obtain ⟨g, off, cur, t, fr, c, e1, e2, e3, e4⟩ := h2.at k hk
  exact ⟨g, off, cur, t, fr, c.1, c.2, e1, e2, e3, by rw [← h1, List.getElem?_map, e4]; rfl, h3 c (List.mem_of_getElem? e4)⟩
/-- The same of one's own row. -/
def NOwn {α : Type} (E : El) (row : α → Value → Array Value) (R : World → α → Value → Prop) (w : World) (B : Nat) (v : Value) (C : List α) : Prop :=
  ∃ P : List (α × Value), P.map (·.1) = C ∧ w.ownsRow B E.elem E.size v P.length (gcells (fun p : α × Value => row p.1 p.2) P) ∧ ∀ p ∈ P, R w p.1 p.2
theorem NOwn.sl {α : Type} {E : El} {row : α → Value → Array Value} {R : World → α → Value → Prop} (hrow : ∀ a u, (row a u).size = E.size) {w : World} {B : Nat} {v : Value} {C : List α} (h : NOwn E row R w B v C) : NSl E row R w v C := by
  obtain ⟨P, h1, h2, h3⟩ := h
  exact ⟨P, h1, gsl_of h2 fun c _ => hrow c.1 c.2, h3⟩
theorem NOwn.nil {α : Type} (E : El) (row : α → Value → Array Value) (R : World → α → Value → Prop) (w : World) (B : Nat) : NOwn E row R w B (.slice none 0 0) [] :=
  ⟨[], rfl, World.ownsRow_nil _ _ _ _, fun p hp => by simp at hp⟩
theorem NOwn.below {α : Type} {E : El} {row : α → Value → Array Value} {R : World → α → Value → Prop} (hR : ∀ w w' a v, Below w.heap.size w w' → R w a v → R w' a v) {w w' : World} {B : Nat} {v : Value} {C : List α} (h : NOwn E row R w B v C) (hb : Below w.heap.size w w') : NOwn E row R w' B v C := by
  obtain ⟨P, h1, h2, h3⟩ := h
  exact ⟨P, h1, gown_below h2 hb, fun p hp => hR w w' _ _ hb (h3 p hp)⟩
/-- A row stays as it is while another one grows. -/
theorem own_grown {w w' : World} {b : Option Nat} (hgr : w.grownBy w' b) {B : Nat} {e : TypeId} {s : Nat} {u : Value} {m : Nat} {ys : List Value} (h : w.ownsRow B e s u m ys) (hne : ∀ g, b = some g → u.ownBlock ≠ some g) : w'.ownsRow B e s u m ys := by
  obtain ⟨h0, h1 | ⟨g, cap, cur, rfl, hB, hcur, h3⟩⟩ := h
  · exact ⟨h0, .inl h1⟩
  · refine ⟨h0, .inr ⟨g, cap, cur, rfl, hB, ?_, h3⟩⟩
    rw [hgr.block g (Array.getElem?_eq_some_iff.1 hcur).1 (fun hq => hne g hq.symm rfl)]
    exact hcur
theorem NOwn.grown {α : Type} {E : El} {row : α → Value → Array Value} {R : World → α → Value → Prop} {w w' : World} {b : Option Nat} (hgr : w.grownBy w' b) {B : Nat} {v : Value} {C : List α} (h : NOwn E row R w B v C) (hne : ∀ g, b = some g → v.ownBlock ≠ some g) (hR : ∀ a u, R w a u → R w' a u) : NOwn E row R w' B v C := by
  obtain ⟨P, h1, h2, h3⟩ := h
  exact ⟨P, h1, own_grown hgr h2 hne, fun p hp => hR _ _ (h3 p hp)⟩
end Go.Proofs.Ytagogbodkbbikaa
namespace Go.Proofs.Ytagogbodkbbikaa
open Go.ChangeShapes Go.WideShapes Go.ChangeAt Go.WideMaps Go.WideElems Go.RowKit
set_option maxRecDepth 20000

theorem take_one {cs : List Value} {i : Nat} {v : Value} (h : (cs.drop i).take 1 = [v]) : cs[i]? = some v := by
  have := congrArg List.head? h
  rw [List.head?_take, if_neg (by decide), List.head?_drop] at this
  simpa using this
/-- The one cell of a field. -/
theorem field_int {P : Program} {H : Type} {enc : TypeId × Value → H} {W : World} {base : Nat} {spare : Nat → Bool} {held : Bool} {n : Nat} {t : TypeId} {cs : List Value} {y : Option (DataW H × List MemPlace)} {i : Nat} {k : IntKind} (ht : P.underlying t = some (.int k)) (hc : P.cellsOf t = 1)
    (h : DataW.trod enc P W base spare held n t ((cs.drop i).take (P.cellsOf t)) = y) (hy : y.isSome = true) : ∃ z : Int, cs[i]? = some (.int k z) ∧ (Lit.int k z).wf = true := by
  obtain ⟨y', rfl⟩ := Option.isSome_iff_exists.1 hy
  obtain ⟨z, h1, _, h3⟩ := DataW.trod_int ht h
  rw [hc] at h1
  exact ⟨z, take_one h1, h3⟩
theorem xs_some {α : Type} {xs : List α} {n i : Nat} (h : xs.length = n) (hi : i < n) : (xs[i]?).isSome = true := by
  rw [List.getElem?_eq_getElem (by omega)]; rfl

end Go.Proofs.Ytagogbodkbbikaa
namespace Go.Proofs.Ytagogbodkbbikaa
open Go.ChangeShapes Go.WideShapes Go.ChangeAt Go.WideMaps Go.WideElems Go.RowKit
set_option maxRecDepth 20000

/-! Calls that come in. -/
structure ActW where
  kind : Int
  index : Int
  head : List Int
  seq : Int
  now : Int
def actW (x : ActW) : Array Value := askV ⟨x.kind, x.index, x.head, x.seq, x.now⟩
def OkActW (x : ActW) : Prop := x.head.length = 13
def zeroActW : ActW := ⟨0, 0, [], 0, 0⟩
def ActWE : El := ⟨34, 22, 17, 48, actW zeroActW⟩
theorem ActWOk : ActWE.Ok := ⟨Try.underlying22, ⟨_, Try.underlying34, rfl⟩, by kernel_rfl, rfl, by decide, by decide, by decide⟩
def HeK : Ag := ⟨32, 13⟩
theorem HeKOk : HeK.Ok := ⟨⟨_, Try.underlying32, rfl⟩, by kernel_rfl⟩
theorem wl_glH {P : Program} {ops : Array Oper} {Q : Exit → Act → World → Prop} {o : Oper} {rest : List Oper} {a : Act} {w : World} (x : Operand) (_ : o.op = .load 32 x) (h : wpList P ops Q (o :: rest) a w) : wpList P ops Q (o :: rest) a w := h
structure ActWF (w : World) (p off : Nat) (x : ActW) : Prop where
  c0 : w.cell? ⟨p, off, none⟩ = some (.int .i64 x.kind)
  c1 : w.cell? ⟨p, off + 1, none⟩ = some (.int .i64 x.index)
  c3 : w.cell? ⟨p, off + 15, none⟩ = some (.int .i64 x.seq)
  c4 : w.cell? ⟨p, off + 16, none⟩ = some (.int .i64 x.now)
theorem actwf_of {w : World} {p off : Nat} {cur : Array Value} {ty : TypeId} {fr : Nat × Nat} {x : ActW} (hg : w.heap[p]? = some (.cells cur ty fr)) (hc : ∀ j, j < 17 → cur[off + j]? = (actW x)[j]?) : ActWF w p off x :=
  have h := askf_of (x := ⟨x.kind, x.index, x.head, x.seq, x.now⟩) hg hc
  ⟨h.c0, h.c1, h.c3, h.c4⟩
theorem actw_head {x : ActW} (h : OkActW x) : ∀ j, j < 13 → (actW x)[2 + j]? = (hv x.head)[j]? := fun j hj => by
  rw [hv13 h]
  rcases (show j = 0 ∨ j = 1 ∨ j = 2 ∨ j = 3 ∨ j = 4 ∨ j = 5 ∨ j = 6 ∨ j = 7 ∨ j = 8 ∨ j = 9 ∨ j = 10 ∨ j = 11 ∨ j = 12 by omega) with rfl | rfl | rfl | rfl | rfl | rfl | rfl | rfl | rfl | rfl | rfl | rfl | rfl
  all_goals rfl
theorem bytes_ofW {H : Type} {enc : TypeId × Value → H} {W : World} {base : Nat} {spare : Nat → Bool} {held : Bool} {fuel : Nat} {cs : List Value} {x : DataW H × List MemPlace} (hl : cs.length = 13)
    (h : DataW.trod enc Try.prog W base spare held fuel 32 cs = some x) : ∃ L : List Int, cs = L.map (Value.int .u8) ∧ Byt L := by
  have c5 : Try.prog.cellsOf 5 = 1 := by kernel_rfl
  obtain ⟨xs, m, rfl, hx, hlen, hn, hel⟩ := DataW.trod_array Try.underlying32 h
  have each : ∀ i, i < 13 → ∃ z : Int, cs[i]? = some (.int .u8 z) ∧ 0 ≤ z ∧ z < 256 := fun i hi => by
    have h1 := hel i hi
    rw [List.getElem?_eq_getElem (show i < xs.length by omega), c5, Nat.mul_one] at h1
    obtain ⟨z, ez, _, wz⟩ := DataW.trod_int Try.underlying5 h1
    refine ⟨z, ?_, ?_⟩
    · have := congrArg (·[0]?) ez
      simpa [List.getElem?_take, List.getElem?_drop] using this
    · have := bounds_u8 wz
      omega
  refine ⟨cs.map intOf, ?_, by simp [hl], fun k => ?_⟩
  · apply List.ext_getElem?
    intro k
    rcases Nat.lt_or_ge k 13 with hk | hk
    · obtain ⟨z, hz, _⟩ := each k hk
      simp only [List.getElem?_map, hz]
      rfl
    · rw [List.getElem?_eq_none (by omega), List.getElem?_eq_none (by simpa [hl] using hk)]
  · rcases Nat.lt_or_ge k 13 with hk | hk
    · obtain ⟨z, hz, hb⟩ := each k hk
      rw [List.getD, List.getElem?_map, hz]
      exact hb
    · rw [List.getD, List.getElem?_eq_none (by simpa [hl] using hk)]
      decide

theorem actw_of {H : Type} {enc : TypeId × Value → H} {W : World} {base : Nat} {spare : Nat → Bool} {held : Bool} (fuel : Nat) (cs : List Value) (x : DataW H × List MemPlace) (hl : cs.length = 17)
    (h : DataW.trod enc Try.prog W base spare held fuel 34 cs = some x) : ∃ r : ActW, cs = (actW r).toList ∧ OkActW r := by
  have c3 : Try.prog.cellsOf 3 = 1 := by kernel_rfl
  have c13 : Try.prog.cellsOf 32 = 13 := by kernel_rfl
  obtain ⟨xs, n, _, hxe, _, hxl, hf⟩ := DataW.trod_struct Try.underlying34 h
  obtain ⟨n0, h0, _⟩ := field_int Try.underlying3 c3 (hf 0 _ rfl) (xs_some hxl (by decide))
  obtain ⟨n1, h1, _⟩ := field_int Try.underlying3 c3 (hf 1 _ rfl) (xs_some hxl (by decide))
  have h2 : DataW.trod enc Try.prog W base spare held n 32 ((cs.drop 2).take (Try.prog.cellsOf 32)) = xs[2]? := hf 2 _ rfl
  obtain ⟨y, hy⟩ := Option.isSome_iff_exists.1 (xs_some hxl (show 2 < 5 by decide))
  rw [hy, c13] at h2
  obtain ⟨L, hL, bL⟩ := bytes_ofW (by simp; omega) h2
  obtain ⟨n3, h3, _⟩ := field_int Try.underlying3 c3 (hf 3 _ rfl) (xs_some hxl (by decide))
  obtain ⟨n4, h4, _⟩ := field_int Try.underlying3 c3 (hf 4 _ rfl) (xs_some hxl (by decide))
  have hb : ∀ k, k < 13 → cs[2 + k]? = some (.int .u8 (L.getD k 0)) := fun k hk => by
    have e : ((cs.drop 2).take 13)[k]? = (L.map (Value.int .u8))[k]? := by rw [hL]
    have hkL : k < L.length := by rw [bL.1]; exact hk
    have e2 : (L.map (Value.int .u8))[k]? = some (.int .u8 (L.getD k 0)) := by rw [List.getElem?_map, List.getD_eq_getElem?_getD, List.getElem?_eq_getElem hkL]; rfl
    rw [List.getElem?_take_of_lt hk, List.getElem?_drop, e2] at e
    exact e
  refine ⟨⟨n0, n1, L, n3, n4⟩, ?_, bL.1⟩
  apply List.ext_getElem?
  intro k
  refine Eq.trans ?_ (Array.getElem?_toList).symm
  rcases (show k = 0 ∨ k = 1 ∨ k = 2 ∨ k = 3 ∨ k = 4 ∨ k = 5 ∨ k = 6 ∨ k = 7 ∨ k = 8 ∨ k = 9 ∨ k = 10 ∨ k = 11 ∨ k = 12 ∨ k = 13 ∨ k = 14 ∨ k = 15 ∨ k = 16 ∨ 17 ≤ k by omega) with rfl | rfl | rfl | rfl | rfl | rfl | rfl | rfl | rfl | rfl | rfl | rfl | rfl | rfl | rfl | rfl | rfl | hk
  · exact h0
  · exact h1
  · exact hb 0 (by decide)
  · exact hb 1 (by decide)
  · exact hb 2 (by decide)
  · exact hb 3 (by decide)
  · exact hb 4 (by decide)
  · exact hb 5 (by decide)
  · exact hb 6 (by decide)
  · exact hb 7 (by decide)
  · exact hb 8 (by decide)
  · exact hb 9 (by decide)
  · exact hb 10 (by decide)
  · exact hb 11 (by decide)
  · exact hb 12 (by decide)
  · exact h3
  · exact h4
  · rw [List.getElem?_eq_none (by omega), Array.getElem?_eq_none (by simpa [actW, askV] using hk)]
theorem open_actsW {H : Type} {enc : TypeId × Value → H} {W : World} {r : Reach} {b0 base : Nat} {spare : Nat → Bool} {held : Bool} {v : Value} {d : DataW H} {p : List MemPlace}
    (hok : Value.okWide Try.prog W r b0 22 v) (h : DataW.Trod enc Try.prog W base spare held 22 v d p) : ∃ A : List ActW, GSl ActWE actW W v A ∧ ∀ x ∈ A, OkActW x := by
  obtain ⟨fuel, hf⟩ := h
  have hv1 : v.cells.toList = [v] := by
    simp only [Value.okWide, Cell.okWide, Cell.ok, Try.underlying22] at hok
    cases v <;> simp_all [Value.cells]
  rw [hv1] at hf
  have hin : Inhabited ActW := ⟨zeroActW⟩
  exact open_anyK (E := ActWE) ActWOk actW (fun _ => rfl) OkActW (fun _ => True) (fun fuel cs x h1 _ h2 => actw_of fuel cs x h1 h2) hf (fun _ _ _ _ _ => trivial)
theorem open_actW {H : Type} {enc : TypeId × Value → H} {W : World} {r : Reach} {b0 base : Nat} {spare : Nat → Bool} {held : Bool} {v : Value} {d : DataW H} {p : List MemPlace}
    (hok : Value.okWide Try.prog W r b0 34 v) (h : DataW.Trod enc Try.prog W base spare held 34 v d p) : ∃ x : ActW, v = .agg (actW x) ∧ OkActW x := by
  have c5 : Try.prog.cellsOf 34 = 17 := by kernel_rfl
  simp only [Value.okWide, Try.underlying34] at hok
  obtain ⟨cs, rfl, hsz, _⟩ := hok
  rw [c5] at hsz
  obtain ⟨fuel, hf⟩ := h
  simp only [Value.cells] at hf
  obtain ⟨x, h1, h2⟩ := actw_of fuel cs.toList _ (by simpa using hsz) hf
  exact ⟨x, by congr 1; exact Array.ext' h1, h2⟩
end Go.Proofs.Ytagogbodkbbikaa
namespace Go.Proofs.Ytagogbodkbbikaa
open Go
set_option maxRecDepth 20000

/-! The reference's: all that were ever added, and who waits no more. -/
abbrev AskP := AskM × Bool
def liveP (p : AskP) : Option AskM := if p.2 = true then none else some p.1
def restP (P : List AskP) : List AskM := P.filterMap liveP
theorem restP_snoc (P : List AskP) (c : AskM) : restP (P ++ [(c, false)]) = restP P ++ [c] := by
  unfold restP
  rw [List.filterMap_append]
  rfl
def SeqP (k : Nat) (P : List AskP) : Prop := ∀ (i : Nat) (p : AskP), P[i]? = some p → p.1.seq = ((k + i : Nat) : Int) + 1
theorem SeqP.tail {k : Nat} {a : AskP} {P : List AskP} (h : SeqP k (a :: P)) : SeqP (k + 1) P := fun i p e => by
  have := h (i + 1) p (by rw [List.getElem?_cons_succ]; exact e)
  rw [this]
  omega
theorem SeqP.mem {k : Nat} {P : List AskP} (h : SeqP k P) {x : AskM} (hx : x ∈ restP P) : ∃ i : Nat, P[i]? = some (x, false) ∧ x.seq = ((k + i : Nat) : Int) + 1 := by
  unfold restP at hx
  obtain ⟨p, hp, e⟩ := List.mem_filterMap.1 hx
  obtain ⟨i, hi⟩ := List.getElem?_of_mem hp
  obtain ⟨y, b⟩ := p
  unfold liveP at e
  cases b with
  | true => simp at e
  | false =>
    have e' : y = x := by simpa using e
    subst e'
    exact ⟨i, hi, h i _ hi⟩
theorem seqP_snoc {P : List AskP} (h : SeqP 0 P) {c : AskM} (hc : c.seq = (P.length : Int) + 1) (b : Bool) : SeqP 0 (P ++ [(c, b)]) := fun i p e => by
  by_cases hi : i < P.length
  · rw [List.getElem?_append_left hi] at e
    exact h i p e
  · rw [List.getElem?_append_right (by omega)] at e
    have h0 : i - P.length = 0 := by
      have := (List.getElem?_eq_some_iff.1 e).1
      simp at this
      omega
    rw [h0] at e
    obtain rfl : (c, b) = p := by simpa using e
    rw [hc]
    have : i = P.length := by omega
    rw [this]
    omega
/-- Who is answered. -/
theorem ansP : ∀ {P : List AskP} {k : Nat}, SeqP k P → ∀ {i : Nat} {x : AskM}, P[i]? = some (x, false) → (restP P).find? (seqW x.seq) = some x ∧ ((restP P).filter fun y => !(seqW x.seq y)) = restP (P.set i (x, true))
  | [], _, _, i, x, h => by simp at h
  | a :: P, k, hp, i, x, h => by
    cases i with
    | zero =>
      obtain rfl : a = (x, false) := by simpa using h
      have e : seqW x.seq x = true := by unfold seqW; simp
      have er : restP ((x, false) :: P) = x :: restP P := rfl
      have hx := hp 0 _ rfl
      rw [er, List.find?_cons, e, List.filter_cons, e]
      refine ⟨rfl, ?_⟩
      simp only [Bool.not_true, Bool.false_eq_true, if_false, List.set_cons_zero]
      show _ = restP P
      refine List.filter_eq_self.2 fun y hy => ?_
      obtain ⟨j, _, hj⟩ := hp.tail.mem hy
      unfold seqW
      dsimp only at hx
      simp
      omega
    | succ i =>
      rw [List.getElem?_cons_succ] at h
      obtain ⟨q1, q2⟩ := ansP hp.tail h
      have ha := hp 0 a rfl
      have hx := hp.tail i _ h
      dsimp only at hx
      have e : seqW x.seq a.1 = false := by unfold seqW; simp; omega
      rw [List.set_cons_succ]
      obtain ⟨y, b⟩ := a
      cases b with
      | true => exact ⟨q1, q2⟩
      | false =>
        have er : ∀ Q, restP ((y, false) :: Q) = y :: restP Q := fun _ => rfl
        dsimp only at e
        rw [er, er, List.find?_cons, e, List.filter_cons, e, ← q2]
        exact ⟨q1, rfl⟩
theorem ansP_no {P : List AskP} (hp : SeqP 0 P) {s : Int} (h : ∀ (i : Nat) (x : AskM), (i : Int) + 1 = s → P[i]? ≠ some (x, false)) : (restP P).find? (seqW s) = none := by
  refine List.find?_eq_none.2 fun x hx => ?_
  obtain ⟨i, h1, h2⟩ := hp.mem hx
  unfold seqW
  intro e
  rw [beq_iff_eq] at e
  exact h i x (by omega) h1
theorem seqP_set {P : List AskP} (h : SeqP 0 P) {i : Nat} {x y : AskM} {b c : Bool} (hx : P[i]? = some (x, b)) (hs : y.seq = x.seq) : SeqP 0 (P.set i (y, c)) := fun j p e => by
  by_cases hij : i = j
  · subst hij
    have hi := (List.getElem?_eq_some_iff.1 hx).1
    rw [List.getElem?_set_self hi] at e
    obtain rfl := Option.some.inj e
    have := h i _ hx
    dsimp only at this ⊢
    omega
  · rw [List.getElem?_set_ne hij] at e
    exact h j p e
/-- A tick. -/
def tickP (m : WaitM) (now : Int) (p : AskP) : AskP := if p.2 = true ∨ dueW now p.1 = false then p else if moreW m p.1 = true then (askW m now p.1, false) else (p.1, true)
def againP (m : WaitM) (now : Int) (P : List AskP) : List AskM := P.filterMap fun p => if p.2 = true ∨ dueW now p.1 = false then none else if moreW m p.1 = true then some (askW m now p.1) else none
def goneP (m : WaitM) (now : Int) (P : List AskP) : List AskM := P.filterMap fun p => if p.2 = true ∨ dueW now p.1 = false then none else if moreW m p.1 = true then none else some p.1
theorem tickP_all (m : WaitM) (now : Int) : ∀ P : List AskP, restP (P.map (tickP m now)) = (restP P).filterMap (stepWt m now) ∧ againP m now P = ((restP P).filter fun x => dueW now x && moreW m x).map (askW m now) ∧ goneP m now P = (restP P).filter fun x => dueW now x && !(moreW m x)
  | [] => ⟨rfl, rfl, rfl⟩
  | (x, b) :: P => by
    obtain ⟨h1, h2, h3⟩ := tickP_all m now P
    unfold restP againP goneP at *
    rw [List.map_cons, List.filterMap_cons, List.filterMap_cons, List.filterMap_cons, List.filterMap_cons, h1, h2, h3]
    unfold tickP liveP
    cases b with
    | true => simp
    | false =>
      cases hd : dueW now x with
      | false =>
        have e : stepWt m now x = some x := by unfold stepWt; rw [hd]; rfl
        simp [hd, e]
      | true =>
        cases hm : moreW m x with
        | true =>
          have e : stepWt m now x = some (askW m now x) := by unfold stepWt; rw [hd, hm]; rfl
          simp [hd, hm, e]
        | false =>
          have e : stepWt m now x = none := by unfold stepWt; rw [hd, hm]; rfl
          simp [hd, hm, e]
theorem tickP_seq {m : WaitM} {now : Int} (p : AskP) : (tickP m now p).1.seq = p.1.seq := by
  unfold tickP
  split
  · rfl
  · split <;> rfl
theorem seqP_map {P : List AskP} (h : SeqP 0 P) (f : AskP → AskP) (hf : ∀ p, (f p).1.seq = p.1.seq) : SeqP 0 (P.map f) := fun i p e => by
  rw [List.getElem?_map] at e
  cases hq : P[i]? with
  | none => rw [hq] at e; simp at e
  | some q =>
    rw [hq] at e
    obtain rfl : f q = p := by simpa using e
    rw [hf]
    exact h i q hq
def doneP (p : AskP) : AskP := (p.1, true)
theorem restP_done : ∀ P : List AskP, restP (P.map doneP) = []
  | [] => rfl
  | p :: P => by
    have := restP_done P
    unfold restP at *
    rw [List.map_cons, List.filterMap_cons, this]
    rfl
/-- One by one. -/
theorem restP_take {P : List AskP} {k : Nat} {x : AskM} {b : Bool} (h : P[k]? = some (x, b)) : restP (P.take (k + 1)) = if b = true then restP (P.take k) else restP (P.take k) ++ [x] := by
  unfold restP
  rw [List.take_add_one, h, Option.toList_some, List.filterMap_append]
  cases b <;> simp [liveP]
theorem againP_take {m : WaitM} {now : Int} {P : List AskP} {k : Nat} {p : AskP} (h : P[k]? = some p) : againP m now (P.take (k + 1)) = againP m now (P.take k) ++ (if p.2 = true ∨ dueW now p.1 = false then [] else if moreW m p.1 = true then [askW m now p.1] else []) := by
  unfold againP
  rw [List.take_add_one, h, Option.toList_some, List.filterMap_append]
  congr 1
  rw [List.filterMap_cons]
  split
  · rename_i e
    split at e
    · rename_i h1; rw [if_pos h1]; rfl
    · rename_i h1
      rw [if_neg h1]
      split at e
      · cases e
      · rename_i h2; rw [if_neg h2]; rfl
  · rename_i e
    split at e
    · cases e
    · rename_i h1
      rw [if_neg h1]
      split at e
      · rename_i h2; rw [if_pos h2]; rw [← Option.some.inj e]; rfl
      · cases e
theorem goneP_take {m : WaitM} {now : Int} {P : List AskP} {k : Nat} {p : AskP} (h : P[k]? = some p) : goneP m now (P.take (k + 1)) = goneP m now (P.take k) ++ (if p.2 = true ∨ dueW now p.1 = false then [] else if moreW m p.1 = true then [] else [p.1]) := by
  unfold goneP
  rw [List.take_add_one, h, Option.toList_some, List.filterMap_append]
  congr 1
  rw [List.filterMap_cons]
  split
  · rename_i e
    split at e
    · rename_i h1; rw [if_pos h1]; rfl
    · rename_i h1
      rw [if_neg h1]
      split at e
      · rename_i h2; rw [if_pos h2]; rfl
      · cases e
  · rename_i e
    split at e
    · cases e
    · rename_i h1
      rw [if_neg h1]
      split at e
      · cases e
      · rename_i h2; rw [if_neg h2]; rw [← Option.some.inj e]; rfl
/-- The first k have been gone through. -/
def partP (f : AskP → AskP) (k : Nat) (P : List AskP) : List AskP := (P.take k).map f ++ P.drop k
theorem partP_zero (f : AskP → AskP) (P : List AskP) : partP f 0 P = P := by unfold partP; simp
theorem partP_all (f : AskP → AskP) {P : List AskP} {k : Nat} (h : P.length ≤ k) : partP f k P = P.map f := by unfold partP; rw [List.take_of_length_le h, List.drop_of_length_le h, List.append_nil]
theorem partP_len (f : AskP → AskP) (k : Nat) (P : List AskP) : (partP f k P).length = P.length := by
  unfold partP
  rw [List.length_append, List.length_map, ← List.length_append, List.take_append_drop]
theorem partP_at (f : AskP → AskP) {k : Nat} {P : List AskP} {p : AskP} (h : P[k]? = some p) : (partP f k P)[k]? = some p := by
  unfold partP
  have hk := (List.getElem?_eq_some_iff.1 h).1
  rw [List.getElem?_append_right (by rw [List.length_map, List.length_take]; omega), List.length_map, List.length_take, Nat.min_eq_left (by omega), Nat.sub_self, List.getElem?_drop]
  exact h
theorem partP_succ (f : AskP → AskP) {k : Nat} {P : List AskP} {p : AskP} (h : P[k]? = some p) : partP f (k + 1) P = (partP f k P).set k (f p) := by
  have hk := (List.getElem?_eq_some_iff.1 h).1
  unfold partP
  rw [List.set_append_right _ _ (by rw [List.length_map, List.length_take]; omega), List.length_map, List.length_take, Nat.min_eq_left (by omega), Nat.sub_self, List.take_add_one, h, Option.toList_some, List.map_append, List.append_assoc]
  congr 1
  rw [List.drop_eq_getElem_cons hk]
  rfl
end Go.Proofs.Ytagogbodkbbikaa
namespace Go.Proofs.Ytagogbodkbbikaa
open Go Go.RowKit
set_option maxRecDepth 20000

/-! Slices whose elements are one cell each: numbers, floats, truths. -/
theorem add_formV (g off j : Nat) : (⟨g, off, none⟩ : Addr).add j = ⟨g, off + j, none⟩ := by unfold Addr.add; split <;> simp_all
/-- Cells, wherever they lie. -/
def VSl (w : World) (v : Value) (L : List Value) : Prop :=
  ∃ (o : Option Addr) (cap : Nat), v = .slice o L.length cap ∧ L.length ≤ cap ∧ cap ≤ maxLen ∧ (o = none → cap = 0) ∧ ∀ (i : Nat) (hi : i < L.length), ∃ g off cur t fr, o = some ⟨g, off, none⟩ ∧ w.heap[g]? = some (.cells cur t fr) ∧ cur[off + i]? = some L[i]
theorem VSl.of_heap {w w' : World} {v : Value} {L : List Value} (h : VSl w v L) (hb : ∀ g o, w.heap[g]? = some o → v.ownBlock = some g → w'.heap[g]? = some o) : VSl w' v L := by
  obtain ⟨o, cap, rfl, h1, h2, h3, h4⟩ := h
  refine ⟨o, cap, rfl, h1, h2, h3, fun i hi => ?_⟩
  obtain ⟨g, off, cur, t, fr, rfl, h5, h6⟩ := h4 i hi
  exact ⟨g, off, cur, t, fr, rfl, hb _ _ h5 rfl, h6⟩
theorem VSl.below {w w' : World} {v : Value} {L : List Value} (h : VSl w v L) (hb : Below w.heap.size w w') : VSl w' v L :=
  h.of_heap fun g _ hg _ => (hb.block g (Array.getElem?_eq_some_iff.1 hg).1).trans hg
theorem VSl.alloc {w : World} {v : Value} {L : List Value} (h : VSl w v L) (x : Obj) : VSl (w.alloc x) v L :=
  h.of_heap fun _ _ hg _ => heap_past _ _ _ _ hg
theorem VSl.slice {w : World} {v : Value} {L : List Value} (h : VSl w v L) : ∃ o cap, v = .slice o L.length cap ∧ L.length ≤ cap ∧ cap ≤ maxLen := by
  obtain ⟨o, cap, rfl, h1, h2, _⟩ := h
  exact ⟨o, cap, rfl, h1, h2⟩
theorem VSl.len {w : World} {o : Option Addr} {n cap : Nat} {L : List Value} (h : VSl w (.slice o n cap) L) : n = L.length := by
  obtain ⟨o', cap', h1, _⟩ := h
  simp only [Value.slice.injEq] at h1
  exact h1.2.1
theorem VSl.at {w : World} {o : Option Addr} {n cap : Nat} {L : List Value} (h : VSl w (.slice o n cap) L) (k : Nat) (hk : k < n) :
    ∃ g off c, o = some ⟨g, off, none⟩ ∧ w.cell? ⟨g, off + k, none⟩ = some c ∧ L[k]? = some c := by
  obtain ⟨o', cap', h1, _, _, _, h3⟩ := h
  simp only [Value.slice.injEq] at h1
  obtain ⟨rfl, rfl, rfl⟩ := h1
  obtain ⟨g, off, cur, t, fr, h4, h5, h6⟩ := h3 k hk
  exact ⟨g, off, L[k], h4, by rw [cell_of_row _ _ _ _ _ _ h5]; exact h6, List.getElem?_eq_getElem hk⟩
/-- Cells of one's own. -/
def VOwn (ty : TypeId) (B : Nat) (w : World) (v : Value) (L : List Value) : Prop := w.ownsRow B ty 1 v L.length L
theorem VOwn.sl {ty : TypeId} {B : Nat} {w : World} {v : Value} {L : List Value} (h : VOwn ty B w v L) : VSl w v L := by
  obtain ⟨h1, ⟨rfl, h2⟩ | ⟨g, cap, cur, rfl, hB, hcur, h5, h6, _, h4⟩⟩ := h
  · exact ⟨none, 0, by rw [h2], by omega, Nat.zero_le _, fun _ => rfl, fun i hi => by omega⟩
  · refine ⟨_, cap, rfl, h5, h6, (fun e => by cases e), fun i hi => ⟨g, 0, cur, _, _, rfl, hcur, ?_⟩⟩
    have h7 := congrArg (·[i]?) h4
    rw [Nat.mul_one, List.getElem?_take_of_lt hi, List.getElem?_eq_getElem hi] at h7
    rw [Nat.zero_add]
    simpa using h7
theorem VOwn.nil (ty B : Nat) (w : World) : VOwn ty B w (.slice none 0 0) [] := World.ownsRow_nil _ _ _ _
theorem VOwn.base {ty B B' : Nat} {w : World} {v : Value} {L : List Value} (h : VOwn ty B w v L) (hB : B' ≤ B) : VOwn ty B' w v L := by
  obtain ⟨h1, h2 | ⟨g', cap, cur, rfl, hB, h3⟩⟩ := h
  · exact ⟨h1, .inl h2⟩
  · exact ⟨h1, .inr ⟨g', cap, cur, rfl, by omega, h3⟩⟩
theorem VOwn.below {ty B : Nat} {w w' : World} {v : Value} {L : List Value} (h : VOwn ty B w v L) (hb : Below w.heap.size w w') : VOwn ty B w' v L := by
  obtain ⟨h1, h2 | ⟨g, cap, cur, rfl, hB, hcur, h3⟩⟩ := h
  · exact ⟨h1, .inl h2⟩
  · exact ⟨h1, .inr ⟨g, cap, cur, rfl, hB, (hb.block g (Array.getElem?_eq_some_iff.1 hcur).1).trans hcur, h3⟩⟩
theorem VOwn.grown {ty B : Nat} {w w' : World} {v : Value} {L : List Value} (h : VOwn ty B w v L) {row : Option Nat} (hg : w.grownBy w' row) (hne : ∀ g, v.ownBlock = some g → row ≠ some g) : VOwn ty B w' v L := by
  obtain ⟨h1, h2 | ⟨g, cap, cur, rfl, hB, hcur, h3⟩⟩ := h
  · exact ⟨h1, .inl h2⟩
  · exact ⟨h1, .inr ⟨g, cap, cur, rfl, hB, (hg.block g (Array.getElem?_eq_some_iff.1 hcur).1 fun e => hne g rfl e.symm).trans hcur, h3⟩⟩
theorem VOwn.set {ty B : Nat} {w : World} {g n cap : Nat} {L : List Value} (h : VOwn ty B w (.slice (some ⟨g, 0, none⟩) n cap) L) (k : Nat) (u : Value) : VOwn ty B (w.setCell ⟨g, k, none⟩ u) (.slice (some ⟨g, 0, none⟩) n cap) (L.set k u) := by
  have hn := h.sl.len
  subst hn
  have := (World.ownsRow.stored h k u).1
  unfold VOwn
  rw [List.length_set]
  exact this
theorem VOwn.setBelow {ty B : Nat} {w : World} {g n cap : Nat} {L : List Value} (h : VOwn ty B w (.slice (some ⟨g, 0, none⟩) n cap) L) (k : Nat) (u : Value) : w.grownBy (w.setCell ⟨g, k, none⟩ u) (some g) := by
  have hn := h.sl.len
  subst hn
  exact (World.ownsRow.stored h k u).2
theorem VOwn.cell {ty B : Nat} {w : World} {g n cap : Nat} {L : List Value} (h : VOwn ty B w (.slice (some ⟨g, 0, none⟩) n cap) L) (k : Nat) (hk : k < n) : ∃ c, w.cell? ⟨g, k, none⟩ = some c ∧ L[k]? = some c ∧ w.frozen? ⟨g, k, none⟩ = false := by
  have hn := h.sl.len
  subst hn
  obtain ⟨g', off, c, e, h1, h2⟩ := h.sl.at k hk
  simp only [Option.some.injEq, Addr.mk.injEq, and_true] at e
  obtain ⟨rfl, rfl⟩ := e
  rw [Nat.zero_add] at h1
  obtain ⟨_, ⟨e, _⟩ | ⟨g', cap', cur, e, hB, hcur, _⟩⟩ := h
  · cases e
  · simp only [Value.slice.injEq, Option.some.injEq, Addr.mk.injEq, and_true] at e
    obtain ⟨⟨rfl, _⟩, _⟩ := e
    exact ⟨c, h1, h2, by simp [World.frozen?, hcur]⟩

/-- What is asked of an element's type. -/
structure Sc (ty sl : TypeId) (z : Value) : Prop where
  hs : Try.prog.underlying sl = some (.slice ty)
  info : ∃ i b, Try.prog.info? ty = some i ∧ i.zero = some z ∧ i.size = 1 ∧ i.bytes = b ∧ 1 ≤ b ∧ b ≤ 8
  hz : z.cells = #[z]
theorem info_of {ty : TypeId} {z : Value} {b : Nat} (h : (Try.prog.info? ty).map (fun i => (i.zero, i.size, i.bytes)) = some (some z, 1, b)) (h1 : 1 ≤ b) (h8 : b ≤ 8) : ∃ i b, Try.prog.info? ty = some i ∧ i.zero = some z ∧ i.size = 1 ∧ i.bytes = b ∧ 1 ≤ b ∧ b ≤ 8 := by
  cases hi : Try.prog.info? ty with
  | none => rw [hi] at h; simp at h
  | some i =>
    rw [hi] at h
    simp only [Option.map_some, Option.some.injEq, Prod.mk.injEq] at h
    exact ⟨i, b, rfl, h.1, h.2.1, h.2.2, h1, h8⟩
theorem scI : Sc 3 47 (.int .i64 0) := ⟨Try.underlying47, info_of (b := 8) (by kernel_rfl) (by decide) (by decide), rfl⟩
theorem scB : Sc 4 53 (.bool false) := ⟨Try.underlying53, info_of (b := 1) (by kernel_rfl) (by decide) (by decide), rfl⟩

/-- One element. -/
theorem wl_build1V {ty sl : TypeId} {z : Value} (S : Sc ty sl z) {ops : Array Oper} {rest : List Oper} {o : Oper} {a : Act} {w : World} {Q : Exit → Act → World → Prop} (hg : o.guard = none) (x : Operand) (ho : o.op = .buildSlice sl 1 #[(0, x)]) (u : Value) (hu : u.cells = #[u]) (hx : a.eval x = u)
    (h : wpList Try.prog ops Q rest (a.put o.dst (.slice (some ⟨w.heap.size, 0, none⟩) 1 1)) (w.alloc (.cells #[u] ty))) : wpList Try.prog ops Q (o :: rest) a w := by
  obtain ⟨ie, b, hie, hz, hs, hb, hb1, hb8⟩ := S.info
  refine wpList_buildSlice hg sl ty 1 _ ho #[u] ie z S.hs hie hz (by rw [hs]; decide) (by rw [hs]; decide) ?_ h
  simp only [List.map_toArray, List.map_cons, List.map_nil, hx, Instr.fill, hs, Nat.zero_mul, hu]
  rw [if_neg (by simp)]
  congr 1
  exact gfold_all _ _ (by simp)
/-- One element appended to a row of one's own. -/
theorem wl_app1V {ty sl : TypeId} {z : Value} (S : Sc ty sl z) {ops : Array Oper} {rest : List Oper} {o : Oper} {a : Act} {w : World} {Q : Exit → Act → World → Prop} (hgd : o.guard = none) (s x : Operand) (ho : o.op = .call { callee := .builtin .append, args := #[s, x], argTypes := #[sl, sl] })
    (B : Nat) (v : Value) (L : List Value) (u : Value) (hu : u.oneCell' = true) (hs : a.eval s = v) (hb : VOwn ty B w v L) (g cap : Nat) (hx : a.eval x = .slice (some ⟨g, 0, none⟩) 1 cap) (hg : w.heap[g]? = some (.cells #[u] ty (0, 0))) (hn : L.length ≤ 1000000) (hB : B ≤ w.heap.size)
    (h : ∀ v' w', VOwn ty B w' v' (L ++ [u]) → w.grownBy w' v.ownBlock → (v'.ownBlock = v.ownBlock ∨ v'.ownBlock = some w.heap.size) → wpList Try.prog ops Q rest (a.put o.dst v') w') : wpList Try.prog ops Q (o :: rest) a w := by
  obtain ⟨i, b, hi, hz, h1, h2, h3, h4⟩ := S.info
  refine wpList_append_own_at _ hgd s x sl ho B ty i z 1 b S.hs hi hz h1 h2 (by rw [S.hz]; rfl) (by decide) v _ _ hs hb ⟨g, 0, none⟩ 1 cap [u] hx rfl (fun j y hy => ?_) (fun y hy => ?_) (by unfold maxLen; omega) ?_ hB ?_
  · rw [add_formV, cell_of_row w g _ _ _ _ hg, ← hy, Nat.zero_add]
    simp
  · obtain rfl : y = u := by simpa using hy
    exact hu
  · exact Nat.le_trans (Nat.mul_le_mul (show L.length + 1 ≤ 1000001 by omega) h4) (by decide)
  · intro v' w' h5 h6 _ h7
    refine h v' w' ?_ h6 h7
    unfold VOwn
    rw [List.length_append]; exact h5
end Go.Proofs.Ytagogbodkbbikaa
