import Derived.Test.YthddlchkbnmcaaaGreatDoorJ4
import Derived.Test.YthddlchkbnmcaaaGreatDoorJ1
import Derived.Deep.Slices
import Derived.OwnWalk
import Derived.Shelf.Strconv.Clone
namespace Go.Proofs.YthddlchkbnmcaaaGreatDoor
open Go.ChangeShapes Go.WideShapes Go.ChangeAt Go.WideMaps Go.WideElems Go.RowKit
set_option maxRecDepth 20000

theorem El.Ok.cellsOf {E : El} (H : E.Ok) : Tryz.prog.cellsOf E.elem = E.size := by
  obtain ⟨i, h1, _, h2, _⟩ := H.info
  simp [Program.cellsOf, h1, h2]

/-- A slice that comes in, of elements that are opened one by one. -/
theorem open_any {E : El} (HE : E.Ok) {α : Type} [Inhabited α] (row : α → Array Value) (hrow : ∀ a, (row a).size = E.size) (Q : α → Prop) {H : Type} {enc : TypeId × Value → H} {W : World} {base : Nat} {spare : Nat → Bool} {held : Bool}
    (elem : ∀ (fuel : Nat) (cs : List Value) (x : DataW H × List MemPlace), cs.length = E.size → DataW.trod enc Tryz.prog W base spare held fuel E.elem cs = some x → ∃ a, cs = (row a).toList ∧ Q a)
    {fuel : Nat} {v : Value} {x : DataW H × List MemPlace} (hf : DataW.trod enc Tryz.prog W base spare held fuel E.slice [v] = some x) : ∃ C : List α, GSl E row W v C ∧ ∀ c ∈ C, Q c := by
  have hp := HE.hp
  rcases Deep.open_slice HE.hs hf with ⟨h0, _⟩ | ⟨a, len, cap, m, n, D, Pl, h0, hb, hl, hm, hmm, _, hx⟩
  · obtain rfl : v = .slice none 0 0 := by simpa using h0
    exact ⟨[], gsl_nil E row W, fun c hc => absurd hc (by simp)⟩
  · obtain rfl : v = .slice (some a) len cap := by simpa using h0
    rw [HE.cellsOf] at hx
    have hlm : len ≤ m := by rw [hmm]; split <;> omega
    have each : ∀ i, i < len → ∃ c : α, Q c ∧ ∀ j, j < E.size → W.cell? (a.add (i * E.size + j)) = (row c)[j]? := fun i hi => by
      obtain ⟨cs', h1, h2⟩ := hx i (by omega)
      obtain ⟨_, hlen, hcell⟩ := World.cells?_some h1
      obtain ⟨c, h3, h4⟩ := elem _ cs' _ hlen h2
      refine ⟨c, h4, fun j hj => ?_⟩
      have := hcell j hj
      rw [Deep.add_add] at this
      rw [this, h3]
      simp
    obtain ⟨f, hf⟩ := Deep.choose_lt each
    refine ⟨(List.range len).map f, ⟨some a, cap, by simp, by simpa using hl, hm, fun i hi => ?_⟩, fun c hc => ?_⟩
    · have hi' : i < len := by simpa using hi
      have h1 := (hf i hi').2
      obtain ⟨g, off, sp⟩ := a
      have hj : ∀ j, j < E.size → ∃ cur t fr, W.heap[g]? = some (.cells cur t fr) ∧ cur[off + i * E.size + j]? = (row (f i))[j]? ∧ (i * E.size + j = 0 → sp = none) := fun j hj => by
        have h2 := h1 j hj
        obtain ⟨y, hy⟩ : ∃ y, (row (f i))[j]? = some y := ⟨_, Array.getElem?_eq_getElem (by rw [hrow]; exact hj)⟩
        rw [hy] at h2 ⊢
        unfold World.cell? at h2
        split at h2
        · rename_i cur t fr hq
          have hbk : (Addr.add ⟨g, off, sp⟩ (i * E.size + j)).block = g := by unfold Addr.add; split <;> rfl
          have hof : (Addr.add ⟨g, off, sp⟩ (i * E.size + j)).off = off + i * E.size + j := by unfold Addr.add; split <;> simp_all [Nat.add_assoc]
          rw [hbk] at hq
          rw [hof] at h2
          split at h2
          · cases h2
          · rename_i hsp
            refine ⟨cur, t, fr, hq, h2, fun h0 => ?_⟩
            unfold Addr.add at hsp
            rw [if_pos h0] at hsp
            simpa using hsp
        · cases h2
      have hsp : sp = none := by
        obtain ⟨cur, t, fr, h2, h3, h4⟩ := hj 0 hp
        by_cases hi0 : i = 0
        · exact h4 (by rw [hi0]; simp)
        · have h5 := (hf 0 (by omega)).2 0 hp
          obtain ⟨y, hy⟩ : ∃ y, (row (f 0))[0]? = some y := ⟨_, Array.getElem?_eq_getElem (by rw [hrow]; exact hp)⟩
          rw [hy] at h5
          unfold World.cell? at h5
          split at h5
          · split at h5
            · cases h5
            · rename_i hs
              simpa [Addr.add] using hs
          · cases h5
      subst hsp
      obtain ⟨cur, t, fr, h2, _, _⟩ := hj 0 hp
      refine ⟨g, off, cur, t, fr, rfl, h2, fun j hjl => ?_⟩
      obtain ⟨cur', t', fr', h3, h4, _⟩ := hj j hjl
      rw [h2] at h3
      obtain ⟨rfl, rfl, rfl⟩ : cur = cur' ∧ t = t' ∧ fr = fr' := by simpa using h3
      rw [h4]
      simp
    · rw [List.mem_map] at hc
      obtain ⟨i, hi, rfl⟩ := hc
      exact (hf i (by simpa using hi)).1

/-- A list whose elements hold lists of their own: each row with the value of its inner list. -/
def NSl {α : Type} (E : El) (row : α → Value → Array Value) (R : World → α → Value → Prop) (w : World) (v : Value) (C : List α) : Prop :=
  ∃ P : List (α × Value), P.map (·.1) = C ∧ GSl E (fun p => row p.1 p.2) w v P ∧ ∀ p ∈ P, R w p.1 p.2
theorem NSl.below {α : Type} {E : El} {row : α → Value → Array Value} {R : World → α → Value → Prop} (hR : ∀ w w' a v, Below w.heap.size w w' → R w a v → R w' a v) {w w' : World} {v : Value} {C : List α} (h : NSl E row R w v C) (hb : Below w.heap.size w w') : NSl E row R w' v C := by
  obtain ⟨P, h1, h2, h3⟩ := h
  exact ⟨P, h1, h2.below hb, fun p hp => hR w w' _ _ hb (h3 p hp)⟩
theorem NSl.slice {α : Type} {E : El} {row : α → Value → Array Value} {R : World → α → Value → Prop} {w : World} {v : Value} {C : List α} (h : NSl E row R w v C) : ∃ (o : Option Addr) (cap : Nat), v = .slice o C.length cap ∧ C.length ≤ cap ∧ cap ≤ maxLen := by
  obtain ⟨P, h1, h2, _⟩ := h
  obtain ⟨o, cap, e, h4, h5⟩ := h2.slice
  have hl : P.length = C.length := by rw [← h1, List.length_map]
  rw [hl] at e h4
  exact ⟨o, cap, e, h4, h5⟩
theorem NSl.at {α : Type} {E : El} {row : α → Value → Array Value} {R : World → α → Value → Prop} {w : World} {o : Option Addr} {n cap : Nat} {C : List α} (h : NSl E row R w (.slice o n cap) C) (k : Nat) (hk : k < n) :
    ∃ g off cur t fr, ∃ (c : α) (u : Value), o = some ⟨g, off, none⟩ ∧ w.heap[g]? = some (.cells cur t fr) ∧ (∀ j, j < E.size → cur[off + k * E.size + j]? = (row c u)[j]?) ∧ C[k]? = some c ∧ R w c u := by
  obtain ⟨P, h1, h2, h3⟩ := h
  obtain ⟨g, off, cur, t, fr, c, e1, e2, e3, e4⟩ := h2.at k hk
  exact ⟨g, off, cur, t, fr, c.1, c.2, e1, e2, e3, by rw [← h1, List.getElem?_map, e4]; rfl, h3 c (List.mem_of_getElem? e4)⟩
/-- The same of one's own row. -/
def NOwn {α : Type} (E : El) (row : α → Value → Array Value) (R : World → α → Value → Prop) (w : World) (B : Nat) (v : Value) (C : List α) : Prop :=
  ∃ P : List (α × Value), P.map (·.1) = C ∧ w.ownsRow B E.elem E.size v P.length (gcells (fun p : α × Value => row p.1 p.2) P) ∧ ∀ p ∈ P, R w p.1 p.2
theorem NOwn.sl {α : Type} {E : El} {row : α → Value → Array Value} {R : World → α → Value → Prop} (hrow : ∀ a u, (row a u).size = E.size) {w : World} {B : Nat} {v : Value} {C : List α} (h : NOwn E row R w B v C) : NSl E row R w v C := by
  obtain ⟨P, h1, h2, h3⟩ := h
  exact ⟨P, h1, gsl_of h2 fun c _ => hrow c.1 c.2, h3⟩
theorem NOwn.nil {α : Type} (E : El) (row : α → Value → Array Value) (R : World → α → Value → Prop) (w : World) (B : Nat) : NOwn E row R w B (.slice none 0 0) [] :=
  ⟨[], rfl, World.ownsRow_nil _ _ _ _, fun p hp => by simp at hp⟩
theorem NOwn.below {α : Type} {E : El} {row : α → Value → Array Value} {R : World → α → Value → Prop} (hR : ∀ w w' a v, Below w.heap.size w w' → R w a v → R w' a v) {w w' : World} {B : Nat} {v : Value} {C : List α} (h : NOwn E row R w B v C) (hb : Below w.heap.size w w') : NOwn E row R w' B v C := by
  obtain ⟨P, h1, h2, h3⟩ := h
  exact ⟨P, h1, gown_below h2 hb, fun p hp => hR w w' _ _ hb (h3 p hp)⟩
/-- Rows of two types lie apart. -/
theorem own_apart {w : World} {B B' : Nat} {e e' : TypeId} {s s' : Nat} {v u : Value} {n m : Nat} {xs ys : List Value} (h : w.ownsRow B e s v n xs) (h' : w.ownsRow B' e' s' u m ys) (hne : e ≠ e') : ∀ g, v.ownBlock = some g → u.ownBlock ≠ some g := by
  intro g hg hu
  obtain ⟨_, ⟨rfl, _⟩ | ⟨g1, cap, cur, rfl, _, h1, _⟩⟩ := h
  · simp [Value.ownBlock] at hg
  · obtain ⟨_, ⟨rfl, _⟩ | ⟨g2, cap', cur', rfl, _, h2, _⟩⟩ := h'
    · simp [Value.ownBlock] at hu
    · simp only [Value.ownBlock, Option.some.injEq] at hg hu
      subst hg
      subst hu
      rw [h1] at h2
      simp only [Option.some.injEq, Obj.cells.injEq] at h2
      exact hne h2.2.1
/-- A row stays as it is while another one grows. -/
theorem own_grown {w w' : World} {b : Option Nat} (hgr : w.grownBy w' b) {B : Nat} {e : TypeId} {s : Nat} {u : Value} {m : Nat} {ys : List Value} (h : w.ownsRow B e s u m ys) (hne : ∀ g, b = some g → u.ownBlock ≠ some g) : w'.ownsRow B e s u m ys := by
  obtain ⟨h0, h1 | ⟨g, cap, cur, rfl, hB, hcur, h3⟩⟩ := h
  · exact ⟨h0, .inl h1⟩
  · refine ⟨h0, .inr ⟨g, cap, cur, rfl, hB, ?_, h3⟩⟩
    rw [hgr.block g (Array.getElem?_eq_some_iff.1 hcur).1 (fun hq => hne g hq.symm rfl)]
    exact hcur
theorem NOwn.grown {α : Type} {E : El} {row : α → Value → Array Value} {R : World → α → Value → Prop} {w w' : World} {b : Option Nat} (hgr : w.grownBy w' b) {B : Nat} {v : Value} {C : List α} (h : NOwn E row R w B v C) (hne : ∀ g, b = some g → v.ownBlock ≠ some g) (hR : ∀ a u, R w a u → R w' a u) : NOwn E row R w' B v C := by
  obtain ⟨P, h1, h2, h3⟩ := h
  exact ⟨P, h1, own_grown hgr h2 hne, fun p hp => hR _ _ (h3 p hp)⟩
theorem NOwn.snoc {α : Type} {E : El} {row : α → Value → Array Value} {R : World → α → Value → Prop} {w' : World} {B : Nat} {v' : Value} {C : List α} {c : α} {u : Value} {P : List (α × Value)} (h1 : P.map (·.1) = C) (h2 : w'.ownsRow B E.elem E.size v' (P ++ [(c, u)]).length (gcells (fun p : α × Value => row p.1 p.2) (P ++ [(c, u)])))
    (h3 : ∀ p ∈ P, R w' p.1 p.2) (h4 : R w' c u) : NOwn E row R w' B v' (C ++ [c]) :=
  ⟨P ++ [(c, u)], by rw [List.map_append, h1]; rfl, h2, fun p hp => by
    rcases List.mem_append.1 hp with hp | hp
    · exact h3 p hp
    · obtain rfl : p = (c, u) := by simpa using hp
      exact h4⟩
end Go.Proofs.YthddlchkbnmcaaaGreatDoor
namespace Go.Proofs.YthddlchkbnmcaaaGreatDoor
open Go Go.RowKit
set_option maxRecDepth 20000

/-- Where a walk stands still. -/
def StopT (p : Prop) : Prop := p
theorem of_stopT {p : Prop} (h : StopT p) : p := h
/-- A token's cells. -/
def tv (k p : Int) (t : ByteArray) (n : Int) : Array Value := #[.int .i64 k, .int .i64 p, .string t, .int .i64 n]
def encT (t : Tok) : Array Value := tv (t.kind : Nat) (t.pos : Nat) ⟨t.text.toArray⟩ (t.num : Nat)
def TokE : El := ⟨117, 80, 4, 40, tv 0 0 ⟨#[]⟩ 0⟩
theorem TokOk : TokE.Ok := ⟨Tryz.underlying80, ⟨_, Tryz.underlying117, rfl⟩, by kernel_rfl, rfl, by decide, by decide, by decide⟩
theorem tv_fits (k p : Int) (t : ByteArray) (n : Int) : Fits TokE (tv k p t n) := ⟨rfl, by simp [tv, Value.oneCell']⟩
theorem eqFields_step {P : Program} (w : World) {d : Nat} {xs ys : Array Value} {f : Field} {fs : List Field} {a b : Value} {r R : Bool} (hn : f.name ≠ "_") (ha : (part f.type xs f.offset).run P w = .ok a w) (hb : (part f.type ys f.offset).run P w = .ok b w)
    (he : (Op.equalIn d f.type a b).run P w = .ok r w) (h : (Op.eqFields d xs ys fs).run P w = .ok R w) : (Op.eqFields d xs ys (f :: fs)).run P w = .ok (r && R) w := by
  simp only [Op.eqFields, if_pos hn, Sem.run_bind, ha, hb, he, Result.andThen_ok]
  cases r
  · simp
  · simpa using h
theorem part_cell {P : Program} (w : World) {t : TypeId} {xs : Array Value} {k : Nat} {v : Value} (ha : (isAgg t).run P w = .ok false w) (hx : xs[k]? = some v) : (part t xs k).run P w = .ok v w := by
  simp [part, ha, hx, Sem.run_bind]
theorem tc_row {w : World} {g k : Nat} {cs : Array Value} {t : TypeId} {fr : Nat × Nat} (h : w.heap[g]? = some (.cells cs t fr)) (v : Value) : (w.setCell ⟨g, k, none⟩ v).heap[g]? = some (.cells (cs.setIfInBounds k v) t fr) := by
  simp [World.setCell, Array.getElem?_modify, h]
theorem tc_far {w : World} {g g' k : Nat} (h : g ≠ g') (v : Value) : (w.setCell ⟨g, k, none⟩ v).heap[g']? = w.heap[g']? := by
  simp [World.setCell, Array.getElem?_modify, h]
theorem tc_below {B : Nat} {a w : World} (h : Below B a w) {g : Nat} (hg : B ≤ g) (k : Nat) (v : Value) : Below B a (w.setCell ⟨g, k, none⟩ v) :=
  ⟨h.os, h.tape, h.output, by simpa [World.setCell] using h.size, fun j hj => (tc_far (by omega) v).trans (h.block j hj)⟩
theorem tc_size (w : World) (a : Addr) (v : Value) : (w.setCell a v).heap.size = w.heap.size := by simp [World.setCell]
theorem tc_frozen {w : World} {g k : Nat} {cs : Array Value} {t : TypeId} {fr : Nat × Nat} (h : w.heap[g]? = some (.cells cs t fr)) (hf : fr = (0, 0)) : w.frozen? ⟨g, k, none⟩ = false := by
  subst hf
  simp [World.frozen?, h]

theorem retT {fn : Func} {R : Ending → World → Prop} {a : Act} {w : World} {p u u' : Tmp} (hr : fn.results = #[.cell p 117, .tmp u, .tmp u']) (hd : a.defers = []) (g : Nat) (hp : a.tmps.getD p undef = .pointer (some ⟨g, 0, none⟩)) (cs : Array Value) (hcs : cs.size = 4)
    (hg : w.heap[g]? = some (.cells cs 117 (0, 0))) (v v' : Value) (hu : a.tmps.getD u undef = v) (hu' : a.tmps.getD u' undef = v') (h : R (.returned (.tuple #[.agg cs, v, v'])) w) : bodyPost Tryz.prog fn R .ret a w := by
  refine bodyPost_ret (v := .tuple #[.agg cs, v, v']) ?_ hd h
  rw [Array.getD_eq_getD_getElem?] at hp hu hu'
  simp [results, hr, hp, hu, hu', asAddr, run_loadVar_row w g 117 117 cs (0, 0) _ hg Tryz.underlying117 rfl (TokOk.cellsz cs hcs)]
end Go.Proofs.YthddlchkbnmcaaaGreatDoor
namespace Go.Proofs.YthddlchkbnmcaaaGreatDoor
open Go.ChangeShapes Go.WideShapes Go.ChangeAt Go.WideMaps Go.WideElems Go.RowKit
set_option maxRecDepth 20000

theorem take_one {cs : List Value} {i : Nat} {v : Value} (h : (cs.drop i).take 1 = [v]) : cs[i]? = some v := by
  have := congrArg List.head? h
  rw [List.head?_take, if_neg (by decide), List.head?_drop] at this
  simpa using this
/-- The one cell of a field. -/
theorem field_int {P : Program} {H : Type} {enc : TypeId × Value → H} {W : World} {base : Nat} {spare : Nat → Bool} {held : Bool} {n : Nat} {t : TypeId} {cs : List Value} {y : Option (DataW H × List MemPlace)} {i : Nat} {k : IntKind} (ht : P.underlying t = some (.int k)) (hc : P.cellsOf t = 1)
    (h : DataW.trod enc P W base spare held n t ((cs.drop i).take (P.cellsOf t)) = y) (hy : y.isSome = true) : ∃ z : Int, cs[i]? = some (.int k z) ∧ (Lit.int k z).wf = true := by
  obtain ⟨y', rfl⟩ := Option.isSome_iff_exists.1 hy
  obtain ⟨z, h1, _, h3⟩ := DataW.trod_int ht h
  rw [hc] at h1
  exact ⟨z, take_one h1, h3⟩
theorem field_bool {P : Program} {H : Type} {enc : TypeId × Value → H} {W : World} {base : Nat} {spare : Nat → Bool} {held : Bool} {n : Nat} {t : TypeId} {cs : List Value} {y : Option (DataW H × List MemPlace)} {i : Nat} (ht : P.underlying t = some .bool) (hc : P.cellsOf t = 1)
    (h : DataW.trod enc P W base spare held n t ((cs.drop i).take (P.cellsOf t)) = y) (hy : y.isSome = true) : ∃ b : Bool, cs[i]? = some (.bool b) := by
  obtain ⟨y', rfl⟩ := Option.isSome_iff_exists.1 hy
  obtain ⟨b, h1, _⟩ := DataW.trod_bool ht h
  rw [hc] at h1
  exact ⟨b, take_one h1⟩
theorem xs_some {α : Type} {xs : List α} {n i : Nat} (h : xs.length = n) (hi : i < n) : (xs[i]?).isSome = true := by
  rw [List.getElem?_eq_getElem (by omega)]; rfl

end Go.Proofs.YthddlchkbnmcaaaGreatDoor
namespace Go.Proofs.YthddlchkbnmcaaaGreatDoor
open Go.ChangeShapes Go.WideShapes Go.ChangeAt Go.WideMaps Go.WideElems Go.RowKit
set_option maxRecDepth 20000

def figV (f : Fig) : Array Value := #[.int .i64 f.n, .int .i64 f.pos]
def claV (c : Cla) (u : Value) : Array Value := #[.string ⟨c.word.toArray⟩, .int .i64 c.pos, u, .bool c.slash, .bool c.dash]
def rawV (x : Raw) (u : Value) : Array Value := #[.int .i64 x.pos, .bool x.dflt, .int .i64 x.prio.n, .int .i64 x.prio.pos, u, .bool x.drop, .int .i64 x.port.n, .int .i64 x.port.pos]
def FigE : El := ⟨89, 127, 2, 16, #[.int .i64 0, .int .i64 0]⟩
def ClaE : El := ⟨129, 90, 5, 56, #[.string ⟨#[]⟩, .int .i64 0, .slice none 0 0, .bool false, .bool false]⟩
def RawE : El := ⟨92, 55, 8, 80, #[.int .i64 0, .bool false, .int .i64 0, .int .i64 0, .slice none 0 0, .bool false, .int .i64 0, .int .i64 0]⟩
theorem FigOk : FigE.Ok := ⟨Tryz.underlying127, ⟨_, Tryz.underlying89, rfl⟩, by kernel_rfl, rfl, by decide, by decide, by decide⟩
theorem ClaOk : ClaE.Ok := ⟨Tryz.underlying90, ⟨_, Tryz.underlying129, rfl⟩, by kernel_rfl, rfl, by decide, by decide, by decide⟩
theorem RawOk : RawE.Ok := ⟨Tryz.underlying55, ⟨_, Tryz.underlying92, rfl⟩, by kernel_rfl, rfl, by decide, by decide, by decide⟩
theorem fig_fits (f : Fig) : Fits FigE (figV f) := ⟨rfl, by simp [figV, Value.oneCell']⟩

/-- A clause's numbers, a line's clauses, the lines, as they lie in memory. -/
def FigsAt (w : World) (c : Cla) (u : Value) : Prop := GSl FigE figV w u c.nums
def ClasAt (w : World) (x : Raw) (u : Value) : Prop := NSl ClaE claV FigsAt w u x.clauses
def RawsAt (w : World) (v : Value) (l : List Raw) : Prop := NSl RawE rawV ClasAt w v l
theorem figs_below (w w' : World) (c : Cla) (u : Value) (hb : Below w.heap.size w w') (h : FigsAt w c u) : FigsAt w' c u := GSl.below h hb
theorem clas_below (w w' : World) (x : Raw) (u : Value) (hb : Below w.heap.size w w') (h : ClasAt w x u) : ClasAt w' x u := NSl.below figs_below h hb
/-- What is asked of the numbers that come in. -/
def wfN (n : Int) : Prop := (Lit.int .i64 n).wf = true
end Go.Proofs.YthddlchkbnmcaaaGreatDoor
/-
  The library's contract of stringslite.Clone, laid at this seat's program, and strings.Clone above it.
-/
namespace Go.Proofs
open Go.Shelf
set_option maxRecDepth 20000
def Tryz.lays316_ren : Go.Shelf.Ren := ⟨fun | 316 => 112 | n => n, fun | 37 => 173 | 127 => 174 | n => n, fun | n => n⟩
theorem Tryz.lays316 : Go.Proofs.LaysM.n316 Tryz.prog Tryz.lays316_ren := {
  mixed := by kernel_rfl
  f316 := Tryz.func112.trans (congrArg some (by kernel_rfl))
  t0 := Tryz.underlying0
  a0 := Tryz.isAgg0
  z0 := Tryz.sizeOf0
  v0 := Tryz.zeroValue0
  t3 := Tryz.underlying3
  a3 := Tryz.isAgg3
  z3 := Tryz.sizeOf3
  v3 := Tryz.zeroValue3
  t4 := Tryz.underlying4
  a4 := Tryz.isAgg4
  z4 := Tryz.sizeOf4
  v4 := Tryz.zeroValue4
  t5 := Tryz.underlying5
  a5 := Tryz.isAgg5
  z5 := Tryz.sizeOf5
  v5 := Tryz.zeroValue5
  t9 := Tryz.underlying9
  a9 := Tryz.isAgg9
  z9 := Tryz.sizeOf9
  v9 := Tryz.zeroValue9
  t37 := Tryz.underlying173
  a37 := Tryz.isAgg173
  z37 := Tryz.sizeOf173
  v37 := Tryz.zeroValue173
  t127 := Tryz.underlying174
  a127 := Tryz.isAgg174
  z127 := Tryz.sizeOf174
  v127 := Tryz.zeroValue174
  i0 := by kernel_rfl
  i3 := by kernel_rfl
  i4 := by kernel_rfl
  i5 := by kernel_rfl
  i9 := by kernel_rfl
  i37 := by kernel_rfl
  i127 := by kernel_rfl }
namespace YthddlchkbnmcaaaGreatDoor
open Go Go.RowKit

theorem clone_in (s : ByteArray) (w : World) (hlim : s.size ≤ 281474976710656) :
    Calls Tryz.prog 112 #[.string s] w fun e w' => e = .returned (.string s) ∧ Below w.heap.size w w' := Any.stringslite_Clone Tryz.lays316 s w hlim

theorem clone_any (s : ByteArray) (w : World) (hlim : s.size ≤ 281474976710656) :
    Calls Tryz.prog 93 #[.string s] w fun e w' => e = .returned (.string s) ∧ Below w.heap.size w w' := by
  have C : Hid (∀ W, Calls Tryz.prog 112 #[.string s] W fun e w' => e = .returned (.string s) ∧ Below W.heap.size W w') := fun W => clone_in s W hlim
  clear hlim
  go_enter Tryz.func93, Tryz.ntmps93
  go_wp2_with fail
  refine (C.out _).mono ?_
  rintro e w1 ⟨rfl, hb1⟩
  go_wp2_with fail
  go_ret
  exact ⟨rfl, hb1⟩
end YthddlchkbnmcaaaGreatDoor
end Go.Proofs
namespace Go.Proofs.YthddlchkbnmcaaaGreatDoor
open Go Go.RowKit
set_option maxRecDepth 20000

/-- The sign with which a text begins. -/
def signR (c : UInt8) (r : List UInt8) : Nat × Nat :=
  if c == 46 then (3, 1) else if c == 47 then (4, 1) else if c == 45 then (if r.head? == some 62 then (6, 2) else (5, 1)) else if c == 10 then (7, 1) else (0, 0)

set_option maxHeartbeats 1000000 in
theorem arrow_any (s : ByteArray) (hs : s.size ≤ maxLen) (w : World) :
    Calls Tryz.prog 113 #[.string s, .string ⟨#[45, 62]⟩] w fun e w' => e = .returned (.bool (Lib.hasPrefix s.data.toList [45, 62])) ∧ w' = w := by
  unfold maxLen at hs
  have C : Hid (∀ W, Calls Tryz.prog 121 #[.string s, .string ⟨#[45, 62]⟩] W fun e w' => e = .returned (.bool (Lib.hasPrefix s.data.toList [45, 62])) ∧ w' = W) := fun W => by
    have hr := Lib.hasPrefix_raw s ⟨#[45, 62]⟩
    have hsz : (⟨#[45, 62]⟩ : ByteArray).size = 2 := rfl
    rw [hsz] at hr
    obtain ⟨R, hR⟩ : ∃ R, R = Lib.hasPrefix s.data.toList [45, 62] := ⟨_, rfl⟩
    rw [show (⟨#[45, 62]⟩ : ByteArray).data.toList = [45, 62] from rfl, ← hR] at hr
    rw [← hR]
    clear hR
    by_cases h2 : 2 ≤ s.size
    · have h2' : ((2 : Nat) : Int) ≤ (s.size : Int) := by omega
      rw [decide_eq_true h2, Bool.true_and] at hr
      go_enter Tryz.func121, Tryz.ntmps121
      go_wp2
      go_ret
      exact ⟨ret_bool (by rw [ByteArray.toList_eq ⟨#[45, 62]⟩] at hr; exact hr), rfl⟩
    · have h2' : (s.size : Int) < 2 := by omega
      rw [decide_eq_false h2, Bool.false_and] at hr
      subst hr
      go_enter Tryz.func121, Tryz.ntmps121
      go_wp2
      go_ret
      exact ⟨rfl, rfl⟩
  clear hs
  go_enter Tryz.func113, Tryz.ntmps113
  go_wp2_with fail
  refine (C.out _).mono ?_
  rintro e w1 ⟨rfl, rfl⟩
  go_wp2_with fail
  go_ret
  exact ⟨rfl, rfl⟩

theorem arrow_pre (c : UInt8) (r : List UInt8) : Lib.hasPrefix (c :: r) [45, 62] = (c == 45 && r.head? == some 62) := by
  unfold Lib.hasPrefix
  cases r with
  | nil => simp [List.isPrefixOf]
  | cons d r =>
    simp only [List.isPrefixOf, Bool.and_true, List.head?_cons]
    rw [show (45 == c) = (c == 45) from Bool.beq_comm, show (some d == some 62) = (d == 62) from rfl, show (62 == d) = (d == 62) from Bool.beq_comm]

set_option maxHeartbeats 1000000 in
theorem sign_any (s : ByteArray) (hs : s.size ≤ maxLen) (c : UInt8) (r : List UInt8) (hS : s.data.toList = c :: r) (w : World) :
    Calls Tryz.prog 95 #[.string s] w fun e w' => e = .returned (.tuple #[.int .i64 ((signR c r).1 : Nat), .int .i64 ((signR c r).2 : Nat)]) ∧ w' = w := by
  have h0 : 0 < s.size := by rw [Lib.size_eq, hS]; simp
  have C : Hid (∀ W, Calls Tryz.prog 113 #[.string s, .string ⟨#[45, 62]⟩] W fun e w' => e = .returned (.bool (c == 45 && r.head? == some 62)) ∧ w' = W) := fun W => by
    have := arrow_any s hs W
    rwa [hS, arrow_pre] at this
  have hc : s[0] = c := by
    have := byte_q s 0 h0
    rw [hS] at this
    simpa using this.symm
  have hix : ∀ W, (Instr.index 9 (.string s) (.int .i64 0)).run Tryz.prog W = .ok (.int .u8 (c.toNat : Int)) W := fun W => by
    rw [← hc]
    simp [go_sem, Tryz.underlying9, h0]
  have e1 : ((c.toNat : Int) == 46) = (c == 46) := byte_beq c 46
  have e2 : ((c.toNat : Int) == 47) = (c == 47) := byte_beq c 47
  have e3 : ((c.toNat : Int) == 45) = (c == 45) := byte_beq c 45
  have e4 : ((c.toNat : Int) == 10) = (c == 10) := byte_beq c 10
  unfold signR
  clear hc h0 hS hs
  by_cases c1 : (c == 46) = true
  · rw [c1] at e1
    simp only [c1, if_true]
    go_enter Tryz.func95, Tryz.ntmps95
    go_wp2_with fail
    go_ret2
    exact ⟨rfl, rfl⟩
  have c1' : (c == 46) = false := by simpa using c1
  clear c1
  rw [c1'] at e1
  by_cases c2 : (c == 47) = true
  · rw [c2] at e2
    simp only [c1', c2, if_true, Bool.false_eq_true, if_false]
    go_enter Tryz.func95, Tryz.ntmps95
    go_wp2_with fail
    go_ret2
    exact ⟨rfl, rfl⟩
  have c2' : (c == 47) = false := by simpa using c2
  clear c2
  rw [c2'] at e2
  by_cases c3 : (c == 45) = true
  · rw [c3] at e3
    by_cases c4 : (r.head? == some 62) = true
    · have C' : Hid (∀ W, Calls Tryz.prog 113 #[.string s, .string ⟨#[45, 62]⟩] W fun e w' => e = .returned (.bool true) ∧ w' = W) := by
        have := C.out
        rw [c3, c4] at this
        exact this
      simp only [c1', c2', c3, c4, if_true, Bool.false_eq_true, if_false]
      clear C
      go_enter Tryz.func95, Tryz.ntmps95
      go_wp2_with fail
      refine (C'.out _).mono ?_
      rintro e w1 ⟨rfl, rfl⟩
      go_wp2_with fail
      go_ret2
      exact ⟨rfl, rfl⟩
    · have c4' : (r.head? == some 62) = false := by simpa using c4
      have C' : Hid (∀ W, Calls Tryz.prog 113 #[.string s, .string ⟨#[45, 62]⟩] W fun e w' => e = .returned (.bool false) ∧ w' = W) := by
        have := C.out
        rw [c3, c4'] at this
        exact this
      simp only [c1', c2', c3, c4', if_true, Bool.false_eq_true, if_false]
      clear C c4
      go_enter Tryz.func95, Tryz.ntmps95
      go_wp2_with fail
      refine (C'.out _).mono ?_
      rintro e w1 ⟨rfl, rfl⟩
      go_wp2_with fail
      go_ret2
      exact ⟨rfl, rfl⟩
  have c3' : (c == 45) = false := by simpa using c3
  clear c3
  rw [c3'] at e3
  have C' : Hid (∀ W, Calls Tryz.prog 113 #[.string s, .string ⟨#[45, 62]⟩] W fun e w' => e = .returned (.bool false) ∧ w' = W) := by
    have := C.out
    rw [c3'] at this
    exact this
  clear C
  by_cases c5 : (c == 10) = true
  · rw [c5] at e4
    simp only [c1', c2', c3', c5, if_true, Bool.false_eq_true, if_false]
    go_enter Tryz.func95, Tryz.ntmps95
    go_wp2_with fail
    refine (C'.out _).mono ?_
    rintro e w1 ⟨rfl, rfl⟩
    go_wp2_with fail
    go_ret2
    exact ⟨rfl, rfl⟩
  · have c5' : (c == 10) = false := by simpa using c5
    clear c5
    rw [c5'] at e4
    simp only [c1', c2', c3', c5', Bool.false_eq_true, if_false]
    go_enter Tryz.func95, Tryz.ntmps95
    go_wp2_with fail
    refine (C'.out _).mono ?_
    rintro e w1 ⟨rfl, rfl⟩
    go_wp2_with fail
    go_ret2
    exact ⟨rfl, rfl⟩
end Go.Proofs.YthddlchkbnmcaaaGreatDoor
namespace Go.Proofs.YthddlchkbnmcaaaGreatDoor
open Go Go.RowKit
set_option maxRecDepth 20000

/-- A number and what is wrong with it. -/
def numR (D : List UInt8) : Nat × Nat := match numOf D with | some n => (n, 0) | none => (0, 7)
theorem val_app (D : List UInt8) (c : UInt8) : val (D ++ [c]) = val D * 10 + (c.toNat - 48) := by unfold val; rw [List.foldl_append]; rfl
theorem val_grow : ∀ (E : List UInt8) (n : Nat), n ≤ E.foldl (fun n c => n * 10 + (c.toNat - 48)) n
  | [], n => Nat.le_refl n
  | c :: E, n => by
    rw [List.foldl_cons]
    exact Nat.le_trans (by omega) (val_grow E _)
theorem val_mono (D E : List UInt8) : val D ≤ val (D ++ E) := by
  unfold val
  rw [List.foldl_append]
  exact val_grow E _
theorem val_take (D : List UInt8) (k : Nat) (hk : k < D.length) : val (D.take (k + 1)) = val (D.take k) * 10 + (D[k].toNat - 48) := by
  rw [List.take_succ_eq_append_getElem hk, val_app]
theorem val_take_le (D : List UInt8) (k : Nat) : val (D.take k) ≤ val D := by
  have := val_mono (D.take k) (D.drop k)
  rwa [List.take_append_drop] at this

set_option maxHeartbeats 1000000 in
theorem number_any (s : ByteArray) (hs : s.size ≤ maxLen) (h0 : 0 < s.size) (hD : ∀ c ∈ s.data.toList, isDig c = true) (w : World) :
    Calls Tryz.prog 94 #[.string s] w fun e w' => e = .returned (.tuple #[.int .i64 ((numR s.data.toList).1 : Nat), .int .i64 ((numR s.data.toList).2 : Nat)]) ∧ w' = w := by
  unfold maxLen at hs
  have hlen : s.data.toList.length = s.size := (Lib.size_eq s).symm
  obtain ⟨S, hS⟩ : ∃ S, S = s.data.toList := ⟨_, rfl⟩
  have hby : ∀ k (hk : k < s.size), ∃ b : Nat, 48 ≤ b ∧ b ≤ 57 ∧ s[k].toNat = b ∧ val (S.take (k + 1)) = val (S.take k) * 10 + (b - 48) := fun k hk => by
    have hm : s[k] ∈ s.data.toList := List.mem_of_getElem? (byte_q s k hk)
    have := hD _ hm
    unfold isDig at this
    simp only [Bool.and_eq_true, decide_eq_true_eq] at this
    refine ⟨_, this.1, this.2, rfl, ?_⟩
    have hk' : k < S.length := by rw [hS, hlen]; exact hk
    rw [val_take S k hk']
    have e : S[k] = s[k] := by
      have := byte_q s k hk
      rw [← hS, List.getElem?_eq_getElem hk'] at this
      simpa using this
    rw [e]
  have HBY : Hid (∀ k (hk : k < s.size), ∃ b : Nat, 48 ≤ b ∧ b ≤ 57 ∧ s[k].toNat = b ∧ val (S.take (k + 1)) = val (S.take k) * 10 + (b - 48)) := hby
  have hh : S.head? = some s[0] := by
    have := byte_q s 0 h0
    rw [← hS] at this
    rw [List.head?_eq_getElem?]; exact this
  have hz : ((s[0].toNat : Int) == 48) = (S.head? == some 48) := by
    rw [hh]; exact byte_beq s[0] 48
  have hix0 : ∀ W, (Instr.index 9 (.string s) (.int .i64 0)).run Tryz.prog W = .ok (.int .u8 (s[0].toNat : Int)) W := fun W => by
    simp [go_sem, Tryz.underlying9, h0]
  have HL : Hid (S.length = s.size) := by rw [hS]; exact hlen
  rw [← hS]
  obtain ⟨R, hR⟩ : ∃ R, R = numR S := ⟨_, rfl⟩
  have HR : Hid (R = if decide (4294967295 < val S) || (decide (1 < s.size) && S.head? == some 48) then (0, 7) else (val S, 0)) := by
    show R = _
    rw [hR, ← HL.out]
    unfold numR numOf
    split <;> rename_i h1
    · split at h1
      · cases h1
      · obtain rfl := Option.some.inj h1; rw [if_neg (by assumption)]
    · split at h1
      · rw [if_pos (by assumption)]
      · cases h1
  rw [← hR]
  obtain ⟨z0, hz0⟩ : ∃ z0 : Int, z0 = (s[0].toNat : Int) := ⟨_, rfl⟩
  rw [← hz0] at hz hix0
  clear hR hS hD hlen hby hh hz0
  have LOOP : Hid (Hid (R = if decide (4294967295 < val S) then (0, 7) else (val S, 0)) → (1 < (s.size : Int) → (z0 == 48) = false) → Calls Tryz.prog 94 #[.string s] w fun e w' => e = .returned (.tuple #[.int .i64 (R.1 : Nat), .int .i64 (R.2 : Nat)]) ∧ w' = w) := by
    intro HR2 hg
    clear HR hz
    by_cases h1 : 1 < (s.size : Int)
    · have hg1 := hg h1
      clear hg
      go_enter Tryz.func94, Tryz.ntmps94
      go_wp2_with fail
      go_loop [4, 16] (fun v i => ∃ k : Nat, k ≤ s.size ∧ i = .int .i64 (k : Int) ∧ v = .int .i64 ((val (S.take k) : Nat) : Int) ∧ val (S.take k) ≤ 4294967295) (fun _ i => s.size - (intOf i).toNat)
      case atStart => exact ⟨0, Nat.zero_le _, rfl, rfl, Nat.zero_le _⟩
      case round =>
        obtain ⟨k, hk, rfl, rfl, hv⟩ := hrel
        by_cases hlt : k < s.size
        · obtain ⟨b, hb1, hb2, hb3, hb4⟩ := HBY.out k hlt
          have hix : ∀ W, (Instr.index 9 (.string s) (.int .i64 (k : Int))).run Tryz.prog W = .ok (.int .u8 (b : Int)) W := fun W => by
            rw [← hb3]
            simp [go_sem, Tryz.underlying9, hlt]
          obtain ⟨x, hx⟩ : ∃ x, x = val (S.take k) := ⟨_, rfl⟩
          rw [← hx] at hv hb4 ⊢
          obtain ⟨y, hy⟩ : ∃ y, y = x * 10 + (b - 48) := ⟨_, rfl⟩
          have hyz : (x : Int) * 10 + ((b : Int) - 48) = (y : Int) := by omega
          have HB4 : Hid (val (S.take (k + 1)) = y) := by show _ = _; rw [hb4, hy]
          have hlt' : (k : Int) < (s.size : Int) := by omega
          have hy2 : y ≤ 100000000000 := by omega
          clear hb4 hb3 hx hy
          by_cases hbig : 4294967295 < y
          · have HRZ : Hid (R = (0, 7)) := by
              show _ = _
              rw [HR2.out, if_pos]
              have := val_take_le S (k + 1)
              rw [HB4.out] at this
              exact decide_eq_true (by omega)
            go_wp2_with fail
            go_ret2
            exact ⟨by rw [HRZ.out]; rfl, rfl⟩
          · go_wp2_with fail
            go_round
            case rel => exact ⟨k + 1, by omega, by go_num, by rw [HB4.out], by rw [HB4.out]; omega⟩
            case measure => simp [intOf]; omega
        · have hk' : k = s.size := by omega
          have hlt' : (s.size : Int) ≤ (k : Int) := by omega
          have HRZ : Hid (R = (val (S.take k), 0)) := by
            show _ = _
            have e : S.take k = S := by rw [List.take_of_length_le]; rw [HL.out]; omega
            rw [e] at hv ⊢
            rw [HR2.out, if_neg (by simpa using hv)]
          clear hk' hlt
          go_wp2_with fail
          go_ret2
          exact ⟨by rw [HRZ.out]; rfl, rfl⟩
    · clear hg
      go_enter Tryz.func94, Tryz.ntmps94
      go_wp2_with fail
      go_loop [4, 16] (fun v i => ∃ k : Nat, k ≤ s.size ∧ i = .int .i64 (k : Int) ∧ v = .int .i64 ((val (S.take k) : Nat) : Int) ∧ val (S.take k) ≤ 4294967295) (fun _ i => s.size - (intOf i).toNat)
      case atStart => exact ⟨0, Nat.zero_le _, rfl, rfl, Nat.zero_le _⟩
      case round =>
        obtain ⟨k, hk, rfl, rfl, hv⟩ := hrel
        by_cases hlt : k < s.size
        · obtain ⟨b, hb1, hb2, hb3, hb4⟩ := HBY.out k hlt
          have hix : ∀ W, (Instr.index 9 (.string s) (.int .i64 (k : Int))).run Tryz.prog W = .ok (.int .u8 (b : Int)) W := fun W => by
            rw [← hb3]
            simp [go_sem, Tryz.underlying9, hlt]
          obtain ⟨x, hx⟩ : ∃ x, x = val (S.take k) := ⟨_, rfl⟩
          rw [← hx] at hv hb4 ⊢
          obtain ⟨y, hy⟩ : ∃ y, y = x * 10 + (b - 48) := ⟨_, rfl⟩
          have hyz : (x : Int) * 10 + ((b : Int) - 48) = (y : Int) := by omega
          have HB4 : Hid (val (S.take (k + 1)) = y) := by show _ = _; rw [hb4, hy]
          have hlt' : (k : Int) < (s.size : Int) := by omega
          have hy2 : y ≤ 100000000000 := by omega
          clear hb4 hb3 hx hy
          by_cases hbig : 4294967295 < y
          · have HRZ : Hid (R = (0, 7)) := by
              show _ = _
              rw [HR2.out, if_pos]
              have := val_take_le S (k + 1)
              rw [HB4.out] at this
              exact decide_eq_true (by omega)
            go_wp2_with fail
            go_ret2
            exact ⟨by rw [HRZ.out]; rfl, rfl⟩
          · go_wp2_with fail
            go_round
            case rel => exact ⟨k + 1, by omega, by go_num, by rw [HB4.out], by rw [HB4.out]; omega⟩
            case measure => simp [intOf]; omega
        · have hk' : k = s.size := by omega
          have hlt' : (s.size : Int) ≤ (k : Int) := by omega
          have HRZ : Hid (R = (val (S.take k), 0)) := by
            show _ = _
            have e : S.take k = S := by rw [List.take_of_length_le]; rw [HL.out]; omega
            rw [e] at hv ⊢
            rw [HR2.out, if_neg (by simpa using hv)]
          clear hk' hlt
          go_wp2_with fail
          go_ret2
          exact ⟨by rw [HRZ.out]; rfl, rfl⟩
  by_cases h1 : 1 < (s.size : Int)
  · by_cases hzz : (S.head? == some 48) = true
    · have hR2 : R = (0, 7) := by
        rw [HR.out, if_pos]
        rw [hzz, decide_eq_true (by omega : 1 < s.size)]; simp
      subst hR2
      rw [hzz] at hz
      clear HR LOOP
      go_enter Tryz.func94, Tryz.ntmps94
      go_wp2_with fail
      go_ret2
      exact ⟨rfl, rfl⟩
    · have hzz' : (S.head? == some 48) = false := by simpa using hzz
      refine LOOP.out ?_ fun _ => by rw [hz]; exact hzz'
      show R = _
      rw [HR.out, hzz']; simp
  · refine LOOP.out ?_ fun h => absurd h h1
    show R = _
    rw [HR.out, decide_eq_false (by omega : ¬ 1 < s.size)]; simp
end Go.Proofs.YthddlchkbnmcaaaGreatDoor
namespace Go.Proofs.YthddlchkbnmcaaaGreatDoor
open Go Go.RowKit
set_option maxRecDepth 20000

/-- What 'first' answers. -/
def FirstR (x : Lx × Nat) (e : Ending) : Prop :=
  match x with
  | (.ok (some (k, t, v)), n) => e = .returned (.tuple #[.agg (tv (k : Nat) 0 ⟨t.toArray⟩ (v : Nat)), .int .i64 ((n + 1 : Nat) : Int), .int .i64 0])
  | (.error er, _) => ∃ k v m : Int, e = .returned (.tuple #[.agg (tv k 0 ⟨#[]⟩ v), .int .i64 m, .int .i64 (er : Nat)])
  | (.ok none, _) => False

theorem abc_str : (⟨#[97, 98, 99, 100, 101, 102, 103, 104, 105, 106, 107, 108, 109, 110, 111, 112, 113, 114, 115, 116, 117, 118, 119, 120, 121, 122]⟩ : ByteArray).data.toList = abcL := rfl
theorem dig_str : (⟨#[48, 49, 50, 51, 52, 53, 54, 55, 56, 57]⟩ : ByteArray).data.toList = digL := rfl
theorem abc_row (s : ByteArray) (hs : s.size ≤ maxLen) (w : World) :
    Calls Tryz.prog 92 #[.string s, .string ⟨#[97, 98, 99, 100, 101, 102, 103, 104, 105, 106, 107, 108, 109, 110, 111, 112, 113, 114, 115, 116, 117, 118, 119, 120, 121, 122]⟩] w fun e w' => e = .returned (.int .i64 ((s.data.toList.takeWhile isLet).length : Nat)) ∧ w' = w :=
  row_any s hs _ isLet (fun c => by rw [abc_str]; exact abc_let c) w
theorem dig_row (s : ByteArray) (hs : s.size ≤ maxLen) (w : World) :
    Calls Tryz.prog 92 #[.string s, .string ⟨#[48, 49, 50, 51, 52, 53, 54, 55, 56, 57]⟩] w fun e w' => e = .returned (.int .i64 ((s.data.toList.takeWhile isDig).length : Nat)) ∧ w' = w :=
  row_any s hs _ isDig (fun c => by rw [dig_str]; exact dig_dig c) w

theorem mk_of_data {s : ByteArray} {x : List UInt8} (h : s.data.toList = x) : s = ⟨x.toArray⟩ := by
  subst h; exact (Lib.mk_data s).symm

theorem dig_all {c : UInt8} {r : List UInt8} (h : isDig c = true) : ∀ b ∈ c :: r.takeWhile isDig, isDig b = true := fun b hb => by
  rcases List.mem_cons.1 hb with rfl | hb
  · exact h
  · exact takeWhile_all _ _ b hb

set_option maxHeartbeats 2000000 in
theorem first_any (s : ByteArray) (hs : s.size ≤ 4096) (c : UInt8) (r : List UInt8) (hS : s.data.toList = c :: r) (hb : isBlank c = false) (hh : (c == 35) = false) (w : World) :
    Calls Tryz.prog 69 #[.string s] w fun e w' => FirstR (lexeme c r) e ∧ Below w.heap.size w w' := by
  have hsz : s.size = r.length + 1 := by rw [Lib.size_eq, hS]; rfl
  have hm : s.size ≤ maxLen := by unfold maxLen; omega
  have C1 : Hid (∀ W, Calls Tryz.prog 92 #[.string s, .string ⟨#[97, 98, 99, 100, 101, 102, 103, 104, 105, 106, 107, 108, 109, 110, 111, 112, 113, 114, 115, 116, 117, 118, 119, 120, 121, 122]⟩] W fun e w' => e = .returned (.int .i64 (((c :: r).takeWhile isLet).length : Nat)) ∧ w' = W) := fun W => by
    rw [← hS]; exact abc_row s hm W
  have C2 : Hid (∀ W, Calls Tryz.prog 92 #[.string s, .string ⟨#[48, 49, 50, 51, 52, 53, 54, 55, 56, 57]⟩] W fun e w' => e = .returned (.int .i64 (((c :: r).takeWhile isDig).length : Nat)) ∧ w' = W) := fun W => by
    rw [← hS]; exact dig_row s hm W
  have C3 : Hid (∀ W, Calls Tryz.prog 95 #[.string s] W fun e w' => e = .returned (.tuple #[.int .i64 ((signR c r).1 : Nat), .int .i64 ((signR c r).2 : Nat)]) ∧ w' = W) := fun W => sign_any s hm c r hS W
  by_cases c1 : isLet c = true
  · have hx : lexeme c r = (Lx.tok 1 (c :: r.takeWhile isLet) 0, (r.takeWhile isLet).length) := by
      unfold lexeme
      simp only [hb, c1, Bool.false_eq_true, if_false, if_true]
    rw [hx]
    clear hx
    have ht : ((c :: r).takeWhile isLet).length = (r.takeWhile isLet).length + 1 := by rw [List.takeWhile_cons, if_pos c1]; rfl
    have hle := takeWhile_le isLet r
    have hd : (s.extract 0 ((r.takeWhile isLet).length + 1)).data.toList = c :: r.takeWhile isLet := by
      rw [Lib.extract_data, hS, List.drop_zero, Nat.sub_zero, List.take_succ_cons, takeWhile_take]
    have hE := mk_of_data hd
    obtain ⟨n, hn⟩ : ∃ n, n = (r.takeWhile isLet).length := ⟨_, rfl⟩
    obtain ⟨t, ht2⟩ : ∃ t, t = c :: r.takeWhile isLet := ⟨_, rfl⟩
    rw [← hn] at ht hle hE
    rw [← ht2] at hE
    rw [ht] at C1
    rw [← hn, ← ht2]
    have C4 : Hid (∀ W, Calls Tryz.prog 93 #[.string (s.extract 0 (n + 1))] W fun e w' => e = .returned (.string (s.extract 0 (n + 1))) ∧ Below W.heap.size W w') := fun W => clone_any _ W (by
      rw [ByteArray.size_extract]; omega)
    clear ht2 hn hd ht c1 hS C2 C3 hb hh hm
    have HE : Hid (s.extract 0 (n + 1) = ⟨t.toArray⟩) := hE
    clear hE
    go_enter Tryz.func69, Tryz.ntmps69
    go_wp2_with fail
    refine (C1.out _).mono ?_
    rintro e w1 ⟨rfl, rfl⟩
    go_wp2_with fail
    refine (C4.out _).mono ?_
    rintro e w2 ⟨rfl, hb2⟩
    rw [HE.out]
    have g2 : w2.heap[w.heap.size]? = some (.cells (tv 0 0 ⟨#[]⟩ 0) 117 (0, 0)) := by rw [hb2.block _ (by simp)]; exact heap_new _ _ _ rfl
    have B2 : Below w.heap.size w w2 := ((Below.refl _ _).alloc (Nat.le_refl _) _).trans (hb2.mono (by simp))
    go_wp2_with (first
      | (refine wl_storeE (E := TokE) TokOk rfl _ _ rfl w.heap.size (tv 1 0 ⟨t.toArray⟩ 0) (tv_fits _ _ _ _) rfl rfl _ g2 rfl _ rfl ?_))
    refine retT (p := 2) (u := 3) (u' := 4) rfl rfl w.heap.size rfl (tv 1 0 ⟨t.toArray⟩ 0) rfl (setRow_heap _ _ _ _ _ _ g2) _ _ rfl rfl ⟨rfl, ?_⟩
    exact below_setRow B2 (Nat.le_refl _) _
  have c1' : isLet c = false := by simpa using c1
  have t1 : ((c :: r).takeWhile isLet).length = 0 := by rw [List.takeWhile_cons, if_neg c1]; rfl
  rw [t1] at C1
  clear t1 c1
  by_cases c2 : isDig c = true
  · have hx : lexeme c r = (match numOf (c :: r.takeWhile isDig) with | some n => Lx.tok 2 [] n | Option.none => Lx.err 7, (r.takeWhile isDig).length) := by
      unfold lexeme
      simp only [hb, c1', c2, Bool.false_eq_true, if_false, if_true]
      rfl
    have ht : ((c :: r).takeWhile isDig).length = (r.takeWhile isDig).length + 1 := by rw [List.takeWhile_cons, if_pos c2]; rfl
    have hle := takeWhile_le isDig r
    have hd : (s.extract 0 ((r.takeWhile isDig).length + 1)).data.toList = c :: r.takeWhile isDig := by
      rw [Lib.extract_data, hS, List.drop_zero, Nat.sub_zero, List.take_succ_cons, takeWhile_take]
    have C4 : Hid (∀ W, Calls Tryz.prog 94 #[.string (s.extract 0 ((r.takeWhile isDig).length + 1))] W fun e w' => e = .returned (.tuple #[.int .i64 ((numR (c :: r.takeWhile isDig)).1 : Nat), .int .i64 ((numR (c :: r.takeWhile isDig)).2 : Nat)]) ∧ w' = W) := fun W => by
      have := number_any (s.extract 0 ((r.takeWhile isDig).length + 1)) (by rw [ByteArray.size_extract]; unfold maxLen; omega) (by rw [ByteArray.size_extract]; omega) (by rw [hd]; exact dig_all c2) W
      rwa [hd] at this
    have HX : Hid (∀ m : Int, FirstR (lexeme c r) (.returned (.tuple #[.agg (tv 2 0 ⟨#[]⟩ ((numR (c :: r.takeWhile isDig)).1 : Nat)), .int .i64 (((r.takeWhile isDig).length + 1 : Nat) : Int), .int .i64 ((numR (c :: r.takeWhile isDig)).2 : Nat)]))) := fun _ => by
      rw [hx]
      unfold numR
      cases numOf (c :: r.takeWhile isDig) with
      | some v => exact rfl
      | none => exact ⟨_, _, _, rfl⟩
    obtain ⟨n, hn⟩ : ∃ n, n = (r.takeWhile isDig).length := ⟨_, rfl⟩
    obtain ⟨R, hR⟩ : ∃ R, R = numR (c :: r.takeWhile isDig) := ⟨_, rfl⟩
    rw [← hR, ← hn] at C4 HX
    rw [← hn] at ht hle
    rw [ht] at C2
    clear hR hn hd ht c2 hS C3 hb hh hm hx
    go_enter Tryz.func69, Tryz.ntmps69
    go_wp2_with fail
    refine (C1.out _).mono ?_
    rintro e w1 ⟨rfl, rfl⟩
    go_wp2_with fail
    refine (C2.out _).mono ?_
    rintro e w1 ⟨rfl, rfl⟩
    go_wp2_with fail
    refine (C4.out _).mono ?_
    rintro e w1 ⟨rfl, rfl⟩
    go_wp2_with (first
      | (refine wl_storeE (E := TokE) TokOk rfl _ _ rfl w.heap.size (tv 2 0 ⟨#[]⟩ (R.1 : Nat)) (tv_fits _ _ _ _) rfl rfl _ (heap_new _ _ _ rfl) rfl _ (setRow_new _ _ _ _ _ rfl) ?_))
    refine retT (p := 2) (u := 3) (u' := 4) rfl rfl w.heap.size rfl (tv 2 0 ⟨#[]⟩ (R.1 : Nat)) rfl (heap_new _ _ _ rfl) _ _ rfl rfl ⟨HX.out 0, ?_⟩
    exact (Below.refl _ _).alloc (Nat.le_refl _) _
  have c2' : isDig c = false := by simpa using c2
  have t2 : ((c :: r).takeWhile isDig).length = 0 := by rw [List.takeWhile_cons, if_neg c2]; rfl
  rw [t2] at C2
  clear t2 c2
  have HX : Hid (if (signR c r).2 = 0 then lexeme c r = (Lx.err 6, 0) else ∃ m, (signR c r).2 = m + 1 ∧ lexeme c r = (Lx.tok (signR c r).1 [] 0, m)) := by
    show ite _ _ _
    unfold lexeme signR
    simp only [hb, c1', c2', Bool.false_eq_true, if_false]
    by_cases k1 : (c == 46) = true
    · simp [k1]
    · have k1' : (c == 46) = false := by simpa using k1
      by_cases k2 : (c == 47) = true
      · simp [k1', k2]
      · have k2' : (c == 47) = false := by simpa using k2
        by_cases k3 : (c == 45) = true
        · by_cases k4 : (r.head? == some 62) = true
          · simp only [k1', k2', k3, k4]; simp
          · have k4' : (r.head? == some 62) = false := by simpa using k4
            simp only [k1', k2', k3, k4']; simp
        · have k3' : (c == 45) = false := by simpa using k3
          by_cases k5 : (c == 10) = true
          · simp [k1', k2', k3', k5]
          · have k5' : (c == 10) = false := by simpa using k5
            simp [k1', k2', k3', k5', hh]
  obtain ⟨R, hR⟩ : ∃ R, R = signR c r := ⟨_, rfl⟩
  rw [← hR] at C3 HX
  clear hR hS hb hh hm c1' c2'
  by_cases h0 : R.2 = 0
  · have HY : Hid (lexeme c r = (Lx.err 6, 0)) := by
      have := HX.out
      rwa [if_pos h0] at this
    rw [HY.out]
    rw [h0] at C3
    clear HX h0
    go_enter Tryz.func69, Tryz.ntmps69
    go_wp2_with fail
    refine (C1.out _).mono ?_
    rintro e w1 ⟨rfl, rfl⟩
    go_wp2_with fail
    refine (C2.out _).mono ?_
    rintro e w1 ⟨rfl, rfl⟩
    go_wp2_with fail
    refine (C3.out _).mono ?_
    rintro e w1 ⟨rfl, rfl⟩
    go_wp2_with (first
      | (refine wl_storeE (E := TokE) TokOk rfl _ _ rfl w.heap.size (tv 0 0 ⟨#[]⟩ 0) (tv_fits _ _ _ _) rfl rfl _ (heap_new _ _ _ rfl) rfl _ (setRow_new _ _ _ _ _ rfl) ?_))
    refine retT (p := 2) (u := 3) (u' := 4) rfl rfl w.heap.size rfl (tv 0 0 ⟨#[]⟩ 0) rfl (heap_new _ _ _ rfl) _ _ rfl rfl ⟨⟨_, _, _, rfl⟩, ?_⟩
    exact (Below.refl _ _).alloc (Nat.le_refl _) _
  · obtain ⟨m, hm, hl⟩ : ∃ m, R.2 = m + 1 ∧ lexeme c r = (Lx.tok R.1 [] 0, m) := by
      have := HX.out
      rwa [if_neg h0] at this
    have hm2 : m ≤ r.length := by have := lexeme_le c r; rw [hl] at this; exact this
    rw [hl]
    rw [hm] at C3
    obtain ⟨k, hk⟩ : ∃ k, k = R.1 := ⟨_, rfl⟩
    rw [← hk] at C3 ⊢
    clear HX h0 hl hm hk
    go_enter Tryz.func69, Tryz.ntmps69
    go_wp2_with fail
    refine (C1.out _).mono ?_
    rintro e w1 ⟨rfl, rfl⟩
    go_wp2_with fail
    refine (C2.out _).mono ?_
    rintro e w1 ⟨rfl, rfl⟩
    go_wp2_with fail
    refine (C3.out _).mono ?_
    rintro e w1 ⟨rfl, rfl⟩
    go_wp2_with (first
      | (refine wl_storeE (E := TokE) TokOk rfl _ _ rfl w.heap.size (tv (k : Nat) 0 ⟨#[]⟩ 0) (tv_fits _ _ _ _) rfl rfl _ (heap_new _ _ _ rfl) rfl _ (setRow_new _ _ _ _ _ rfl) ?_))
    refine retT (p := 2) (u := 3) (u' := 4) rfl rfl w.heap.size rfl (tv (k : Nat) 0 ⟨#[]⟩ 0) rfl (heap_new _ _ _ rfl) _ _ rfl rfl ⟨rfl, ?_⟩
    exact (Below.refl _ _).alloc (Nat.le_refl _) _
end Go.Proofs.YthddlchkbnmcaaaGreatDoor
