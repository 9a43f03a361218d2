import Derived.Test.YtgcfdcgmddjhbaaDoorOpenTok
import Derived.Test.YtgcfdcgmddjhbaaDoorParseMath
namespace Go.Proofs.YtgcfdcgmddjhbaaDoor
open Go.ChangeShapes Go.WideShapes Go.ChangeAt Go.WideMaps Go.WideElems Go.RowKit
set_option maxRecDepth 20000

def figV (f : Fig) : Array Value := #[.int .i64 f.n, .int .i64 f.pos]
def claV (c : Cla) (u : Value) : Array Value := #[.string ⟨c.word.toArray⟩, .int .i64 c.pos, u, .bool c.slash, .bool c.dash]
def rawV (x : Raw) (u : Value) : Array Value := #[.int .i64 x.pos, .bool x.dflt, .int .i64 x.prio.n, .int .i64 x.prio.pos, u, .bool x.drop, .int .i64 x.port.n, .int .i64 x.port.pos]
def FigE : El := ⟨25, 29, 2, 16, #[.int .i64 0, .int .i64 0]⟩
def ClaE : El := ⟨31, 26, 5, 56, #[.string ⟨#[]⟩, .int .i64 0, .slice none 0 0, .bool false, .bool false]⟩
def RawE : El := ⟨28, 22, 8, 80, #[.int .i64 0, .bool false, .int .i64 0, .int .i64 0, .slice none 0 0, .bool false, .int .i64 0, .int .i64 0]⟩
theorem FigOk : FigE.Ok := ⟨Tryd.underlying29, ⟨_, Tryd.underlying25, rfl⟩, by kernel_rfl, rfl, by decide, by decide, by decide⟩
theorem ClaOk : ClaE.Ok := ⟨Tryd.underlying26, ⟨_, Tryd.underlying31, rfl⟩, by kernel_rfl, rfl, by decide, by decide, by decide⟩
theorem RawOk : RawE.Ok := ⟨Tryd.underlying22, ⟨_, Tryd.underlying28, rfl⟩, by kernel_rfl, rfl, by decide, by decide, by decide⟩
theorem fig_fits (f : Fig) : Fits FigE (figV f) := ⟨rfl, by simp [figV, Value.oneCell']⟩

/-- A clause's numbers, a line's clauses, the lines, as they lie in memory. -/
def FigsAt (w : World) (c : Cla) (u : Value) : Prop := GSl FigE figV w u c.nums
def ClasAt (w : World) (x : Raw) (u : Value) : Prop := NSl ClaE claV FigsAt w u x.clauses
def RawsAt (w : World) (v : Value) (l : List Raw) : Prop := NSl RawE rawV ClasAt w v l
theorem figs_below (w w' : World) (c : Cla) (u : Value) (hb : Below w.heap.size w w') (h : FigsAt w c u) : FigsAt w' c u := GSl.below h hb
theorem clas_below (w w' : World) (x : Raw) (u : Value) (hb : Below w.heap.size w w') (h : ClasAt w x u) : ClasAt w' x u := NSl.below figs_below h hb
theorem raws_below {w w' : World} {v : Value} {l : List Raw} (h : RawsAt w v l) (hb : Below w.heap.size w w') : RawsAt w' v l := NSl.below clas_below h hb

theorem fig_of {H : Type} {enc : TypeId × Value → H} {W : World} {base : Nat} {spare : Nat → Bool} {held : Bool} (fuel : Nat) (cs : List Value) (x : DataW H × List MemPlace) (hl : cs.length = 2)
    (h : DataW.trod enc Tryd.prog W base spare held fuel 25 cs = some x) : ∃ f : Fig, cs = (figV f).toList ∧ (Lit.int .i64 f.n).wf = true := by
  have c3 : Tryd.prog.cellsOf 3 = 1 := by kernel_rfl
  obtain ⟨xs, n, _, _, _, hxl, hf⟩ := DataW.trod_struct Tryd.underlying25 h
  obtain ⟨k, h0, w0⟩ := field_int Tryd.underlying3 c3 (hf 0 _ rfl) (xs_some hxl (by decide))
  obtain ⟨p, h1, _⟩ := field_int Tryd.underlying3 c3 (hf 1 _ rfl) (xs_some hxl (by decide))
  refine ⟨⟨k, p⟩, ?_, w0⟩
  match cs, hl with
  | [a, b], _ =>
    obtain rfl : a = .int .i64 k := by simpa using h0
    obtain rfl : b = .int .i64 p := by simpa using h1
    rfl
/-- What is asked of the numbers that come in. -/
def wfN (n : Int) : Prop := (Lit.int .i64 n).wf = true
theorem cla_of {H : Type} {enc : TypeId × Value → H} {W : World} {base : Nat} {spare : Nat → Bool} {held : Bool} (fuel : Nat) (cs : List Value) (x : DataW H × List MemPlace) (hl : cs.length = 5)
    (h : DataW.trod enc Tryd.prog W base spare held fuel 31 cs = some x) : ∃ c : Cla × Value, cs = (claV c.1 c.2).toList ∧ (FigsAt W c.1 c.2 ∧ c.1.word.length ≤ maxLen ∧ ∀ f ∈ c.1.nums, wfN f.n) := by
  have c3 : Tryd.prog.cellsOf 3 = 1 := by kernel_rfl
  have c4 : Tryd.prog.cellsOf 4 = 1 := by kernel_rfl
  have c9 : Tryd.prog.cellsOf 9 = 1 := by kernel_rfl
  have cf : Tryd.prog.cellsOf 29 = 1 := by kernel_rfl
  obtain ⟨xs, n, _, _, _, hxl, hf⟩ := DataW.trod_struct Tryd.underlying31 h
  obtain ⟨t, h0, hs⟩ := field_string Tryd.underlying9 c9 (hf 0 _ rfl) (xs_some hxl (by decide))
  obtain ⟨p, h1, _⟩ := field_int Tryd.underlying3 c3 (hf 1 _ rfl) (xs_some hxl (by decide))
  obtain ⟨v, y, h2, hv⟩ := field_slice Tryd.underlying29 cf (hf 2 _ rfl) (xs_some hxl (by decide))
  obtain ⟨b1, h3⟩ := field_bool Tryd.underlying4 c4 (hf 3 _ rfl) (xs_some hxl (by decide))
  obtain ⟨b2, h4⟩ := field_bool Tryd.underlying4 c4 (hf 4 _ rfl) (xs_some hxl (by decide))
  have hin : Inhabited Fig := ⟨⟨0, 0⟩⟩
  obtain ⟨C, hC, hq⟩ := open_any (E := FigE) FigOk figV (fun _ => rfl) (fun f => wfN f.n) fig_of hv
  refine ⟨(⟨t.data.toList, p, C, b1, b2⟩, v), ?_, hC, by show t.data.toList.length ≤ maxLen; simpa using hs, hq⟩
  match cs, hl with
  | [a, b, c, d, e], _ =>
    obtain rfl : a = .string t := by simpa using h0
    obtain rfl : b = .int .i64 p := by simpa using h1
    obtain rfl : c = v := by simpa using h2
    obtain rfl : d = .bool b1 := by simpa using h3
    obtain rfl : e = .bool b2 := by simpa using h4
    rfl
theorem raw_of {H : Type} {enc : TypeId × Value → H} {W : World} {base : Nat} {spare : Nat → Bool} {held : Bool} (fuel : Nat) (cs : List Value) (x : DataW H × List MemPlace) (hl : cs.length = 8)
    (h : DataW.trod enc Tryd.prog W base spare held fuel 28 cs = some x) : ∃ c : Raw × Value, cs = (rawV c.1 c.2).toList ∧ (ClasAt W c.1 c.2 ∧ wfN c.1.prio.n ∧ wfN c.1.port.n ∧ ∀ d ∈ c.1.clauses, d.word.length ≤ maxLen ∧ ∀ f ∈ d.nums, wfN f.n) := by
  have c3 : Tryd.prog.cellsOf 3 = 1 := by kernel_rfl
  have c4 : Tryd.prog.cellsOf 4 = 1 := by kernel_rfl
  have cc : Tryd.prog.cellsOf 26 = 1 := by kernel_rfl
  have cfig : Tryd.prog.cellsOf 25 = 2 := by kernel_rfl
  obtain ⟨xs, n, _, _, _, hxl, hf⟩ := DataW.trod_struct Tryd.underlying28 h
  obtain ⟨p, h0, _⟩ := field_int Tryd.underlying3 c3 (hf 0 _ rfl) (xs_some hxl (by decide))
  obtain ⟨b1, h1⟩ := field_bool Tryd.underlying4 c4 (hf 1 _ rfl) (xs_some hxl (by decide))
  have g2 : DataW.trod enc Tryd.prog W base spare held n 25 ((cs.drop 2).take (Tryd.prog.cellsOf 25)) = xs[2]? := hf 2 _ rfl
  obtain ⟨y2, e2⟩ := Option.isSome_iff_exists.1 (xs_some (i := 2) hxl (by decide))
  rw [e2, cfig] at g2
  obtain ⟨pr, h2, w2⟩ := fig_of _ _ _ (by simp [hl]) g2
  obtain ⟨v, y, h3, hv⟩ := field_slice Tryd.underlying26 cc (hf 3 _ rfl) (xs_some hxl (by decide))
  obtain ⟨b2, h4⟩ := field_bool Tryd.underlying4 c4 (hf 4 _ rfl) (xs_some hxl (by decide))
  have g5 : DataW.trod enc Tryd.prog W base spare held n 25 ((cs.drop 6).take (Tryd.prog.cellsOf 25)) = xs[5]? := hf 5 _ rfl
  obtain ⟨y5, e5⟩ := Option.isSome_iff_exists.1 (xs_some (i := 5) hxl (by decide))
  rw [e5, cfig] at g5
  obtain ⟨po, h5, w5⟩ := fig_of _ _ _ (by simp [hl]) g5
  have hin : Inhabited (Cla × Value) := ⟨(⟨[], 0, [], false, false⟩, undef)⟩
  obtain ⟨C, hC, hq⟩ := open_any (E := ClaE) ClaOk (fun q : Cla × Value => claV q.1 q.2) (fun _ => rfl) (fun q => FigsAt W q.1 q.2 ∧ q.1.word.length ≤ maxLen ∧ ∀ f ∈ q.1.nums, wfN f.n) cla_of hv
  refine ⟨(⟨p, b1, pr, C.map (·.1), b2, po⟩, v), ?_, ⟨C, rfl, hC, fun q hq' => (hq q hq').1⟩, w2, w5, fun d hd => ?_⟩
  · match cs, hl with
    | [a0, a1, a2, a3, a4, a5, a6, a7], _ =>
      obtain rfl : a0 = .int .i64 p := by simpa using h0
      obtain rfl : a1 = .bool b1 := by simpa using h1
      obtain ⟨rfl, rfl⟩ : a2 = .int .i64 pr.n ∧ a3 = .int .i64 pr.pos := by simpa [figV] using h2
      obtain rfl : a4 = v := by simpa using h3
      obtain rfl : a5 = .bool b2 := by simpa using h4
      obtain ⟨rfl, rfl⟩ : a6 = .int .i64 po.n ∧ a7 = .int .i64 po.pos := by simpa [figV] using h5
      rfl
  · obtain ⟨q, hq', rfl⟩ := List.mem_map.1 hd
    exact (hq q hq').2
/-- Lines that come in. -/
theorem open_raws {H : Type} {enc : TypeId × Value → H} {W : World} {r : Reach} {b0 base : Nat} {spare : Nat → Bool} {held : Bool} {v : Value} {d : DataW H} {p : List MemPlace}
    (hok : Value.okWide Tryd.prog W r b0 22 v) (h : DataW.Trod enc Tryd.prog W base spare held 22 v d p) :
    ∃ l, RawsAt W v l ∧ ∀ x ∈ l, wfN x.prio.n ∧ wfN x.port.n ∧ ∀ d ∈ x.clauses, d.word.length ≤ maxLen ∧ ∀ f ∈ d.nums, wfN f.n := by
  obtain ⟨fuel, hf⟩ := h
  have hv1 : v.cells.toList = [v] := by
    simp only [Value.okWide, Cell.okWide, Cell.ok, Tryd.underlying22] at hok
    cases v <;> simp_all [Value.cells]
  rw [hv1] at hf
  have hin : Inhabited (Raw × Value) := ⟨(⟨0, false, ⟨0, 0⟩, [], false, ⟨0, 0⟩⟩, undef)⟩
  obtain ⟨C, hC, hq⟩ := open_any (E := RawE) RawOk (fun q : Raw × Value => rawV q.1 q.2) (fun _ => rfl) (fun q => ClasAt W q.1 q.2 ∧ wfN q.1.prio.n ∧ wfN q.1.port.n ∧ ∀ d ∈ q.1.clauses, d.word.length ≤ maxLen ∧ ∀ f ∈ d.nums, wfN f.n) raw_of hf
  refine ⟨C.map (·.1), ⟨C, rfl, hC, fun q hq' => (hq q hq').1⟩, fun x hx => ?_⟩
  obtain ⟨q, hq', rfl⟩ := List.mem_map.1 hx
  exact (hq q hq').2
end Go.Proofs.YtgcfdcgmddjhbaaDoor
