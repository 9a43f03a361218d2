import Derived.Test.YtbhnjhiecoapbaaJ11
namespace Go.Proofs.Ytbhnjhiecoapbaa
open Go
set_option maxRecDepth 20000

/-- Neither Arrow nor Line. -/
def Free (A : List Tok) : Prop := ∀ t ∈ A, t.kind ≠ 6 ∧ t.kind ≠ 7
def Eats (T T' : List Tok) : Prop := ∃ A, T = A ++ T' ∧ Free A
theorem Eats.refl (T : List Tok) : Eats T T := ⟨[], rfl, fun t ht => by simp at ht⟩
theorem Eats.trans {T T' T'' : List Tok} (h1 : Eats T T') (h2 : Eats T' T'') : Eats T T'' := by
  obtain ⟨A, rfl, hA⟩ := h1
  obtain ⟨B, rfl, hB⟩ := h2
  refine ⟨A ++ B, by rw [List.append_assoc], fun t ht => ?_⟩
  rcases List.mem_append.1 ht with ht | ht
  · exact hA t ht
  · exact hB t ht
theorem Eats.one {t : Tok} {T : List Tok} (h6 : t.kind ≠ 6) (h7 : t.kind ≠ 7) : Eats (t :: T) T := ⟨[t], rfl, fun u hu => by rw [List.mem_singleton.1 hu]; exact ⟨h6, h7⟩⟩
theorem eats_K {E k : Nat} {T T' : List Tok} {t : Tok} (h : takeK E k T = .ok (t, T')) (h6 : k ≠ 6) (h7 : k ≠ 7) : Eats T T' := by
  obtain ⟨rfl, hk⟩ := takeK_in h
  exact Eats.one (by omega) (by omega)
theorem eats_F {E : Nat} {T T' : List Tok} {f : Fig} (h : takeF E T = .ok (f, T')) : Eats T T' := by
  obtain ⟨⟨t, T1⟩, h1, h2⟩ := map_ok h
  obtain ⟨_, rfl⟩ := Prod.mk.inj h2
  exact eats_K h1 (by decide) (by decide)
theorem eats_D {E : Nat} : ∀ {n : Nat} {T T' : List Tok} {l : List Fig}, takeD E n T = .ok (l, T') → Eats T T'
  | 0, T, T', l, h => by
    obtain ⟨_, rfl⟩ := Prod.mk.inj (Except.ok.inj h)
    exact Eats.refl _
  | n + 1, T, T', l, h => by
    rw [takeD] at h
    obtain ⟨⟨t, T1⟩, h1, ha⟩ := bind_ok h
    obtain ⟨⟨f, T2⟩, h2, hb⟩ := bind_ok ha
    obtain ⟨⟨l2, T3⟩, h3, hc⟩ := map_ok hb
    obtain ⟨_, rfl⟩ := Prod.mk.inj hc
    exact ((eats_K h1 (by decide) (by decide)).trans (eats_F h2)).trans (eats_D h3)
theorem eats_O {E k : Nat} {T T' : List Tok} {o : Option Fig} (h : takeO E k T = .ok (o, T')) (h6 : k ≠ 6) (h7 : k ≠ 7) : Eats T T' := by
  cases T with
  | nil =>
    obtain ⟨_, rfl⟩ := Prod.mk.inj (Except.ok.inj h)
    exact Eats.refl _
  | cons t T =>
    rw [takeO] at h
    split at h
    · rename_i hk
      obtain ⟨⟨f, T1⟩, h1, h2⟩ := map_ok h
      obtain ⟨_, rfl⟩ := Prod.mk.inj h2
      exact (Eats.one (by omega) (by omega)).trans (eats_F h1)
    · obtain ⟨_, rfl⟩ := Prod.mk.inj (Except.ok.inj h)
      exact Eats.refl _
theorem eats_C {E : Nat} {had : List Cla} {t : Tok} {T T' : List Tok} {c : Cla} (h : takeC E had t T = .ok (c, T')) : Eats T T' := by
  unfold takeC at h
  split at h
  · cases h
  split at h
  · cases h
  obtain ⟨⟨f, T1⟩, h1, ha⟩ := bind_ok h
  have e1 := eats_F h1
  simp only at ha
  split at ha
  · obtain ⟨⟨l, T2⟩, h2, hb⟩ := bind_ok ha
    obtain ⟨⟨o, T3⟩, h3, hc⟩ := map_ok hb
    obtain ⟨_, rfl⟩ := Prod.mk.inj hc
    exact (e1.trans (eats_D h2)).trans (eats_O h3 (by decide) (by decide))
  · split at ha
    · obtain ⟨⟨o, T3⟩, h3, hc⟩ := map_ok ha
      obtain ⟨_, rfl⟩ := Prod.mk.inj hc
      exact e1.trans (eats_O h3 (by decide) (by decide))
    · obtain ⟨_, rfl⟩ := Prod.mk.inj (Except.ok.inj ha)
      exact e1
theorem eats_Cs {E : Nat} : ∀ {f : Nat} {had : List Cla} {T T' : List Tok} {l : List Cla}, takeCs E f had T = .ok (l, T') → Eats T T'
  | 0, had, T, T', l, h => by
    obtain ⟨_, rfl⟩ := Prod.mk.inj (Except.ok.inj h)
    exact Eats.refl _
  | f + 1, had, [], T', l, h => by
    obtain ⟨_, rfl⟩ := Prod.mk.inj (Except.ok.inj h)
    exact Eats.refl _
  | f + 1, had, t :: T, T', l, h => by
    rw [takeCs] at h
    split at h
    · rename_i hk
      obtain ⟨⟨c, T1⟩, h3, ha⟩ := bind_ok h
      exact ((Eats.one (by omega) (by omega)).trans (eats_C h3)).trans (eats_Cs ha)
    · obtain ⟨_, rfl⟩ := Prod.mk.inj (Except.ok.inj h)
      exact Eats.refl _
/-- A line has one Arrow, and no Line. -/
theorem eats_R {E : Nat} {T T' : List Tok} {x : Raw} (h : takeR E T = .ok (x, T')) : ∃ A t B, T = A ++ t :: (B ++ T') ∧ Free A ∧ t.kind = 6 ∧ Free B ∧ ∀ u, T'.head? = some u → u.kind = 7 := by
  unfold takeR at h
  obtain ⟨⟨⟨d, p, cs⟩, T1⟩, h1, ha⟩ := bind_ok h
  obtain ⟨⟨t, T2⟩, h2, hb⟩ := bind_ok ha
  obtain ⟨⟨⟨dr, po⟩, T3⟩, h3, hc⟩ := bind_ok hb
  obtain ⟨T4, h4, hd⟩ := map_ok hc
  obtain ⟨_, rfl⟩ := Prod.mk.inj hd
  have e1 : Eats T T1 := by
    cases T with
    | nil => simp [takeH] at h1
    | cons u T =>
      rw [takeH] at h1
      split at h1
      · rename_i hu
        obtain ⟨_, rfl⟩ := Prod.mk.inj (Except.ok.inj h1)
        exact Eats.one (by omega) (by omega)
      · obtain ⟨⟨f, T5⟩, h5, h7⟩ := bind_ok h1
        obtain ⟨⟨l, T6⟩, h6, h8⟩ := map_ok h7
        obtain ⟨_, rfl⟩ := Prod.mk.inj h8
        exact (eats_F h5).trans (eats_Cs h6)
  have e2 : Eats T2 T3 := by
    cases T2 with
    | nil => simp [takeA] at h3
    | cons u T2 =>
      rw [takeA] at h3
      split at h3
      · rename_i hu
        obtain ⟨_, rfl⟩ := Prod.mk.inj (Except.ok.inj h3)
        exact Eats.one (by omega) (by omega)
      · split at h3
        · rename_i hu
          obtain ⟨⟨f, T5⟩, h5, h7⟩ := map_ok h3
          obtain ⟨_, rfl⟩ := Prod.mk.inj h7
          exact (Eats.one (by omega) (by omega)).trans (eats_F h5)
        · cases h3
  have e3 : T3 = T4 ∧ ∀ u, T4.head? = some u → u.kind = 7 := by
    cases T3 with
    | nil =>
      obtain rfl : [] = T4 := Except.ok.inj h4
      exact ⟨rfl, fun u hu => by simp at hu⟩
    | cons u T3 =>
      rw [takeE] at h4
      split at h4
      · rename_i hk
        obtain rfl : u :: T3 = T4 := Except.ok.inj h4
        exact ⟨rfl, fun v hv => by
          obtain rfl : u = v := by simpa using hv
          exact hk⟩
      · cases h4
  obtain ⟨rfl, e4⟩ := e3
  obtain ⟨A, rfl, hA⟩ := e1
  obtain ⟨rfl, hk⟩ := takeK_in h2
  obtain ⟨B, rfl, hB⟩ := e2
  exact ⟨A, t, B, rfl, hA, hk, hB, e4⟩
/-- Arrows are counted, in all and in a row. -/
def arrGo : Nat → Nat → List Tok → Option Nat
  | n, _, [] => some n
  | n, row, t :: T =>
    if 1 < (if t.kind = 7 then 0 else if t.kind = 6 then row + 1 else row) then none
    else arrGo (if t.kind = 6 then n + 1 else n) (if t.kind = 7 then 0 else if t.kind = 6 then row + 1 else row) T
theorem arr_free (n row : Nat) (hr : row ≤ 1) (T : List Tok) : ∀ A : List Tok, Free A → arrGo n row (A ++ T) = arrGo n row T
  | [], _ => rfl
  | t :: A, h => by
    have ht := h t (by simp)
    rw [List.cons_append, arrGo, if_neg ht.2, if_neg ht.1, if_neg ht.1, if_neg (by omega)]
    exact arr_free n row hr T A fun u hu => h u (by simp [hu])
theorem arr_rows {E : Nat} : ∀ {f : Nat} {had : List Raw} {T : List Tok} {l : List Raw} (n row : Nat), takeL E f had T = .ok l → T.length < f → (row = 0 ∨ row = 1 ∧ ∀ u, T.head? = some u → u.kind = 7) → had.length ≤ l.length ∧ arrGo n row T = some (n + (l.length - had.length))
  | 0, had, T, l, n, row, h, hf, _ => by omega
  | f + 1, had, [], l, n, row, h, _, _ => by
    obtain rfl : had = l := Except.ok.inj h
    exact ⟨Nat.le_refl _, by rw [arrGo]; simp⟩
  | f + 1, had, t :: T, l, n, row, h, hf, hr => by
    rw [takeL] at h
    split at h
    · rename_i hk
      have ih := arr_rows n 0 h (by simpa using hf) (.inl rfl)
      refine ⟨ih.1, ?_⟩
      rw [arrGo, if_pos hk, if_neg (by omega), if_neg (by omega)]
      exact ih.2
    · rename_i hk
      have hrow : row = 0 := by
        rcases hr with hr | ⟨_, hr⟩
        · exact hr
        · exact absurd (hr t rfl) hk
      subst hrow
      split at h
      · cases h
      · obtain ⟨⟨x, T1⟩, h3, ha⟩ := bind_ok h
        obtain ⟨A, u, B, hT, hA, hu, hB, hl⟩ := eats_R h3
        have hlen : T1.length < f := by
          have := congrArg List.length hT
          simp only [List.length_cons, List.length_append] at this hf
          omega
        have ih := arr_rows (n + 1) 1 ha hlen (.inr ⟨rfl, hl⟩)
        rw [List.length_append, List.length_singleton] at ih
        refine ⟨by omega, ?_⟩
        have e : arrGo n 0 (u :: (B ++ T1)) = arrGo (n + 1) 1 (B ++ T1) := by simp [arrGo, hu]
        rw [hT, arr_free n 0 (by omega) _ A hA, e, arr_free (n + 1) 1 (by omega) _ B hB, ih.2]
        congr 1
        omega
/-- AS MANY LINES AS ARROWS, ONE IN EACH. -/
theorem parse_arrows {S : List UInt8} {l : List Raw} (h : parseT S = .ok l) : ∃ T, lexW 0 S = .ok T ∧ arrGo 0 0 T = some l.length ∧ l.length ≤ 64 := by
  have h64 := (parseT_in h).2
  unfold parseT at h
  split at h
  · cases h
  · cases hx : lexW 0 S with
    | error e => rw [hx] at h; cases h
    | ok T =>
      rw [hx] at h
      have := (arr_rows 0 0 h (by omega) (.inl rfl)).2
      exact ⟨T, rfl, by simpa using this, h64⟩

/-- Lines ahead of others. -/
theorem rows_go (E : Nat) (b : List St) : ∀ (l : List Raw) (f : Nat) (had : List Raw) (T : List Tok), T.length < f → had.length + l.length ≤ 64 → (∀ x ∈ l, okR x) → T.map st = l.flatMap tokR ++ b →
    ∃ l' A T' f', takeL E f had T = takeL E f' (had ++ l') T' ∧ l'.length = l.length ∧ T = A ++ T' ∧ T'.map st = b ∧ T'.length < f'
  | [], f, had, T, hf, _, _, h => ⟨[], [], T, f, by rw [List.append_nil], rfl, rfl, h, hf⟩
  | x :: l, 0, had, T, hf, _, _, _ => by omega
  | x :: l, 1, had, T, hf, _, _, h => by
    obtain rfl : T = [] := List.eq_nil_of_length_eq_zero (by omega)
    obtain ⟨s, r, e, _⟩ := tokR_head x
    rw [List.flatMap_cons, e] at h
    simp at h
  | x :: l, f + 2, had, T, hf, h64, hok, h => by
    rw [List.flatMap_cons, List.append_assoc] at h
    obtain ⟨x', T', e1, hx', h1⟩ := rowT_ok E x (hok x (by simp)) h
    obtain ⟨A1, t1, B1, hT1, _⟩ := eats_R e1
    obtain ⟨s, r, e, hs⟩ := tokR_head x
    rw [e, List.cons_append] at h
    obtain ⟨t, T0, rfl, ht, _⟩ := map_cons h
    have hk : t.kind ≠ 7 := by rw [show t.kind = s.1 from congrArg Prod.fst ht]; exact hs
    obtain ⟨u, T2, rfl, hu, h2⟩ := map_cons h1
    have hku : u.kind = 7 := congrArg Prod.fst hu
    have hlen : T2.length < f := by
      have := congrArg List.length hT1
      simp only [List.length_cons, List.length_append] at this hf
      omega
    obtain ⟨l', A, T3, f', e2, hl', hA, hb, hf'⟩ := rows_go E b l f (had ++ [x']) T2 hlen (by simp at h64 ⊢; omega) (fun y hy => hok y (by simp [hy])) h2
    refine ⟨x' :: l', A1 ++ t1 :: (B1 ++ u :: A), T3, f', ?_, by simp [hl'], ?_, hb, hf'⟩
    · rw [takeL, if_neg hk, if_neg (by simp at h64; omega), e1]
      simp only [Except.bind]
      rw [takeL, if_pos hku, e2, List.append_assoc]; rfl
    · rw [hT1, hA]; simp
/-- A line of no clauses: '1 -> drop'. -/
def row1 : Raw := ⟨0, false, ⟨1, 0⟩, [], true, ⟨0, 0⟩⟩
theorem row1_ok : okR row1 := ⟨⟨by decide, by decide⟩, okF0, fun c hc => by simp [row1] at hc, List.Pairwise.nil, (fun h => by cases h), fun _ => rfl⟩
theorem row1_text : rowP row1 = [49, 32, 45, 62, 32, 100, 114, 111, 112, 10] := by decide
theorem print_rep (n : Nat) : (printT (List.replicate n row1)).length = 10 * n := by
  unfold printT
  induction n with
  | zero => rfl
  | succ n ih => rw [List.replicate_succ, List.flatMap_cons, List.length_append, ih, row1_text]; simp; omega
theorem print_add (m n : Nat) : printT (List.replicate (m + n) row1) = printT (List.replicate m row1) ++ printT (List.replicate n row1) := by
  unfold printT; rw [← List.replicate_append_replicate, List.flatMap_append]
/-- SO MANY LINES AS MAY BE, AND ONE MORE. -/
theorem parse_many (n : Nat) (hn : n ≤ 127) : (n ≤ 64 → ∃ l, parseT (printT (List.replicate n row1)) = .ok l ∧ l.length = n) ∧ (64 < n → parseT (printT (List.replicate n row1)) = .error (4, 640)) := by
  have hok : ∀ m, ∀ x ∈ List.replicate m row1, okR x := fun m x hx => by rw [List.eq_of_mem_replicate hx]; exact row1_ok
  have hlen : (printT (List.replicate n row1)).length ≤ 4096 := by rw [print_rep]; omega
  constructor
  · intro h
    obtain ⟨l', e, hl⟩ := parse_print (List.replicate n row1) (hok n) (by simpa using h) hlen
    refine ⟨l', e, ?_⟩
    have := congrArg List.length hl
    simpa using this
  · intro h
    obtain ⟨k, rfl⟩ : ∃ k, n = 64 + (k + 1) := ⟨n - 65, by omega⟩
    obtain ⟨T1, h1, e1⟩ := lx_print (List.replicate 64 row1) (hok 64) 0 (printT (List.replicate (k + 1) row1)) trivial
    obtain ⟨T2, h2, e2⟩ := lx_print (List.replicate (k + 1) row1) (hok (k + 1)) 640 [] trivial
    rw [List.append_nil, lexW_nil] at e2
    rw [print_rep, show 0 + 10 * 64 = 640 from rfl, e2, ← print_add] at e1
    have hlex : lexW 0 (printT (List.replicate (64 + (k + 1)) row1)) = .ok (T1 ++ T2) := by rw [e1]; simp [glue]
    have hT2 : ∃ t T3, T2 = t :: T3 ∧ t.pos = 640 ∧ t.kind = 2 := by
      have hx : lexeme 49 ([32, 45, 62, 32, 100, 114, 111, 112, 10] ++ printT (List.replicate k row1)) = (Lx.tok 2 [] 1, 0) := by
        unfold lexeme
        rw [if_neg (by decide), if_neg (by decide), if_pos (by decide), List.cons_append, List.takeWhile_cons, if_neg (by decide)]
        rfl
      have hp : printT (List.replicate (k + 1) row1) = 49 :: ([32, 45, 62, 32, 100, 114, 111, 112, 10] ++ printT (List.replicate k row1)) := by
        unfold printT
        rw [List.replicate_succ, List.flatMap_cons, row1_text]; rfl
      rw [hp, lexW_tok hx] at e2
      cases hy : lexW (640 + 1 + 0) (List.drop 0 ([32, 45, 62, 32, 100, 114, 111, 112, 10] ++ printT (List.replicate k row1))) with
      | error x => rw [hy] at e2; simp [glue] at e2
      | ok l' =>
        rw [hy] at e2
        refine ⟨⟨2, 640, [], 1⟩, l', ?_, rfl, rfl⟩
        simpa [glue] using e2.symm
    obtain ⟨t, T3, rfl, hpos, hkind⟩ := hT2
    unfold parseT
    rw [if_neg (by omega), hlex]
    obtain ⟨l', A, T', f', e3, hl', hA, hb, hf'⟩ := rows_go (printT (List.replicate (64 + (k + 1)) row1)).length ((t :: T3).map st) (List.replicate 64 row1) ((T1 ++ t :: T3).length + 1) [] (T1 ++ t :: T3) (by omega) (by simp) (hok 64) (by rw [List.map_append, h1])
    have hT' : T' = t :: T3 := by
      have hl : T'.length = (t :: T3).length := by simpa using congrArg List.length hb
      exact ((List.append_inj' hA.symm hl).2)
    subst hT'
    show takeL _ _ _ _ = _
    rw [e3]
    cases f' with
    | zero => omega
    | succ f' => rw [takeL, if_neg (by omega), if_pos (by simpa using hl'), hpos]
end Go.Proofs.Ytbhnjhiecoapbaa
namespace Go.Proofs.Ytbhnjhiecoapbaa
open Go
set_option maxRecDepth 20000

/-- What a line means. -/
structure Ent where
  dflt : Bool
  prio : Int
  action : Int
  src : Int
  srcBits : Int
  dst : Int
  dstBits : Int
  slow : Int
  shigh : Int
  dlow : Int
  dhigh : Int
  proto : Int

abbrev ResI (α : Type) := Except (Nat × Int) α
def mustN (c : Cla) : Nat := if isAddrW c.word then (if c.slash then 5 else 4) else if isPortW c.word then (if c.dash then 2 else 1) else if c.word == wProto then 1 else 0
def mostN (w : List UInt8) (k : Nat) : Int := if isPortW w then 65535 else if !(w == wProto) && k == 4 then 32 else 255
/-- The first number of a clause that may not be. -/
def faultN (c : Cla) (first : Int) : Nat → List Fig → ResI Unit
  | _, [] => .ok ()
  | k, x :: l => if decide (x.n < 0) || decide (mostN c.word k < x.n) || (c.dash && isPortW c.word && k == 1 && decide (x.n < first)) then .error (10, x.pos) else faultN c first (k + 1) l
def nth (c : Cla) (k : Nat) : Int := (c.nums.getD k ⟨0, 0⟩).n
def faultC (had : List Cla) (c : Cla) : ResI Unit :=
  if mustN c == 0 || c.nums.length != mustN c then .error (8, c.pos) else if had.any (fun d => d.word == c.word) then .error (9, c.pos) else faultN c (nth c 0) 0 c.nums
def faultCs : List Cla → List Cla → ResI Unit
  | _, [] => .ok ()
  | had, c :: l => (faultC had c).bind fun _ => faultCs (had ++ [c]) l
/-- What is wrong with a line first, and where. -/
def faultR (r : Raw) : ResI Unit := if decide (r.prio.n < 0) || decide (65535 < r.prio.n) then .error (10, r.prio.pos) else faultCs [] r.clauses

def findC (w : List UInt8) (l : List Cla) : Option Cla := l.find? fun c => c.word == w
def preOf (l : List Cla) (w : List UInt8) : Int × Int := match findC w l with
  | none => (0, 0)
  | some c => (((nth c 0 * 256 + nth c 1) * 256 + nth c 2) * 256 + nth c 3, if c.slash then nth c 4 else 32)
def porOf (l : List Cla) (w : List UInt8) : Int × Int := match findC w l with
  | none => (0, 65535)
  | some c => (nth c 0, if c.dash then nth c 1 else nth c 0)
def proOf (l : List Cla) : Int := match findC wProto l with
  | none => -1
  | some c => nth c 0
def actOf (r : Raw) : Int := if r.drop then 0 else r.port.n
/-- What a line without faults means. -/
def meaning (r : Raw) : Ent := if r.dflt then ⟨true, 0, actOf r, 0, 0, 0, 0, 0, 0, 0, 0, 0⟩ else
  ⟨false, r.prio.n, actOf r, (preOf r.clauses wSrc).1, (preOf r.clauses wSrc).2, (preOf r.clauses wDst).1, (preOf r.clauses wDst).2, (porOf r.clauses wSport).1, (porOf r.clauses wSport).2, (porOf r.clauses wDport).1, (porOf r.clauses wDport).2, proOf r.clauses⟩
/-- Lines, one behind the other. -/
def checkGo (size : Int) : Nat → Bool → List Raw → ResI (List Ent)
  | _, had, [] => if had then .ok [] else .error (11, size)
  | i, had, r :: l => if 64 ≤ i then .error (4, r.pos) else if r.dflt && had then .error (9, r.pos) else
    (if r.dflt then .ok () else faultR r).bind fun _ => if !r.drop && (decide (r.port.n < 1) || decide (99 < r.port.n)) then .error (10, r.port.pos) else (checkGo size (i + 1) (had || r.dflt) l).map fun m => meaning r :: m
/-- What a text means. -/
def readT (S : List UInt8) : ResI (List Ent) := match parseT S with
  | .error x => .error (x.1, (x.2 : Int))
  | .ok l => checkGo (S.length : Int) 0 false l

def fig0 (n : Int) : Fig := ⟨n, 0⟩
def addrC7 (w : List UInt8) (v n : Int) : Cla := ⟨w, 0, [fig0 (v / 16777216), fig0 (v / 65536 % 256), fig0 (v / 256 % 256), fig0 (v % 256), fig0 n], true, false⟩
def portC7 (w : List UInt8) (a b : Int) : Cla := if a = b then ⟨w, 0, [fig0 a], false, false⟩ else ⟨w, 0, [fig0 a, fig0 b], false, true⟩
def partA (w : List UInt8) (v n : Int) : List Cla := if v = 0 ∧ n = 0 then [] else [addrC7 w v n]
def partP (w : List UInt8) (a b : Int) : List Cla := if a = 0 ∧ b = 65535 then [] else [portC7 w a b]
def partO (p : Int) : List Cla := if p = -1 then [] else [⟨wProto, 0, [fig0 p], false, false⟩]
/-- An entry as it would be written. -/
def lineOf (x : Ent) : Raw := ⟨0, x.dflt, fig0 x.prio, if x.dflt then [] else partA wSrc x.src x.srcBits ++ (partA wDst x.dst x.dstBits ++ (partP wSport x.slow x.shigh ++ (partP wDport x.dlow x.dhigh ++ partO x.proto))), decide (x.action = 0), fig0 x.action⟩
def printE (l : List Ent) : List UInt8 := printT (l.map lineOf)

/-- An entry as it may be. -/
structure okE (x : Ent) : Prop where
  act : 0 ≤ x.action ∧ x.action ≤ 99
  zero : x.dflt = true → x = ⟨true, 0, x.action, 0, 0, 0, 0, 0, 0, 0, 0, 0⟩
  prio : 0 ≤ x.prio ∧ x.prio ≤ 65535
  src : 0 ≤ x.src ∧ x.src < 4294967296 ∧ 0 ≤ x.srcBits ∧ x.srcBits ≤ 32
  dst : 0 ≤ x.dst ∧ x.dst < 4294967296 ∧ 0 ≤ x.dstBits ∧ x.dstBits ≤ 32
  sp : 0 ≤ x.slow ∧ x.slow ≤ x.shigh ∧ x.shigh ≤ 65535
  dp : 0 ≤ x.dlow ∧ x.dlow ≤ x.dhigh ∧ x.dhigh ≤ 65535
  proto : x.dflt = false → -1 ≤ x.proto ∧ x.proto ≤ 255

theorem okC_addr (w : List UInt8) (hw : isAddrW w = true) (v n : Int) (hv : 0 ≤ v ∧ v < 4294967296 ∧ 0 ≤ n ∧ n ≤ 32) : okC (addrC7 w v n) := by
  refine ⟨fun x hx => ?_, .inl ⟨hw, rfl, rfl⟩⟩
  simp only [addrC7, List.mem_cons, List.not_mem_nil, or_false] at hx
  rcases hx with rfl | rfl | rfl | rfl | rfl <;> exact ⟨by simp only [fig0]; omega, by simp only [fig0]; omega⟩
theorem portW_not {w : List UInt8} (hw : isPortW w = true) : isAddrW w = false := by
  unfold isPortW at hw
  simp only [Bool.or_eq_true, beq_iff_eq] at hw
  rcases hw with rfl | rfl <;> decide
theorem okC_port (w : List UInt8) (hw : isPortW w = true) (a b : Int) (h : 0 ≤ a ∧ a ≤ b ∧ b ≤ 65535) : okC (portC7 w a b) := by
  unfold portC7
  split
  · refine ⟨fun x hx => ?_, .inr (.inl ⟨hw, portW_not hw, rfl, rfl⟩)⟩
    rw [List.mem_singleton.1 hx]
    exact ⟨by simp only [fig0]; omega, by simp only [fig0]; omega⟩
  · refine ⟨fun x hx => ?_, .inr (.inl ⟨hw, portW_not hw, rfl, rfl⟩)⟩
    simp only [List.mem_cons, List.not_mem_nil, or_false] at hx
    rcases hx with rfl | rfl <;> exact ⟨by simp only [fig0]; omega, by simp only [fig0]; omega⟩
theorem portC7_word (w : List UInt8) (a b : Int) : (portC7 w a b).word = w := by unfold portC7; split <;> rfl
theorem partA_word {w : List UInt8} {v n : Int} {c : Cla} (h : c ∈ partA w v n) : c.word = w := by
  unfold partA at h
  split at h
  · simp at h
  · rw [List.mem_singleton.1 h]; rfl
theorem partP_word {w : List UInt8} {v n : Int} {c : Cla} (h : c ∈ partP w v n) : c.word = w := by
  unfold partP at h
  split at h
  · simp at h
  · rw [List.mem_singleton.1 h]; exact portC7_word _ _ _
theorem partO_word {p : Int} {c : Cla} (h : c ∈ partO p) : c.word = wProto := by
  unfold partO at h
  split at h
  · simp at h
  · rw [List.mem_singleton.1 h]
def lineC (x : Ent) : List Cla := partA wSrc x.src x.srcBits ++ (partA wDst x.dst x.dstBits ++ (partP wSport x.slow x.shigh ++ (partP wDport x.dlow x.dhigh ++ partO x.proto)))
theorem pw_short (l : List Cla) (h : l.length ≤ 1) : l.Pairwise fun a b => a.word ≠ b.word := by
  rcases l with _ | ⟨a, _ | ⟨b, l⟩⟩
  · exact List.Pairwise.nil
  · exact List.pairwise_singleton _ _
  · simp at h
theorem partA_len (w : List UInt8) (v n : Int) : (partA w v n).length ≤ 1 := by unfold partA; split <;> simp
theorem partP_len (w : List UInt8) (v n : Int) : (partP w v n).length ≤ 1 := by unfold partP; split <;> simp
theorem partO_len (p : Int) : (partO p).length ≤ 1 := by unfold partO; split <;> simp
theorem okR_line (x : Ent) (h : okE x) : okR (lineOf x) := by
  have hcl : x.dflt = false → (∀ c ∈ lineC x, okC c) ∧ (lineC x).Pairwise fun a b => a.word ≠ b.word := by
    intro hd
    refine ⟨fun c hc => ?_, ?_⟩
    · unfold lineC at hc
      simp only [List.mem_append] at hc
      rcases hc with hc | hc | hc | hc | hc
      · unfold partA at hc
        split at hc
        · simp at hc
        · rw [List.mem_singleton.1 hc]; exact okC_addr _ (by decide) _ _ h.src
      · unfold partA at hc
        split at hc
        · simp at hc
        · rw [List.mem_singleton.1 hc]; exact okC_addr _ (by decide) _ _ h.dst
      · unfold partP at hc
        split at hc
        · simp at hc
        · rw [List.mem_singleton.1 hc]; exact okC_port _ (by decide) _ _ h.sp
      · unfold partP at hc
        split at hc
        · simp at hc
        · rw [List.mem_singleton.1 hc]; exact okC_port _ (by decide) _ _ h.dp
      · unfold partO at hc
        split at hc
        · simp at hc
        · rename_i hp
          rw [List.mem_singleton.1 hc]
          have := h.proto hd
          refine ⟨fun y hy => ?_, .inr (.inr ⟨rfl, rfl, rfl, rfl⟩)⟩
          rw [List.mem_singleton.1 hy]
          exact ⟨by simp only [fig0]; omega, by simp only [fig0]; omega⟩
    · unfold lineC
      rw [List.pairwise_append]
      refine ⟨pw_short _ (partA_len _ _ _), ?_, fun a ha b hb => ?_⟩
      · rw [List.pairwise_append]
        refine ⟨pw_short _ (partA_len _ _ _), ?_, fun a ha b hb => ?_⟩
        · rw [List.pairwise_append]
          refine ⟨pw_short _ (partP_len _ _ _), ?_, fun a ha b hb => ?_⟩
          · rw [List.pairwise_append]
            refine ⟨pw_short _ (partP_len _ _ _), pw_short _ (partO_len _), fun a ha b hb => ?_⟩
            rw [partP_word ha, partO_word hb]; decide
          · rw [partP_word ha]
            rcases List.mem_append.1 hb with hb | hb
            · rw [partP_word hb]; decide
            · rw [partO_word hb]; decide
        · rw [partA_word ha]
          simp only [List.mem_append] at hb
          rcases hb with hb | hb | hb
          · rw [partP_word hb]; decide
          · rw [partP_word hb]; decide
          · rw [partO_word hb]; decide
      · rw [partA_word ha]
        simp only [List.mem_append] at hb
        rcases hb with hb | hb | hb | hb
        · rw [partA_word hb]; decide
        · rw [partP_word hb]; decide
        · rw [partP_word hb]; decide
        · rw [partO_word hb]; decide
  refine ⟨?_, ?_, ?_, ?_, ?_, ?_⟩
  · exact ⟨h.prio.1, by have := h.prio.2; show x.prio ≤ _; omega⟩
  · exact ⟨h.act.1, by have := h.act.2; show x.action ≤ _; omega⟩
  · unfold lineOf
    cases hd : x.dflt with
    | true => intro c hc; simp at hc
    | false => exact (hcl hd).1
  · unfold lineOf
    cases hd : x.dflt with
    | true => exact List.Pairwise.nil
    | false => exact (hcl hd).2
  · intro hd
    have hd' : x.dflt = true := hd
    have hz := h.zero hd'
    refine ⟨by unfold lineOf; rw [hd']; rfl, ?_⟩
    show x.prio = 0
    rw [hz]
  · intro hd
    have : x.action = 0 := by simpa [lineOf] using hd
    exact this
end Go.Proofs.Ytbhnjhiecoapbaa
