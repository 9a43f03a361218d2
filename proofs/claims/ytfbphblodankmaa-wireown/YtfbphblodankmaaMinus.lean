import Derived.Test.YtfbphblodankmaaBuild
import Derived.WalkMore
namespace Go.Proofs.Ytfbphblodankmaa
open Go Go.RowKit
set_option maxRecDepth 20000

/-- What the loop of Minus lays, from a bit on. -/
def mGo (bV bM : List Int) : Nat → Nat → List Int → List Int → List (List Int × List Int)
  | 0, _, _, _ => []
  | f + 1, i, V, M => if (V == bV && M == bM) = true then [] else if bt M i = true ∨ bt bM i = false then mGo bV bM f (i + 1) V M else (fixV V M i (!(bt bV i)), fixM M i) :: mGo bV bM f (i + 1) (fixV V M i (bt bV i)) (fixM M i)
/-- What Minus answers. -/
def minusC (V M V' M' : List Int) : List (List Int × List Int) :=
  if meets V M V' M' = true then mGo (meetV V M V' M') (meetM M M') 104 0 (can V M) M else [(can V M, M)]

theorem minusC_no (V M V' M' : List Int) (h : meets V M V' M' = false) : minusC V M V' M' = [(can V M, M)] := by unfold minusC; rw [h]; rfl
theorem minusC_yes (V M V' M' : List Int) (h : meets V M V' M' = true) : minusC V M V' M' = mGo (meetV V M V' M') (meetM M M') 104 0 (can V M) M := by unfold minusC; rw [if_pos h]

/-- A goal at which the walk stands still. -/
def Stopped (p : Prop) : Prop := p
theorem of_stopped {p : Prop} (h : Stopped p) : p := h

theorem mGo_stop (bV bM : List Int) (f i : Nat) (V M : List Int) (h : (V == bV && M == bM) = true) : mGo bV bM f i V M = [] := by
  cases f
  · rfl
  · unfold mGo; rw [if_pos h]
theorem mGo_pass (bV bM : List Int) (f i : Nat) (V M : List Int) (h : (V == bV && M == bM) = false) (h2 : bt M i = true ∨ bt bM i = false) : mGo bV bM (f + 1) i V M = mGo bV bM f (i + 1) V M := by
  rw [mGo, if_neg (by rw [h]; decide), if_pos h2]
theorem mGo_cut (bV bM : List Int) (f i : Nat) (V M : List Int) (h : (V == bV && M == bM) = false) (h2 : bt M i = false) (h3 : bt bM i = true) : mGo bV bM (f + 1) i V M = (fixV V M i (!(bt bV i)), fixM M i) :: mGo bV bM f (i + 1) (fixV V M i (bt bV i)) (fixM M i) := by
  rw [mGo, if_neg (by rw [h]; decide), if_neg (by rw [h2, h3]; simp)]

theorem fixV_byt (V M : List Int) (i : Nat) (b : Bool) : Byt (fixV V M i b) := setb_byt _ _ _
theorem fixM_byt (M : List Int) (i : Nat) : Byt (fixM M i) := setb_byt _ _ _

end Go.Proofs.Ytfbphblodankmaa
