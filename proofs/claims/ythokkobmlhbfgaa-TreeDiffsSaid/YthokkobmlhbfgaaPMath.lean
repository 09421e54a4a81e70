/- Plain mathematics of paths (no Go text). -/
import Derived.WalkKit
namespace Go.Proofs.Ythokkobmlhbfgaa.Pm
set_option linter.unusedVariables false

/-- The texts between strokes. -/
def spl : List UInt8 → List (List UInt8)
  | [] => [[]]
  | c :: r => if c = 47 then [] :: spl r else
    match spl r with
    | [] => [[c]]
    | x :: xs => (c :: x) :: xs
theorem spl_ne (l : List UInt8) : spl l ≠ [] := by
  cases l with
  | nil => simp [spl]
  | cons c r =>
    rw [spl]
    split
    · simp
    · split <;> simp
/-- A text that has begun is laid ahead of the first one. -/
def glue (one : List UInt8) : List (List UInt8) → List (List UInt8)
  | [] => [one]
  | x :: xs => (one ++ x) :: xs
theorem glue_nil {l : List (List UInt8)} (h : l ≠ []) : glue [] l = l := by
  cases l with
  | nil => exact absurd rfl h
  | cons x xs => rfl
theorem glue_step (one : List UInt8) (c : UInt8) (r : List UInt8) (h : c ≠ 47) : glue one (spl (c :: r)) = glue (one ++ [c]) (spl r) := by
  rw [spl, if_neg h]
  cases hs : spl r with
  | nil => exact absurd hs (spl_ne r)
  | cons x xs => simp [glue]
theorem glue_cut (one : List UInt8) (r : List UInt8) : glue one (spl (47 :: r)) = one :: spl r := by
  rw [spl, if_pos rfl]
  simp [glue]
theorem spl_len (l : List UInt8) : (spl l).length ≤ l.length + 1 := by
  induction l with
  | nil => simp [spl]
  | cons c r ih =>
    rw [spl]
    split
    · simp; omega
    · split
      · simp
      · rename_i x xs h
        rw [h] at ih
        simp at ih ⊢
        omega

/-- A name's letters. -/
def okC (c : UInt8) : Bool := (97 ≤ c.toNat && c.toNat ≤ 122) || (48 ≤ c.toNat && c.toNat ≤ 57) || c.toNat == 95
def isName (l : List UInt8) : Bool := decide (1 ≤ l.length) && decide (l.length ≤ 12) && l.all okC
def isPath (l : List UInt8) (deep : Int) : Bool := decide (((spl l).length : Int) ≤ deep) && (spl l).all isName
/-- What Check answers. -/
def chk (l : List UInt8) (deep : Int) : Nat := if isPath l deep then 0 else 10

/-- The place behind the last stroke; 0 if there is none. -/
def lastN : List UInt8 → Nat
  | [] => 0
  | c :: r => if lastN r = 0 then (if c = 47 then 1 else 0) else lastN r + 1
theorem lastN_le (l : List UInt8) : lastN l ≤ l.length := by
  induction l with
  | nil => exact Nat.le_refl _
  | cons c r ih =>
    rw [lastN]
    split
    · split <;> simp
    · simp; omega
theorem lastN_snoc (l : List UInt8) (c : UInt8) : lastN (l ++ [c]) = if c = 47 then l.length + 1 else lastN l := by
  induction l with
  | nil => simp [lastN]
  | cons d r ih =>
    rw [List.cons_append, lastN, ih, lastN]
    by_cases h : c = 47
    · simp [h]
    · simp [h]
def par (l : List UInt8) : List UInt8 := l.take (lastN l - 1)
def bas (l : List UInt8) : List UInt8 := l.drop (lastN l)
def joi (a b : List UInt8) : List UInt8 := if a ≠ [] ∧ b ≠ [] then a ++ 47 :: b else a ++ b
def und (p top : List UInt8) : Bool := decide (top = []) || decide (p = top) || (top ++ [47]).isPrefixOf p
def dep (p : List UInt8) : Nat := if p = [] then 0 else (spl p).length

end Go.Proofs.Ythokkobmlhbfgaa.Pm
