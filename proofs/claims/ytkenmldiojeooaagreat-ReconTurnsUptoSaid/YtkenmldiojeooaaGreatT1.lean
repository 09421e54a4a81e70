/- Texts of this seat, one behind the other. -/
import Derived.Test.YtkenmldiojeooaaGreatRows
import Derived.WalkKit
import Derived.WalkLawsBesides
import Derived.WalkSpells
import Derived.LoopTactic
import Derived.Lib.Hide
import Derived.Deep.AppendLies
import Derived.Lib.Strings
import Derived.Lib.Bytealg
import Derived.Lib.IndexLaws
import Derived.Laws.RangeAny
import Derived.Shelf.RegionOpenPlain
import Derived.OwnWalk
import Derived.Deep.QuietTactic
import Derived.BigQuiet
import Derived.Maps.AppendAt
import Derived.Laws.StructEq
import Derived.WalkSmall
import Derived.ChangeKeysEq
import Derived.Laws.AppendOwnNone
import Derived.SliceStrings
import Derived.SizedLaws
import Derived.Lib.SliceRun
import Derived.Laws.NewBlocks
import Derived.Test.YtkenmldiojeooaaGreatProg
import Derived.Deep.RegionHeld3
import Derived.Laws.AppendOwn
namespace Go.Proofs.YtkenmldiojeooaaGreat.Tx
open Go.RowKit
set_option linter.unusedVariables false
theorem info9 : (Tryz.prog.info? 9).map (fun i => (i.zero, i.size, i.bytes)) = some (some (.string ⟨#[]⟩), 1, 16) := by kernel_rfl
theorem below_call {w w1 w2 : World} (h : Below w.heap.size w w1) (h2 : Below w1.heap.size w1 w2) : Below w.heap.size w w2 := h.trans (h2.mono h.size)
theorem below_step {w wr w1 : World} {e : TypeId} {size n : Nat} {v : Value} {xs : List Value} {o : Obj} (hb : Below w.heap.size w wr) (hown : wr.ownsRow w.heap.size e size v n xs) (hg : (wr.alloc o).grownBy w1 v.ownBlock) : Below w.heap.size w w1 :=
  (hb.alloc hb.size o).grown hg (by have := hb.size; simp; omega) (fun k hk => (hown.lt k hk).1)
theorem len_l (s : ByteArray) : s.data.toList.length = s.size := by rw [Array.length_toList]; rfl
theorem mk_len (l : List UInt8) : (⟨l.toArray⟩ : ByteArray).size = l.length := by rw [ByteArray.size, List.size_toArray]
def tb (l : List UInt8) : ByteArray := ⟨l.toArray⟩
theorem tb_list (l : List UInt8) : (tb l).data.toList = l := rfl
theorem tb_of (s : ByteArray) : tb s.data.toList = s := by
  apply ByteArray.ext
  rfl
theorem tb_size (l : List UInt8) : (tb l).size = l.length := mk_len l
theorem bytes_ne {a b : ByteArray} (h : a ≠ b) : (a.toList == b.toList) = false := by
  rw [ByteArray.toList_eq, ByteArray.toList_eq]
  apply Bool.eq_false_iff.2
  intro hc
  exact h (ByteArray.ext (Array.toList_inj.1 (eq_of_beq hc)))
def sv (s : ByteArray) : Value := .string s
theorem sv_one (l : List ByteArray) : ∀ u ∈ l.map sv, u.oneCell' = true := by
  intro u hu
  obtain ⟨s, _, rfl⟩ := List.mem_map.1 hu
  rfl
def Texts (w : World) (B : Nat) (v : Value) (l : List ByteArray) : Prop := w.ownsRow B 9 1 v l.length (l.map sv)
theorem Texts.below {w w1 : World} {B : Nat} {v : Value} {l : List ByteArray} (h : Texts w B v l) (hb : Below w.heap.size w w1) : Texts w1 B v l := by
  refine ⟨h.1, ?_⟩
  rcases h.2 with h0 | ⟨g', cap', cur, hv, hg, hh, r⟩
  · exact .inl h0
  · exact .inr ⟨g', cap', cur, hv, hg, (hb.block g' (Array.getElem?_eq_some_iff.1 hh).1).trans hh, r⟩
def Strs (w : World) (a : Option Addr) (n : Nat) (l : List ByteArray) : Prop := l.length = n ∧ (n = 0 ∨ ∃ b off, a = some ⟨b, off, none⟩ ∧ b < w.heap.size ∧ ∀ k x, l[k]? = some x → w.cell? ⟨b, off + k, none⟩ = some (.string x))
theorem Strs.below {w w1 : World} {a : Option Addr} {n : Nat} {l : List ByteArray} (h : Strs w a n l) (hb : Below w.heap.size w w1) : Strs w1 a n l := by
  refine ⟨h.1, ?_⟩
  rcases h.2 with h0 | ⟨b, off, ha, hlt, hc⟩
  · exact .inl h0
  · exact .inr ⟨b, off, ha, Nat.lt_of_lt_of_le hlt hb.size, fun k x hx => (hb.cell (p := ⟨b, off + k, none⟩) hlt).trans (hc k x hx)⟩
theorem Texts.form {w : World} {B : Nat} {v : Value} {l : List ByteArray} (h : Texts w B v l) : ∃ a c, v = .slice a l.length c ∧ Strs w a l.length l ∧ l.length ≤ c ∧ c ≤ maxLen := by
  have hh := h
  rcases h.2 with ⟨rfl, h0⟩ | ⟨g, cap, cur, rfl, hg, hh2, hn, hc, _⟩
  · exact ⟨none, 0, by rw [h0], ⟨rfl, .inl h0⟩, by omega, Nat.zero_le _⟩
  · refine ⟨some ⟨g, 0, none⟩, cap, rfl, ⟨rfl, .inr ⟨g, 0, rfl, (Array.getElem?_eq_some_iff.1 hh2).1, fun k x hx => ?_⟩⟩, hn, hc⟩
    have := hh.cells (g := g) rfl k (sv x) (by rw [List.getElem?_map, hx]; rfl)
    rw [← WideShapes.add_plain]
    exact this
end Go.Proofs.YtkenmldiojeooaaGreat.Tx

namespace Go.Proofs.YtkenmldiojeooaaGreat.Um
set_option linter.unusedVariables false
inductive Makes {α : Type} : List α → List α → List Nat → Prop
  | nil : Makes [] [] []
  | keep (x : α) {a b : List α} {s : List Nat} (h : Makes a b s) : Makes (x :: a) (x :: b) (0 :: s)
  | drop (x : α) {a b : List α} {s : List Nat} (h : Makes a b s) : Makes (x :: a) b (1 :: s)
  | add (y : α) {a b : List α} {s : List Nat} (h : Makes a b s) : Makes a (y :: b) (2 :: s)
theorem Makes.lens {α : Type} {a b : List α} {s : List Nat} (h : Makes a b s) : s.count 0 + s.count 1 = a.length ∧ s.count 0 + s.count 2 = b.length ∧ s.length = s.count 0 + s.count 1 + s.count 2 := by
  induction h with
  | nil => simp
  | keep x h ih => simp; omega
  | drop x h ih => simp; omega
  | add y h ih => simp; omega
section
variable {α : Type} [DecidableEq α]
def lcs : List α → List α → Nat
  | [], _ => 0
  | _ :: _, [] => 0
  | x :: a, y :: b => if x = y then max (max (lcs (x :: a) b) (lcs a (y :: b))) (lcs a b + 1) else max (lcs (x :: a) b) (lcs a (y :: b))
termination_by a b => a.length + b.length
theorem lcs_nil (b : List α) : lcs [] b = 0 := by rw [lcs]
theorem lcs_nil2 (a : List α) : lcs a [] = 0 := by cases a <;> rw [lcs]
theorem lcs_cons (x y : α) (a b : List α) : lcs (x :: a) (y :: b) = if x = y then max (max (lcs (x :: a) b) (lcs a (y :: b))) (lcs a b + 1) else max (lcs (x :: a) b) (lcs a (y :: b)) := by rw [lcs]
theorem lcs_most (s : List α) : ∀ (n : Nat) (a b : List α), a.length + b.length ≤ n → s.Sublist a → s.Sublist b → s.length ≤ lcs a b := by
  intro n
  induction n generalizing s with
  | zero =>
    intro a b h h1 h2
    obtain rfl : a = [] := List.length_eq_zero_iff.1 (by omega)
    rw [List.sublist_nil.1 h1]
    exact Nat.zero_le _
  | succ n ih =>
    intro a b h h1 h2
    cases a with
    | nil => rw [List.sublist_nil.1 h1]; exact Nat.zero_le _
    | cons x a =>
      cases b with
      | nil => rw [List.sublist_nil.1 h2]; exact Nat.zero_le _
      | cons y b =>
        simp only [List.length_cons] at h
        rw [lcs_cons]
        have k1 : s.Sublist (x :: a) → s.Sublist b → s.length ≤ lcs (x :: a) b := fun p q => ih s _ _ (by simp only [List.length_cons]; omega) p q
        have k2 : s.Sublist a → s.Sublist (y :: b) → s.length ≤ lcs a (y :: b) := fun p q => ih s _ _ (by simp only [List.length_cons]; omega) p q
        cases h1 with
        | cons _ h1 =>
          have := k2 h1 h2
          split <;> omega
        | cons_cons _ h1 =>
          rename_i s'
          cases h2 with
          | cons _ h2 =>
            have := k1 (h1.cons_cons _) h2
            split <;> omega
          | cons_cons _ h2 =>
            have := ih s' a b (by omega) h1 h2
            rw [if_pos rfl, List.length_cons]
            omega
theorem lcs_there : ∀ (n : Nat) (a b : List α), a.length + b.length ≤ n → ∃ s : List α, s.Sublist a ∧ s.Sublist b ∧ s.length = lcs a b := by
  intro n
  induction n with
  | zero =>
    intro a b h
    obtain rfl : a = [] := List.length_eq_zero_iff.1 (by omega)
    exact ⟨[], List.nil_sublist _, List.nil_sublist _, by rw [lcs_nil]; rfl⟩
  | succ n ih =>
    intro a b h
    cases a with
    | nil => exact ⟨[], List.nil_sublist _, List.nil_sublist _, by rw [lcs_nil]; rfl⟩
    | cons x a =>
      cases b with
      | nil => exact ⟨[], List.nil_sublist _, List.nil_sublist _, by rw [lcs_nil2]; rfl⟩
      | cons y b =>
        simp only [List.length_cons] at h
        obtain ⟨s1, a1, b1, e1⟩ := ih (x :: a) b (by simp only [List.length_cons]; omega)
        obtain ⟨s2, a2, b2, e2⟩ := ih a (y :: b) (by simp only [List.length_cons]; omega)
        obtain ⟨s3, a3, b3, e3⟩ := ih a b (by omega)
        have big : ∃ s : List α, s.Sublist (x :: a) ∧ s.Sublist (y :: b) ∧ s.length = max (lcs (x :: a) b) (lcs a (y :: b)) := by
          by_cases hm : lcs (x :: a) b ≤ lcs a (y :: b)
          · exact ⟨s2, a2.cons _, b2, by omega⟩
          · exact ⟨s1, a1, b1.cons _, by omega⟩
        rw [lcs_cons]
        by_cases hxy : x = y
        · subst hxy
          rw [if_pos rfl]
          by_cases hm : max (lcs (x :: a) b) (lcs a (x :: b)) ≤ lcs a b + 1
          · exact ⟨x :: s3, a3.cons_cons _, b3.cons_cons _, by rw [List.length_cons]; omega⟩
          · obtain ⟨s, p, q, e⟩ := big
            exact ⟨s, p, q, by omega⟩
        · rw [if_neg hxy]
          exact big
theorem most {s a b : List α} (h1 : s.Sublist a) (h2 : s.Sublist b) : s.length ≤ lcs a b := lcs_most s _ a b (Nat.le_refl _) h1 h2
theorem there (a b : List α) : ∃ s : List α, s.Sublist a ∧ s.Sublist b ∧ s.length = lcs a b := lcs_there _ a b (Nat.le_refl _)
theorem lcs_le_left (a b : List α) : lcs a b ≤ a.length := by
  obtain ⟨s, h1, h2, h3⟩ := there a b
  rw [← h3]; exact h1.length_le
theorem lcs_head (x : α) (a b : List α) : lcs (x :: a) (x :: b) = lcs a b + 1 := by
  have h1 : lcs a b + 1 ≤ lcs (x :: a) (x :: b) := by
    obtain ⟨s, h1, h2, h3⟩ := there a b
    have := most (h1.cons_cons x) (h2.cons_cons x)
    rw [List.length_cons] at this
    omega
  have h2 : lcs (x :: a) (x :: b) ≤ lcs a b + 1 := by
    obtain ⟨s, h1, h2, h3⟩ := there (x :: a) (x :: b)
    have k1 : s.tail.Sublist a := by
      cases h1 with
      | cons _ h => exact (List.tail_sublist s).trans h
      | cons_cons _ h => exact h
    have k2 : s.tail.Sublist b := by
      cases h2 with
      | cons _ h => exact (List.tail_sublist s).trans h
      | cons_cons _ h => exact h
    have := most k1 k2
    rw [List.length_tail] at this
    omega
  omega
theorem lcs_other (x y : α) (a b : List α) (h : x ≠ y) : lcs (x :: a) (y :: b) = max (lcs (x :: a) b) (lcs a (y :: b)) := by rw [lcs_cons, if_neg h]
def steps : List α → List α → List Nat
  | [], [] => []
  | _ :: a, [] => 1 :: steps a []
  | [], _ :: b => 2 :: steps [] b
  | x :: a, y :: b => if x = y then 0 :: steps a b else if lcs a (y :: b) < lcs (x :: a) b then 2 :: steps (x :: a) b else 1 :: steps a (y :: b)
termination_by a b => a.length + b.length
theorem steps_nil : steps ([] : List α) [] = [] := by rw [steps]
theorem steps_drop (x : α) (a : List α) : steps (x :: a) [] = 1 :: steps a [] := by rw [steps]
theorem steps_add (y : α) (b : List α) : steps [] (y :: b) = 2 :: steps [] b := by rw [steps]
theorem steps_cons (x y : α) (a b : List α) : steps (x :: a) (y :: b) = if x = y then 0 :: steps a b else if lcs a (y :: b) < lcs (x :: a) b then 2 :: steps (x :: a) b else 1 :: steps a (y :: b) := by rw [steps]
theorem steps_make : ∀ (n : Nat) (a b : List α), a.length + b.length ≤ n → Makes a b (steps a b) := by
  intro n
  induction n with
  | zero =>
    intro a b h
    obtain rfl : a = [] := List.length_eq_zero_iff.1 (by omega)
    obtain rfl : b = [] := List.length_eq_zero_iff.1 (by omega)
    rw [steps_nil]; exact .nil
  | succ n ih =>
    intro a b h
    cases a with
    | nil =>
      cases b with
      | nil => rw [steps_nil]; exact .nil
      | cons y b => rw [steps_add]; exact .add y (ih _ _ (by simp only [List.length_cons, List.length_nil] at h ⊢; omega))
    | cons x a =>
      cases b with
      | nil => rw [steps_drop]; exact .drop x (ih _ _ (by simp only [List.length_cons, List.length_nil] at h ⊢; omega))
      | cons y b =>
        simp only [List.length_cons] at h
        rw [steps_cons]
        by_cases hxy : x = y
        · subst hxy
          rw [if_pos rfl]
          exact .keep x (ih _ _ (by omega))
        · rw [if_neg hxy]
          split
          · exact .add y (ih _ _ (by simp only [List.length_cons]; omega))
          · exact .drop x (ih _ _ (by simp only [List.length_cons]; omega))
theorem makes (a b : List α) : Makes a b (steps a b) := steps_make _ a b (Nat.le_refl _)
theorem steps_kept : ∀ (n : Nat) (a b : List α), a.length + b.length ≤ n → (steps a b).count 0 = lcs a b := by
  intro n
  induction n with
  | zero =>
    intro a b h
    obtain rfl : a = [] := List.length_eq_zero_iff.1 (by omega)
    obtain rfl : b = [] := List.length_eq_zero_iff.1 (by omega)
    rw [steps_nil, lcs_nil]; rfl
  | succ n ih =>
    intro a b h
    cases a with
    | nil =>
      cases b with
      | nil => rw [steps_nil, lcs_nil]; rfl
      | cons y b =>
        rw [steps_add, List.count_cons_of_ne (by decide), ih _ _ (by simp only [List.length_cons, List.length_nil] at h ⊢; omega), lcs_nil, lcs_nil]
    | cons x a =>
      cases b with
      | nil => rw [steps_drop, List.count_cons_of_ne (by decide), ih _ _ (by simp only [List.length_cons, List.length_nil] at h ⊢; omega), lcs_nil2, lcs_nil2]
      | cons y b =>
        simp only [List.length_cons] at h
        rw [steps_cons]
        by_cases hxy : x = y
        · subst hxy
          rw [if_pos rfl, List.count_cons_self, ih _ _ (by omega), lcs_head]
        · rw [if_neg hxy, lcs_other _ _ _ _ hxy]
          split
          · rw [List.count_cons_of_ne (by decide), ih _ _ (by simp only [List.length_cons]; omega)]
            omega
          · rw [List.count_cons_of_ne (by decide), ih _ _ (by simp only [List.length_cons]; omega)]
            omega
theorem kept (a b : List α) : (steps a b).count 0 = lcs a b := steps_kept _ a b (Nat.le_refl _)
def dist (a b : List α) : Nat := (steps a b).count 1 + (steps a b).count 2
def pairs : Nat → Nat → List Nat → List (Nat × Nat)
  | _, _, [] => []
  | i, j, 0 :: s => (i, j) :: pairs (i + 1) (j + 1) s
  | i, j, 1 :: s => pairs (i + 1) j s
  | i, j, _ :: s => pairs i (j + 1) s
theorem pairs_len (s : List Nat) : ∀ i j, (pairs i j s).length = s.count 0 := by
  induction s with
  | nil => intro i j; rfl
  | cons x s ih =>
    intro i j
    match x with
    | 0 => rw [pairs, List.length_cons, ih, List.count_cons_self]
    | 1 => rw [pairs, ih, List.count_cons_of_ne (by decide)]
    | k + 2 => rw [pairs, ih, List.count_cons_of_ne (by simp)]; all_goals simp
def runs : List Nat → List (Nat × Nat)
  | [] => []
  | x :: s => match runs s with
    | [] => [(x, 1)]
    | (y, n) :: r => if x = y then (y, n + 1) :: r else (x, 1) :: (y, n) :: r
end
end Go.Proofs.YtkenmldiojeooaaGreat.Um

namespace Go.Proofs.YtkenmldiojeooaaGreat.Um
set_option linter.unusedVariables false
theorem Makes.le {α : Type} {a b : List α} {s : List Nat} (h : Makes a b s) : ∀ x, x ∈ s → x = 0 ∨ x = 1 ∨ x = 2 := by
  induction h with
  | nil => intro x hx; cases hx
  | keep _ _ ih => intro x hx; rcases List.mem_cons.1 hx with rfl | hx; exact .inl rfl; exact ih x hx
  | drop _ _ ih => intro x hx; rcases List.mem_cons.1 hx with rfl | hx; exact .inr (.inl rfl); exact ih x hx
  | add _ _ ih => intro x hx; rcases List.mem_cons.1 hx with rfl | hx; exact .inr (.inr rfl); exact ih x hx
theorem runs_cons (x : Nat) (s : List Nat) : runs (x :: s) = match runs s with
    | [] => [(x, 1)]
    | (y, n) :: r => if x = y then (y, n + 1) :: r else (x, 1) :: (y, n) :: r := rfl
theorem runs_len (s : List Nat) : (runs s).length ≤ s.length := by
  induction s with
  | nil => exact Nat.le_refl _
  | cons x s ih =>
    rw [runs_cons]
    cases h : runs s with
    | nil => simp
    | cons p r =>
      obtain ⟨y, n⟩ := p
      rw [h] at ih
      by_cases e : x = y
      · show (if x = y then _ else _ : List (Nat × Nat)).length ≤ _
        rw [if_pos e]; simp at ih ⊢; omega
      · show (if x = y then _ else _ : List (Nat × Nat)).length ≤ _
        rw [if_neg e]; simp at ih ⊢; omega
def flat (l : List (Nat × Nat)) : List Nat := l.flatMap fun p => List.replicate p.2 p.1
theorem runs_flat (s : List Nat) : flat (runs s) = s := by
  induction s with
  | nil => rfl
  | cons x s ih =>
    rw [runs_cons]
    cases h : runs s with
    | nil =>
      rw [h] at ih
      obtain rfl : [] = s := ih
      rfl
    | cons p r =>
      obtain ⟨y, n⟩ := p
      rw [h] at ih
      by_cases e : x = y
      · show flat (if x = y then _ else _) = _
        rw [if_pos e, ← ih, e]
        simp [flat, List.replicate_succ]
      · show flat (if x = y then _ else _) = _
        rw [if_neg e, ← ih]
        rfl
def far : List (Nat × Nat) → Nat
  | [] => 0
  | p :: l => (if p.1 = 0 then 0 else p.2) + far l
def PK (s : List Nat) (k i j : Nat) (pre : List (Nat × Nat)) : Prop := pairs 0 0 s = pre ++ pairs i j (s.drop k) ∧ i ≤ k ∧ j ≤ k ∧ pre.length ≤ k
theorem pk_start (s : List Nat) : PK s 0 0 0 [] := ⟨rfl, Nat.le_refl _, Nat.le_refl _, Nat.le_refl _⟩
theorem drop_at {s : List Nat} {k x : Nat} (h : s[k]? = some x) : s.drop k = x :: s.drop (k + 1) := by
  obtain ⟨h1, h2⟩ := List.getElem?_eq_some_iff.1 h
  rw [List.drop_eq_getElem_cons h1, h2]
theorem pk_keep {s : List Nat} {k i j : Nat} {pre : List (Nat × Nat)} (h : PK s k i j pre) (hx : s[k]? = some 0) : PK s (k + 1) (i + 1) (j + 1) (pre ++ [(i, j)]) := by
  obtain ⟨h1, h2, h3, h4⟩ := h
  refine ⟨?_, by omega, by omega, by simp; omega⟩
  rw [h1, drop_at hx, pairs, List.append_assoc]
  rfl
theorem pk_drop {s : List Nat} {k i j : Nat} {pre : List (Nat × Nat)} (h : PK s k i j pre) (hx : s[k]? = some 1) : PK s (k + 1) (i + 1) j pre := by
  obtain ⟨h1, h2, h3, h4⟩ := h
  refine ⟨?_, by omega, by omega, by omega⟩
  rw [h1, drop_at hx, pairs]
theorem pk_add {s : List Nat} {k i j : Nat} {pre : List (Nat × Nat)} (h : PK s k i j pre) (hx : s[k]? = some 2) : PK s (k + 1) i (j + 1) pre := by
  obtain ⟨h1, h2, h3, h4⟩ := h
  refine ⟨?_, by omega, by omega, by omega⟩
  rw [h1, drop_at hx, pairs]
  all_goals simp
theorem pk_end {s : List Nat} {k i j : Nat} {pre : List (Nat × Nat)} (h : PK s k i j pre) (hk : k = s.length) : pairs 0 0 s = pre := by
  rw [h.1, hk, List.drop_length]
  exact List.append_nil _
end Go.Proofs.YtkenmldiojeooaaGreat.Um

namespace Go.Proofs.YtkenmldiojeooaaGreat.Um
set_option linter.unusedVariables false
def cA (l : List Nat) : Nat := l.count 0 + l.count 1
def cB (l : List Nat) : Nat := l.count 0 + l.count 2
theorem Makes.at {α : Type} {a b : List α} {s : List Nat} (h : Makes a b s) : ∀ (t x : Nat), s[t]? = some x →
    (x = 0 ∧ ∃ (hi : cA (s.take t) < a.length) (hj : cB (s.take t) < b.length), a[cA (s.take t)] = b[cB (s.take t)]) ∨ (x = 1 ∧ cA (s.take t) < a.length) ∨ (x = 2 ∧ cB (s.take t) < b.length) := by
  induction h with
  | nil => intro t x h; cases h
  | keep y h ih =>
    intro t x hx
    cases t with
    | zero => injection hx with hx; exact .inl ⟨hx.symm, by simp [cA], by simp [cB], rfl⟩
    | succ t =>
      have eA : cA ((0 :: ‹List Nat›).take (t + 1)) = cA (List.take t ‹List Nat›) + 1 := by simp [cA]; omega
      have eB : cB ((0 :: ‹List Nat›).take (t + 1)) = cB (List.take t ‹List Nat›) + 1 := by simp [cB]; omega
      rcases ih t x (by simpa using hx) with ⟨h0, hi, hj, he⟩ | ⟨h0, hi⟩ | ⟨h0, hj⟩
      · refine .inl ⟨h0, by rw [eA, List.length_cons]; omega, by rw [eB, List.length_cons]; omega, ?_⟩
        simp only [eA, eB, List.getElem_cons_succ]
        exact he
      · exact .inr (.inl ⟨h0, by rw [eA, List.length_cons]; omega⟩)
      · exact .inr (.inr ⟨h0, by rw [eB, List.length_cons]; omega⟩)
  | drop y h ih =>
    intro t x hx
    cases t with
    | zero => injection hx with hx; exact .inr (.inl ⟨hx.symm, by simp [cA]⟩)
    | succ t =>
      have eA : cA ((1 :: ‹List Nat›).take (t + 1)) = cA (List.take t ‹List Nat›) + 1 := by simp [cA]; omega
      have eB : cB ((1 :: ‹List Nat›).take (t + 1)) = cB (List.take t ‹List Nat›) := by simp [cB]
      rcases ih t x (by simpa using hx) with ⟨h0, hi, hj, he⟩ | ⟨h0, hi⟩ | ⟨h0, hj⟩
      · refine .inl ⟨h0, by rw [eA, List.length_cons]; omega, by rw [eB]; omega, ?_⟩
        simp only [eA, eB, List.getElem_cons_succ]
        exact he
      · exact .inr (.inl ⟨h0, by rw [eA, List.length_cons]; omega⟩)
      · exact .inr (.inr ⟨h0, by rw [eB]; omega⟩)
  | add y h ih =>
    intro t x hx
    cases t with
    | zero => injection hx with hx; exact .inr (.inr ⟨hx.symm, by simp [cB]⟩)
    | succ t =>
      have eA : cA ((2 :: ‹List Nat›).take (t + 1)) = cA (List.take t ‹List Nat›) := by simp [cA]
      have eB : cB ((2 :: ‹List Nat›).take (t + 1)) = cB (List.take t ‹List Nat›) + 1 := by simp [cB]; omega
      rcases ih t x (by simpa using hx) with ⟨h0, hi, hj, he⟩ | ⟨h0, hi⟩ | ⟨h0, hj⟩
      · refine .inl ⟨h0, by rw [eA]; omega, by rw [eB, List.length_cons]; omega, ?_⟩
        simp only [eA, eB, List.getElem_cons_succ]
        exact he
      · exact .inr (.inl ⟨h0, by rw [eA]; omega⟩)
      · exact .inr (.inr ⟨h0, by rw [eB, List.length_cons]; omega⟩)
theorem take_at {s : List Nat} {t x : Nat} (h : s[t]? = some x) : cA (s.take (t + 1)) = cA (s.take t) + (if x = 0 ∨ x = 1 then 1 else 0) ∧ cB (s.take (t + 1)) = cB (s.take t) + (if x = 0 ∨ x = 2 then 1 else 0) := by
  obtain ⟨h1, h2⟩ := List.getElem?_eq_some_iff.1 h
  have e : s.take (t + 1) = s.take t ++ [x] := by rw [List.take_succ_eq_append_getElem h1, h2]
  unfold cA cB
  rw [e, List.count_append, List.count_append, List.count_append]
  match x with
  | 0 => simp; omega
  | 1 => simp; omega
  | 2 => simp; omega
  | k + 3 => simp
def pos (R : List (Nat × Nat)) (n : Nat) : Nat := (flat (R.take n)).length
theorem pos_next {R : List (Nat × Nat)} {n : Nat} {p : Nat × Nat} (h : R[n]? = some p) : pos R (n + 1) = pos R n + p.2 := by
  obtain ⟨h1, h2⟩ := List.getElem?_eq_some_iff.1 h
  unfold pos flat
  rw [List.take_succ_eq_append_getElem h1, List.flatMap_append, List.length_append, h2]
  simp
theorem flat_at {R : List (Nat × Nat)} {n k : Nat} {p : Nat × Nat} (h : R[n]? = some p) (hk : k < p.2) : (flat R)[pos R n + k]? = some p.1 := by
  obtain ⟨h1, h2⟩ := List.getElem?_eq_some_iff.1 h
  have e : flat R = flat (R.take n) ++ (List.replicate p.2 p.1 ++ flat (R.drop (n + 1))) := by
    conv => lhs; rw [← List.take_append_drop n R, List.drop_eq_getElem_cons h1, h2]
    unfold flat
    rw [List.flatMap_append, List.flatMap_cons]
  rw [e]
  show (flat (R.take n) ++ _)[(flat (R.take n)).length + k]? = _
  rw [List.getElem?_append_right (Nat.le_add_right _ _), Nat.add_sub_cancel_left, List.getElem?_append_left (by simpa using hk), List.getElem?_replicate, if_pos hk]
theorem pos_end (R : List (Nat × Nat)) {n : Nat} (h : n = R.length) : pos R n = (flat R).length := by
  unfold pos
  rw [h, List.take_length]
end Go.Proofs.YtkenmldiojeooaaGreat.Um

namespace Go.Proofs.YtkenmldiojeooaaGreat.Km
open Um
set_option linter.unusedVariables false
structure Hk (α : Type) where
  at_ : Nat
  old : List α
  new : List α
section
variable {α : Type}
inductive Cut : Nat → List α → List α → List (Hk α) → Prop
  | nil (p : Nat) (l : List α) : Cut p l l []
  | cons (p : Nat) (c o n : List α) {ra rb : List α} {H : List (Hk α)} (h : Cut (p + c.length + o.length) ra rb H) : Cut p (c ++ (o ++ ra)) (c ++ (n ++ rb)) (⟨p + c.length, o, n⟩ :: H)
theorem Cut.pre {p : Nat} {c ra rb : List α} {H : List (Hk α)} (h : Cut (p + c.length) ra rb H) : Cut p (c ++ ra) (c ++ rb) H := by
  cases h with
  | nil => exact .nil _ _
  | cons _ c2 o n h2 =>
    have := Cut.cons p (c ++ c2) o n (ra := _) (rb := _) (H := _) (by rw [List.length_append, ← Nat.add_assoc p]; exact h2)
    rw [List.length_append, ← Nat.add_assoc, List.append_assoc, List.append_assoc] at this
    exact this
structure G where
  f : Nat
  t : Nat
  u : Nat
  v : Nat
def add (btw i p j q : Nat) : List G → List G
  | [] => [⟨i, p, j, q⟩]
  | l :: r => if i - l.t ≤ btw then ⟨l.f, p, l.u, q⟩ :: r else ⟨i, p, j, q⟩ :: l :: r
def one (btw i j : Nat) (r : List G) (p q : Nat) : List G := if i < p ∨ j < q then add btw i p j q r else r
def gp (btw : Nat) : List (Nat × Nat) → Nat → Nat → List G → List G
  | [], _, _, r => r
  | x :: k, i, j, r => gp btw k (x.1 + 1) (x.2 + 1) (one btw i j r x.1 x.2)
def Pth (a b : List α) : List (Nat × Nat) → Nat → Nat → Prop
  | [], i, j => i ≤ a.length ∧ j ≤ b.length
  | x :: k, i, j => i ≤ x.1 ∧ j ≤ x.2 ∧ (∃ (hi : x.1 < a.length) (hj : x.2 < b.length), a[x.1] = b[x.2]) ∧ Pth a b k (x.1 + 1) (x.2 + 1)
def hks (a b : List α) (ar : Nat) : List G → List (Hk α)
  | [] => []
  | g :: r => hks a b ar r ++ [⟨g.f - min ar g.f, (a.take (g.t + min ar (a.length - g.t))).drop (g.f - min ar g.f), (b.take (g.v + min ar (a.length - g.t))).drop (g.u - min ar g.f)⟩]
def btw (a b : List α) (ar : Nat) (k : List (Nat × Nat)) : List (Hk α) := hks a b ar (gp (2 * ar) (k ++ [(a.length, b.length)]) 0 0 [])
end
end Go.Proofs.YtkenmldiojeooaaGreat.Km

namespace Go.Proofs.YtkenmldiojeooaaGreat.Km
open Um
set_option linter.unusedVariables false
set_option linter.unusedSectionVars false
structure Hz (α : Type) where
  at_ : Int
  old : List α
  new : List α
section
variable {α : Type} [DecidableEq α]
def Hk.z {α : Type} (h : Hk α) : Hz α := ⟨h.at_, h.old, h.new⟩
def stands (a : List α) (p : Nat) (l : List α) : Bool := decide ((a.drop p).take l.length = l)
def bk : Int → List (Hz α) → List (Hz α)
  | _, [] => []
  | s, h :: H => ⟨h.at_ + s, h.new, h.old⟩ :: bk (s + h.new.length - h.old.length) H
end
end Go.Proofs.YtkenmldiojeooaaGreat.Km

namespace Go.Proofs.YtkenmldiojeooaaGreat.Km
open Um
set_option linter.unusedVariables false
set_option linter.unusedSectionVars false
section
variable {α : Type} [DecidableEq α]
theorem pth_less {a b : List α} {k : List (Nat × Nat)} {i j i2 j2 : Nat} (h : Pth a b k i2 j2) (hi : i ≤ i2) (hj : j ≤ j2) : Pth a b k i j := by
  cases k with
  | nil => exact ⟨by have := h.1; omega, by have := h.2; omega⟩
  | cons x k =>
    obtain ⟨h1, h2, h3, h4⟩ := h
    exact ⟨by omega, by omega, h3, h4⟩
theorem drop_head {a : List α} {i : Nat} {x : α} {r : List α} (h : a.drop i = x :: r) : ∃ hi : i < a.length, a[i] = x ∧ a.drop (i + 1) = r := by
  have hi : i < a.length := by
    rcases Nat.lt_or_ge i a.length with h1 | h1
    · exact h1
    · rw [List.drop_of_length_le h1] at h; cases h
  rw [List.drop_eq_getElem_cons hi] at h
  injection h with h1 h2
  exact ⟨hi, h1, h2⟩
theorem pth_makes {a b : List α} {ra rb : List α} {s : List Nat} (h : Makes ra rb s) : ∀ i j, a.drop i = ra → b.drop j = rb → i ≤ a.length → j ≤ b.length → Pth a b (pairs i j s) i j := by
  induction h with
  | nil => intro i j h1 h2 hi hj; exact ⟨hi, hj⟩
  | keep x h ih =>
    intro i j h1 h2 hi hj
    obtain ⟨p1, p2, p3⟩ := drop_head h1
    obtain ⟨q1, q2, q3⟩ := drop_head h2
    exact ⟨Nat.le_refl _, Nat.le_refl _, ⟨p1, q1, by rw [p2, q2]⟩, ih (i + 1) (j + 1) p3 q3 p1 q1⟩
  | drop x h ih =>
    intro i j h1 h2 hi hj
    obtain ⟨p1, p2, p3⟩ := drop_head h1
    exact pth_less (ih (i + 1) j p3 h2 p1 hj) (by omega) (Nat.le_refl _)
  | add x h ih =>
    intro i j h1 h2 hi hj
    obtain ⟨q1, q2, q3⟩ := drop_head h2
    exact pth_less (ih i (j + 1) h1 q3 hi q1) (Nat.le_refl _) (by omega)
theorem pth_steps (a b : List α) : Pth a b (pairs 0 0 (steps a b)) 0 0 := pth_makes (makes a b) 0 0 rfl rfl (Nat.zero_le _) (Nat.zero_le _)
def Ne (a b : List α) (r : List G) : Prop := ∀ g, g ∈ r → ∀ (hi : g.f < a.length) (hj : g.u < b.length), a[g.f] ≠ b[g.u]
end
end Go.Proofs.YtkenmldiojeooaaGreat.Km

namespace Go.Proofs.YtkenmldiojeooaaGreat.Mg
open Um Km
set_option linter.unusedVariables false
set_option linter.unusedSectionVars false
structure Ck (α : Type) where
  st : Bool
  b : List α
  l : List α
  r : List α
def trip (x y : List (Nat × Nat)) : List (Nat × Nat × Nat) := x.flatMap fun p => (y.filter fun q => decide (q.1 = p.1)).map fun q => (p.1, p.2, q.2)
theorem trip_nil (y : List (Nat × Nat)) : trip [] y = [] := rfl
theorem trip_cons (p : Nat × Nat) (x y : List (Nat × Nat)) : trip (p :: x) y = ((y.filter fun q => decide (q.1 = p.1)).map fun q => (p.1, p.2, q.2)) ++ trip x y := by
  unfold trip
  rw [List.flatMap_cons]
theorem trip_app (x x2 y : List (Nat × Nat)) : trip (x ++ x2) y = trip x y ++ trip x2 y := by
  unfold trip
  rw [List.flatMap_append]
section
variable {α : Type} [DecidableEq α]
def Pt3 (o a b : List α) : List (Nat × Nat × Nat) → Nat → Nat → Nat → Prop
  | [], i, j, k => i ≤ o.length ∧ j ≤ a.length ∧ k ≤ b.length
  | t :: T, i, j, k => i ≤ t.1 ∧ j ≤ t.2.1 ∧ k ≤ t.2.2 ∧ (∃ (hp : t.1 < o.length) (hq : t.2.1 < a.length) (hs : t.2.2 < b.length), o[t.1] = a[t.2.1] ∧ o[t.1] = b[t.2.2]) ∧ Pt3 o a b T (t.1 + 1) (t.2.1 + 1) (t.2.2 + 1)
theorem pth_ge {o a : List α} (x : List (Nat × Nat)) : ∀ {i j : Nat}, Pth o a x i j → ∀ p, p ∈ x → i ≤ p.1 ∧ j ≤ p.2 ∧ ∃ (h1 : p.1 < o.length) (h2 : p.2 < a.length), o[p.1] = a[p.2] := by
  induction x with
  | nil => intro i j _ p hp; cases hp
  | cons y x ih =>
    intro i j h p hp
    obtain ⟨h1, h2, h3, h4⟩ := h
    rcases List.mem_cons.1 hp with rfl | hp
    · exact ⟨h1, h2, h3⟩
    · obtain ⟨k1, k2, k3⟩ := ih h4 p hp
      exact ⟨by omega, by omega, k3⟩
theorem filter_none {y : List (Nat × Nat)} {n : Nat} (h : ∀ q, q ∈ y → q.1 ≠ n) : (y.filter fun q => decide (q.1 = n)) = [] :=
  List.filter_eq_nil_iff.2 fun q hq e => h q hq (of_decide_eq_true e)
theorem filter_one {q : Nat × Nat} {y : List (Nat × Nat)} {n : Nat} (h0 : q.1 = n) (h : ∀ r, r ∈ y → r.1 ≠ n) : ((q :: y).filter fun r => decide (r.1 = n)) = [q] := by
  rw [List.filter_cons, if_pos (decide_eq_true h0), filter_none h]
theorem trip_drop {q : Nat × Nat} {x y : List (Nat × Nat)} (h : ∀ p, p ∈ x → p.1 ≠ q.1) : trip x (q :: y) = trip x y := by
  induction x with
  | nil => rfl
  | cons p x ih =>
    rw [trip_cons, trip_cons, ih (fun p hp => h p (by simp [hp])), List.filter_cons_of_neg]
    intro e
    exact h p (by simp) (of_decide_eq_true e).symm
theorem trip_pt3 (n : Nat) {o a b : List α} : ∀ (x y : List (Nat × Nat)) (i j k : Nat), x.length + y.length ≤ n → Pth o a x i j → Pth o b y i k → Pt3 o a b (trip x y) i j k := by
  induction n with
  | zero =>
    intro x y i j k hn hx hy
    obtain rfl : x = [] := List.length_eq_zero_iff.1 (by omega)
    obtain rfl : y = [] := List.length_eq_zero_iff.1 (by omega)
    exact ⟨hx.1, hx.2, hy.2⟩
  | succ n ih =>
    intro x y i j k hn hx hy
    cases x with
    | nil =>
      have hb : k ≤ b.length := by
        cases y with
        | nil => exact hy.2
        | cons q y => obtain ⟨_, h2, ⟨_, h3, _⟩, _⟩ := hy; omega
      exact ⟨hx.1, hx.2, hb⟩
    | cons p x =>
      obtain ⟨x1, x2, ⟨xp, xq, xe⟩, x4⟩ := hx
      cases y with
      | nil =>
        rw [trip_cons]
        show Pt3 o a b (trip x []) i j k
        exact ih x [] i j k (by simp only [List.length_cons] at hn; simp; omega) (pth_less x4 (by omega) (by omega)) hy
      | cons q y =>
        obtain ⟨y1, y2, ⟨yp, yq, ye⟩, y4⟩ := hy
        simp only [List.length_cons] at hn
        rcases Nat.lt_trichotomy p.1 q.1 with h | h | h
        · rw [trip_cons, filter_none]
          · show Pt3 o a b (trip x (q :: y)) i j k
            exact ih x (q :: y) i j k (by simp; omega) (pth_less x4 (by omega) (by omega)) ⟨y1, y2, ⟨yp, yq, ye⟩, y4⟩
          · intro r hr
            rcases List.mem_cons.1 hr with rfl | hr
            · omega
            · have := (pth_ge y y4 r hr).1
              omega
        · have e1 : (List.filter (fun r => decide (r.1 = p.1)) (q :: y)) = [q] := by
            refine filter_one h.symm fun r hr => ?_
            have := (pth_ge y y4 r hr).1
            omega
          have e2 : trip x (q :: y) = trip x y := trip_drop fun r hr => by
            have := (pth_ge x x4 r hr).1
            omega
          rw [trip_cons, e1, e2]
          refine ⟨x1, x2, y2, ⟨xp, xq, yq, xe, ?_⟩, ?_⟩
          · show o[p.1] = b[q.2]
            rw [← ye]
            congr 1
          · have hih := ih x y (p.1 + 1) (p.2 + 1) (q.2 + 1) (by omega) x4 (by rw [h]; exact y4)
            exact hih
        · have e2 : trip (p :: x) (q :: y) = trip (p :: x) y := trip_drop fun r hr => by
            rcases List.mem_cons.1 hr with rfl | hr
            · omega
            · have := (pth_ge x x4 r hr).1
              omega
          rw [e2]
          exact ih (p :: x) y i j k (by simp; omega) ⟨x1, x2, ⟨xp, xq, xe⟩, x4⟩ (pth_less y4 (by omega) (by omega))
def turn (t : Nat × Nat × Nat) : Nat × Nat × Nat := (t.1, t.2.2, t.2.1)
theorem trip_turn (n : Nat) {o a b : List α} : ∀ (x y : List (Nat × Nat)) (i j k : Nat), x.length + y.length ≤ n → Pth o a x i j → Pth o b y i k → trip y x = (trip x y).map turn := by
  induction n with
  | zero =>
    intro x y i j k hn hx hy
    obtain rfl : x = [] := List.length_eq_zero_iff.1 (by omega)
    obtain rfl : y = [] := List.length_eq_zero_iff.1 (by omega)
    rfl
  | succ n ih =>
    intro x y i j k hn hx hy
    have tn : ∀ z : List (Nat × Nat), trip z [] = [] := fun z => by
      induction z with
      | nil => rfl
      | cons p z ihz => rw [trip_cons, ihz]; rfl
    cases x with
    | nil => rw [tn, trip_nil]; rfl
    | cons p x =>
      cases y with
      | nil => rw [tn, trip_nil]; rfl
      | cons q y =>
        obtain ⟨x1, x2, ⟨xp, xq, xe⟩, x4⟩ := hx
        obtain ⟨y1, y2, ⟨yp, yq, ye⟩, y4⟩ := hy
        simp only [List.length_cons] at hn
        have gx : ∀ r, r ∈ x → p.1 < r.1 := fun r hr => by have := (pth_ge x x4 r hr).1; omega
        have gy : ∀ r, r ∈ y → q.1 < r.1 := fun r hr => by have := (pth_ge y y4 r hr).1; omega
        rcases Nat.lt_trichotomy p.1 q.1 with h | h | h
        · have e1 : trip (p :: x) (q :: y) = trip x (q :: y) := by
            rw [trip_cons, filter_none]
            · rfl
            · intro r hr
              rcases List.mem_cons.1 hr with rfl | hr
              · omega
              · have := gy r hr; omega
          have e2 : trip (q :: y) (p :: x) = trip (q :: y) x := trip_drop fun r hr => by
            rcases List.mem_cons.1 hr with rfl | hr
            · omega
            · have := gy r hr; omega
          rw [e1, e2]
          exact ih x (q :: y) i j k (by simp; omega) (pth_less x4 (by omega) (by omega)) ⟨y1, y2, ⟨yp, yq, ye⟩, y4⟩
        · have e1 : trip (p :: x) (q :: y) = (p.1, p.2, q.2) :: trip x y := by
            rw [trip_cons, filter_one h.symm (fun r hr => by have := gy r hr; omega), trip_drop (fun r hr => by have := gx r hr; omega)]
            rfl
          have e2 : trip (q :: y) (p :: x) = (q.1, q.2, p.2) :: trip y x := by
            rw [trip_cons, filter_one h (fun r hr => by have := gx r hr; omega), trip_drop (fun r hr => by have := gy r hr; omega)]
            rfl
          rw [e1, e2, ih x y (p.1 + 1) (p.2 + 1) (q.2 + 1) (by omega) x4 (by rw [h]; exact y4), List.map_cons]
          unfold turn
          rw [h]
        · have e1 : trip (p :: x) (q :: y) = trip (p :: x) y := trip_drop fun r hr => by
            rcases List.mem_cons.1 hr with rfl | hr
            · omega
            · have := gx r hr; omega
          have e2 : trip (q :: y) (p :: x) = trip y (p :: x) := by
            rw [trip_cons, filter_none]
            · rfl
            · intro r hr
              rcases List.mem_cons.1 hr with rfl | hr
              · omega
              · have := gx r hr; omega
          rw [e1, e2]
          exact ih (p :: x) y i j k (by simp; omega) ⟨x1, x2, ⟨xp, xq, xe⟩, x4⟩ (pth_less y4 (by omega) (by omega))
end
section
variable {α : Type} [DecidableEq α]
def gapc (o a b : List α) (i j k p q s : Nat) (r : List (Ck α)) : List (Ck α) :=
  if i < p ∨ j < q ∨ k < s then ⟨false, (o.take p).drop i, (a.take q).drop j, (b.take s).drop k⟩ :: r else r
def stab (x : α) : List (Ck α) → List (Ck α)
  | [] => [⟨true, [x], [x], [x]⟩]
  | c :: r => if c.st then ⟨true, c.b ++ [x], c.b ++ [x], c.b ++ [x]⟩ :: r else ⟨true, [x], [x], [x]⟩ :: c :: r
def cks (o a b : List α) : List (Nat × Nat × Nat) → Nat → Nat → Nat → List (Ck α) → List (Ck α)
  | [], i, j, k, r => gapc o a b i j k o.length a.length b.length r
  | t :: T, i, j, k, r => cks o a b T (t.1 + 1) (t.2.1 + 1) (t.2.2 + 1) (match o[t.1]? with
    | some x => stab x (gapc o a b i j k t.1 t.2.1 t.2.2 r)
    | none => gapc o a b i j k t.1 t.2.1 t.2.2 r)
theorem cks_cons {o a b : List α} {t : Nat × Nat × Nat} {T : List (Nat × Nat × Nat)} {i j k : Nat} {r : List (Ck α)} (h : t.1 < o.length) : cks o a b (t :: T) i j k r = cks o a b T (t.1 + 1) (t.2.1 + 1) (t.2.2 + 1) (stab o[t.1] (gapc o a b i j k t.1 t.2.1 t.2.2 r)) := by
  rw [cks, List.getElem?_eq_getElem h]
structure Pcs (o a b : List α) (i j k : Nat) (r : List (Ck α)) : Prop where
  base : (r.reverse.map (·.b)).flatten = o.take i
  left : (r.reverse.map (·.l)).flatten = a.take j
  right : (r.reverse.map (·.r)).flatten = b.take k
  full : ∀ c, c ∈ r → 0 < c.b.length + c.l.length + c.r.length ∧ (c.st = true → c.b = c.l ∧ c.b = c.r)
  turns : ∀ (n : Nat) c d, r[n]? = some c → r[n + 1]? = some d → c.st ≠ d.st
theorem pcs_start (o a b : List α) : Pcs o a b 0 0 0 [] := ⟨rfl, rfl, rfl, (fun c h => by cases h), fun n c d h => by cases h⟩
theorem mid_take (l : List α) {i p : Nat} (h : i ≤ p) : l.take i ++ (l.take p).drop i = l.take p := by
  have : l.take i = (l.take p).take i := by rw [List.take_take, Nat.min_eq_left h]
  rw [this, List.take_append_drop]
def Kept1 (r : List (Ck α)) : Prop := ∀ c, r.head? = some c → c.st = true
theorem pcs_gap {o a b : List α} {i j k p q s : Nat} {r : List (Ck α)} (h : Pcs o a b i j k r) (hk : Kept1 r) (h1 : i ≤ p) (h2 : j ≤ q) (h3 : k ≤ s) (g1 : p ≤ o.length) (g2 : q ≤ a.length) (g3 : s ≤ b.length) : Pcs o a b p q s (gapc o a b i j k p q s r) := by
  unfold gapc
  by_cases hg : i < p ∨ j < q ∨ k < s
  · rw [if_pos hg]
    refine ⟨?_, ?_, ?_, fun c hc => ?_, fun n c d hc hd => ?_⟩
    · rw [List.reverse_cons, List.map_append, List.flatten_append, h.base]
      simp only [List.map_cons, List.map_nil, List.flatten_cons, List.flatten_nil, List.append_nil]
      exact mid_take o h1
    · rw [List.reverse_cons, List.map_append, List.flatten_append, h.left]
      simp only [List.map_cons, List.map_nil, List.flatten_cons, List.flatten_nil, List.append_nil]
      exact mid_take a h2
    · rw [List.reverse_cons, List.map_append, List.flatten_append, h.right]
      simp only [List.map_cons, List.map_nil, List.flatten_cons, List.flatten_nil, List.append_nil]
      exact mid_take b h3
    · rcases List.mem_cons.1 hc with rfl | hc
      · refine ⟨?_, fun e => by cases e⟩
        simp only [List.length_drop, List.length_take]
        omega
      · exact h.full c hc
    · cases n with
      | zero =>
        injection hc with hc
        subst hc
        have hd2 : r[0]? = some d := hd
        have := hk d (by rw [List.head?_eq_getElem?]; exact hd2)
        rw [this]
        exact Bool.false_ne_true
      | succ n => exact h.turns n c d hc hd
  · rw [if_neg hg]
    obtain rfl : i = p := by omega
    obtain rfl : j = q := by omega
    obtain rfl : k = s := by omega
    exact h
theorem take_one {l : List α} {p : Nat} (h : p < l.length) : l.take p ++ [l[p]] = l.take (p + 1) := by rw [List.take_succ_eq_append_getElem h]
theorem kept_stab (x : α) (r : List (Ck α)) : Kept1 (stab x r) := by
  intro c hc
  cases r with
  | nil => injection hc with hc; subst hc; rfl
  | cons d r =>
    rw [stab] at hc
    by_cases h : d.st = true
    · rw [if_pos h] at hc; injection hc with hc; subst hc; rfl
    · rw [if_neg h] at hc; injection hc with hc; subst hc; rfl
theorem pcs_stab {o a b : List α} {p q s : Nat} {r : List (Ck α)} (h : Pcs o a b p q s r) (hp : p < o.length) (hq : q < a.length) (hs : s < b.length) (e1 : o[p] = a[q]) (e2 : o[p] = b[s]) : Pcs o a b (p + 1) (q + 1) (s + 1) (stab o[p] r) := by
  have nw : ∀ r, Pcs o a b p q s r → (∀ d, r.head? = some d → d.st ≠ true) → Pcs o a b (p + 1) (q + 1) (s + 1) (⟨true, [o[p]], [o[p]], [o[p]]⟩ :: r) := by
    intro r h hd
    refine ⟨?_, ?_, ?_, fun c hc => ?_, fun n c d hc hdd => ?_⟩
    · rw [List.reverse_cons, List.map_append, List.flatten_append, h.base]
      exact take_one hp
    · rw [List.reverse_cons, List.map_append, List.flatten_append, h.left]
      show a.take q ++ [o[p]] = _
      rw [e1]
      exact take_one hq
    · rw [List.reverse_cons, List.map_append, List.flatten_append, h.right]
      show b.take s ++ [o[p]] = _
      rw [e2]
      exact take_one hs
    · rcases List.mem_cons.1 hc with rfl | hc
      · exact ⟨by simp, fun _ => ⟨rfl, rfl⟩⟩
      · exact h.full c hc
    · cases n with
      | zero =>
        injection hc with hc
        subst hc
        have hd2 : r[0]? = some d := hdd
        have := hd d (by rw [List.head?_eq_getElem?]; exact hd2)
        intro e
        exact this e.symm
      | succ n => exact h.turns n c d hc hdd
  cases r with
  | nil => exact nw [] h (fun d hd => by cases hd)
  | cons c r =>
    rw [stab]
    by_cases hst : c.st = true
    · rw [if_pos hst]
      obtain ⟨c1, c2⟩ := (h.full c (by simp)).2 hst
      refine ⟨?_, ?_, ?_, fun d hd => ?_, fun n d e hd he => ?_⟩
      · have hb := h.base
        rw [List.reverse_cons, List.map_append, List.flatten_append] at hb ⊢
        simp only [List.map_cons, List.map_nil, List.flatten_cons, List.flatten_nil, List.append_nil] at hb ⊢
        rw [← List.append_assoc, hb]
        exact take_one hp
      · have hb := h.left
        rw [List.reverse_cons, List.map_append, List.flatten_append] at hb ⊢
        simp only [List.map_cons, List.map_nil, List.flatten_cons, List.flatten_nil, List.append_nil] at hb ⊢
        rw [c1, ← List.append_assoc, hb, e1]
        exact take_one hq
      · have hb := h.right
        rw [List.reverse_cons, List.map_append, List.flatten_append] at hb ⊢
        simp only [List.map_cons, List.map_nil, List.flatten_cons, List.flatten_nil, List.append_nil] at hb ⊢
        rw [c2, ← List.append_assoc, hb, e2]
        exact take_one hs
      · rcases List.mem_cons.1 hd with rfl | hd
        · exact ⟨by simp only [List.length_append, List.length_singleton]; omega, fun _ => ⟨rfl, rfl⟩⟩
        · exact h.full d (by simp [hd])
      · cases n with
        | zero =>
          injection hd with hd
          subst hd
          have := h.turns 0 c e rfl he
          rw [hst] at this
          exact this
        | succ n => exact h.turns (n + 1) d e hd he
    · rw [if_neg hst]
      exact nw (c :: r) h (fun d hd => by injection hd with hd; subst hd; exact hst)
theorem cks_pcs {o a b : List α} (T : List (Nat × Nat × Nat)) : ∀ {i j k : Nat} {r : List (Ck α)}, Pcs o a b i j k r → Kept1 r → Pt3 o a b T i j k → Pcs o a b o.length a.length b.length (cks o a b T i j k r) := by
  induction T with
  | nil =>
    intro i j k r h hk hp
    exact pcs_gap h hk hp.1 hp.2.1 hp.2.2 (Nat.le_refl _) (Nat.le_refl _) (Nat.le_refl _)
  | cons t T ih =>
    intro i j k r h hk hp
    obtain ⟨h1, h2, h3, ⟨g1, g2, g3, e1, e2⟩, h4⟩ := hp
    rw [cks_cons g1]
    exact ih (pcs_stab (pcs_gap h hk h1 h2 h3 (by omega) (by omega) (by omega)) g1 g2 g3 e1 e2) (kept_stab _ _) h4
end
end Go.Proofs.YtkenmldiojeooaaGreat.Mg

namespace Go.Proofs.YtkenmldiojeooaaGreat.Mg
open Um Km
set_option linter.unusedVariables false
set_option linter.unusedSectionVars false
section
variable {α : Type} [DecidableEq α]
def pick (c : Ck α) : Option (List α) := if c.st = true ∨ c.l = c.r ∨ c.r = c.b then some c.l else if c.l = c.b then some c.r else none
def Same3 (c : Ck α) : Prop := c.st = true → c.b = c.l ∧ c.b = c.r
def pie (o a b : List α) : List (Ck α) := cks o a b (trip (pairs 0 0 (steps o a)) (pairs 0 0 (steps o b))) 0 0 0 []
theorem pie_pt3 (o a b : List α) : Pt3 o a b (trip (pairs 0 0 (steps o a)) (pairs 0 0 (steps o b))) 0 0 0 := trip_pt3 _ _ _ 0 0 0 (Nat.le_refl _) (pth_steps o a) (pth_steps o b)
theorem pie_pcs (o a b : List α) : Pcs o a b o.length a.length b.length (pie o a b) := cks_pcs _ (pcs_start o a b) (fun c hc => by cases hc) (pie_pt3 o a b)
theorem pie_base (o a b : List α) : ((pie o a b).reverse.map (·.b)).flatten = o := by rw [(pie_pcs o a b).base, List.take_length]
theorem pie_left (o a b : List α) : ((pie o a b).reverse.map (·.l)).flatten = a := by rw [(pie_pcs o a b).left, List.take_length]
theorem pie_right (o a b : List α) : ((pie o a b).reverse.map (·.r)).flatten = b := by rw [(pie_pcs o a b).right, List.take_length]
theorem pie_same (o a b : List α) : ∀ c, c ∈ pie o a b → Same3 c := fun c hc => ((pie_pcs o a b).full c hc).2
def flip (c : Ck α) : Ck α := ⟨c.st, c.b, c.r, c.l⟩
theorem stab_flip (x : α) (r : List (Ck α)) : stab x (r.map flip) = (stab x r).map flip := by
  cases r with
  | nil => rfl
  | cons c r =>
    rw [List.map_cons, stab, stab]
    show (if c.st = true then _ else _) = _
    by_cases h : c.st = true
    · rw [if_pos h, if_pos h]; rfl
    · rw [if_neg h, if_neg h]; rfl
theorem gap_flip (o a b : List α) (i j k p q s : Nat) (r : List (Ck α)) : gapc o b a i k j p s q (r.map flip) = (gapc o a b i j k p q s r).map flip := by
  unfold gapc
  by_cases h : i < p ∨ j < q ∨ k < s
  · rw [if_pos h, if_pos (by omega)]; rfl
  · rw [if_neg h, if_neg (by omega)]
theorem cks_flip (o a b : List α) (T : List (Nat × Nat × Nat)) : ∀ (i j k : Nat) (r : List (Ck α)), cks o b a (T.map turn) i k j (r.map flip) = (cks o a b T i j k r).map flip := by
  induction T with
  | nil => intro i j k r; exact gap_flip o a b i j k _ _ _ r
  | cons t T ih =>
    intro i j k r
    rw [List.map_cons, cks, cks]
    show cks o b a (T.map turn) (t.1 + 1) (t.2.2 + 1) (t.2.1 + 1) (match o[t.1]? with
      | some x => stab x (gapc o b a i k j t.1 t.2.2 t.2.1 (r.map flip))
      | none => gapc o b a i k j t.1 t.2.2 t.2.1 (r.map flip)) = _
    rw [← ih]
    congr 1
    cases o[t.1]? with
    | none => exact gap_flip o a b _ _ _ _ _ _ r
    | some x =>
      show stab x _ = (stab x _).map flip
      rw [gap_flip, stab_flip]
theorem pie_flip (o a b : List α) : pie o b a = (pie o a b).map flip := by
  unfold pie
  rw [trip_turn _ (pairs 0 0 (steps o a)) (pairs 0 0 (steps o b)) 0 0 0 (Nat.le_refl _) (pth_steps o a) (pth_steps o b)]
  exact cks_flip o a b _ 0 0 0 []
theorem pick_flip {c : Ck α} (hs : Same3 c) : pick (flip c) = pick c := by
  unfold pick flip
  simp only
  by_cases h0 : c.st = true
  · obtain ⟨h1, h2⟩ := hs h0
    rw [if_pos (.inl h0), if_pos (.inl h0), ← h1, h2]
  · by_cases h1 : c.l = c.r
    · rw [if_pos (.inr (.inl h1.symm)), if_pos (.inr (.inl h1)), h1]
    · by_cases h2 : c.r = c.b
      · by_cases h3 : c.l = c.b
        · exact absurd (h3.trans h2.symm) h1
        · rw [if_neg (by rintro (h | h | h); exact h0 h; exact h1 h.symm; exact h3 h), if_pos h2, if_pos (.inr (.inr h2))]
      · by_cases h3 : c.l = c.b
        · rw [if_pos (.inr (.inr h3)), if_neg (by rintro (h | h | h); exact h0 h; exact h1 h; exact h2 h), if_pos h3]
        · rw [if_neg (by rintro (h | h | h); exact h0 h; exact h1 h.symm; exact h3 h), if_neg h2, if_neg (by rintro (h | h | h); exact h0 h; exact h1 h; exact h2 h), if_neg h3]
end
end Go.Proofs.YtkenmldiojeooaaGreat.Mg

namespace Go.Proofs.YtkenmldiojeooaaGreat.Mg
open Um Km
set_option linter.unusedVariables false
set_option linter.unusedSectionVars false
section
variable {α : Type} [DecidableEq α]
end
end Go.Proofs.YtkenmldiojeooaaGreat.Mg

namespace Go.Proofs.YtkenmldiojeooaaGreat.Lm
open Tx
set_option linter.unusedVariables false
def spl : List UInt8 → List (List UInt8)
  | [] => []
  | c :: r => if c = 10 then [10] :: spl r else
    match spl r with
    | [] => [[c]]
    | x :: xs => (c :: x) :: xs
def cutB : List UInt8 → List UInt8
  | [] => []
  | c :: r => if c = 10 then r else cutB r
def cutL : List UInt8 → List UInt8
  | [] => []
  | c :: r => if c = 10 then [10] else c :: cutL r
theorem spl_step (l : List UInt8) (h : l ≠ []) : spl l = cutL l :: spl (cutB l) := by
  induction l with
  | nil => exact absurd rfl h
  | cons c r ih =>
    rw [spl, cutL, cutB]
    by_cases hc : c = 10
    · rw [if_pos hc, if_pos hc, if_pos hc]
    · rw [if_neg hc, if_neg hc, if_neg hc]
      cases r with
      | nil => simp [spl, cutL, cutB]
      | cons d r => rw [ih (by simp)]
theorem cut_join (l : List UInt8) : cutL l ++ cutB l = l := by
  induction l with
  | nil => rfl
  | cons c r ih =>
    rw [cutL, cutB]
    by_cases hc : c = 10
    · rw [if_pos hc, if_pos hc, hc]; rfl
    · rw [if_neg hc, if_neg hc, List.cons_append, ih]
theorem cutL_ne {l : List UInt8} (h : l ≠ []) : cutL l ≠ [] := by
  cases l with
  | nil => exact absurd rfl h
  | cons c r => rw [cutL]; split <;> simp
theorem cutL_pos {l : List UInt8} (h : l ≠ []) : 0 < (cutL l).length := List.length_pos_iff.2 (cutL_ne h)
theorem cut_len (l : List UInt8) : (cutL l).length + (cutB l).length = l.length := by rw [← List.length_append, cut_join]
theorem spl_flat (l : List UInt8) : (spl l).flatten = l := by
  induction l with
  | nil => rfl
  | cons c r ih =>
    rw [spl]
    split
    · rename_i h; rw [List.flatten_cons, ih, h]; rfl
    · split
      · rename_i h; rw [h] at ih; simp at ih; simp [ih]
      · rename_i x xs h; rw [h] at ih; simp at ih; simp [ih]
theorem spl_len (l : List UInt8) : (spl l).length ≤ l.length := by
  induction l with
  | nil => simp [spl]
  | cons c r ih =>
    rw [spl]
    split
    · simp; omega
    · split
      · simp
      · rename_i x xs h
        rw [h] at ih
        simp at ih ⊢
        omega
def ends : List UInt8 → Bool
  | [] => false
  | [c] => decide (c = 10)
  | _ :: d :: r => ends (d :: r)
theorem ends_snoc (l : List UInt8) (c : UInt8) : ends (l ++ [c]) = decide (c = 10) := by
  induction l with
  | nil => rfl
  | cons x r ih =>
    cases r with
    | nil => rfl
    | cons y r => exact ih
theorem ends_get (l : List UInt8) (h : 0 < l.length) : ends l = decide (l[l.length - 1] = 10) := by
  obtain ⟨l', c, rfl⟩ : ∃ l' c, l = l' ++ [c] := ⟨l.dropLast, l.getLast (by intro e; simp [e] at h), (List.dropLast_concat_getLast _).symm⟩
  rw [ends_snoc]
  simp
def cnt (l : List UInt8) : Nat := if l = [] ∨ ends l = true then l.count 10 else l.count 10 + 1
theorem cnt_eq (l : List UInt8) : cnt l = (spl l).length := by
  induction l with
  | nil => simp [cnt, spl]
  | cons c r ih =>
    cases r with
    | nil =>
      by_cases hc : c = 10
      · simp [cnt, spl, ends, hc]
      · simp [cnt, spl, ends, hc]
    | cons d r =>
      have e : ends (c :: d :: r) = ends (d :: r) := rfl
      have hs : spl (d :: r) ≠ [] := by rw [spl_step _ (by simp)]; simp
      have x : cnt (c :: d :: r) = (if c = 10 then 1 else 0) + cnt (d :: r) := by
        rw [cnt, cnt, e]
        by_cases hc : c = 10
        · rw [if_pos hc, hc]
          by_cases hd : ends (d :: r) = true
          · rw [if_pos (.inr hd), if_pos (.inr hd), List.count_cons_self]; omega
          · rw [if_neg (by simp [hd]), if_neg (by simp [hd]), List.count_cons_self]; omega
        · rw [if_neg hc]
          by_cases hd : ends (d :: r) = true
          · rw [if_pos (.inr hd), if_pos (.inr hd), List.count_cons_of_ne hc]; omega
          · rw [if_neg (by simp [hd]), if_neg (by simp [hd]), List.count_cons_of_ne hc]; omega
      rw [x, ih]
      conv => rhs; rw [spl]
      by_cases hc : c = 10
      · rw [if_pos hc, if_pos hc, List.length_cons]; omega
      · rw [if_neg hc, if_neg hc]
        cases h : spl (d :: r) with
        | nil => exact absurd h hs
        | cons y ys => simp
def clo (x : List UInt8) : List UInt8 := if ends x = true then x else x ++ [10]
def cls : List (List UInt8) → List (List UInt8)
  | [] => []
  | [x] => [clo x]
  | x :: y :: r => x :: cls (y :: r)
theorem cls_len (l : List (List UInt8)) : (cls l).length = l.length := by
  induction l with
  | nil => rfl
  | cons x r ih =>
    cases r with
    | nil => rfl
    | cons y r => rw [cls, List.length_cons, ih]; rfl
theorem cls_snoc (l : List (List UInt8)) (x : List UInt8) : cls (l ++ [x]) = l ++ [clo x] := by
  induction l with
  | nil => rfl
  | cons y r ih =>
    cases r with
    | nil => rfl
    | cons z r => exact congrArg (y :: ·) ih
def lns (s : ByteArray) : List ByteArray := (spl s.data.toList).map tb
def clt (l : List ByteArray) : List ByteArray := (cls (l.map (·.data.toList))).map tb
def cat (l : List ByteArray) : ByteArray := tb (l.map (·.data.toList)).flatten
theorem back_tb (l : List (List UInt8)) : (l.map tb).map (·.data.toList) = l := by
  rw [List.map_map]
  conv => rhs; rw [← List.map_id l]
  rfl
theorem tb_back (l : List ByteArray) : (l.map (·.data.toList)).map tb = l := by
  rw [List.map_map]
  conv => rhs; rw [← List.map_id l]
  exact List.map_congr_left fun s _ => tb_of s
theorem lns_len (s : ByteArray) : (lns s).length = (spl s.data.toList).length := by rw [lns, List.length_map]
theorem lns_le (s : ByteArray) : (lns s).length ≤ s.size := by rw [lns_len, ← len_l]; exact spl_len _
theorem lns_cnt (s : ByteArray) : cnt s.data.toList = (lns s).length := by rw [lns_len, cnt_eq]
theorem lns_cat (s : ByteArray) : cat (lns s) = s := by rw [cat, lns, back_tb, spl_flat, tb_of]
theorem clt_len (l : List ByteArray) : (clt l).length = l.length := by rw [clt, List.length_map, cls_len, List.length_map]
theorem cat_size (l : List ByteArray) : (cat l).size = (l.map (·.size)).sum := by
  induction l with
  | nil => rfl
  | cons x l ih =>
    have h : (cat (x :: l)).size = x.size + (cat l).size := by
      simp only [cat, tb, ByteArray.size, List.map_cons, List.flatten_cons, List.size_toArray, List.length_append, Array.length_toList]
    rw [h, ih]; simp
theorem cat_snoc (l : List ByteArray) (x : ByteArray) : cat (l ++ [x]) = cat l ++ x := by
  apply ByteArray.ext
  simp [cat, tb]
theorem cat_take (l : List ByteArray) (k : Nat) (h : k < l.length) : cat (l.take (k + 1)) = cat (l.take k) ++ l[k] := by
  rw [← cat_snoc, List.take_succ_eq_append_getElem h]
theorem cat_take_le (l : List ByteArray) (k : Nat) : (cat (l.take k)).size ≤ (cat l).size := by
  rw [cat_size, cat_size]
  conv => rhs; rw [← List.take_append_drop k l]
  rw [List.map_append, List.sum_append]
  omega
def clot (s : ByteArray) : ByteArray := if ends s.data.toList = true then s else s ++ ⟨#[10]⟩
theorem clot_eq (s : ByteArray) : tb (clo s.data.toList) = clot s := by
  unfold clo clot
  split
  · rw [tb_of]
  · apply ByteArray.ext
    apply Array.toList_inj.1
    simp [tb]
theorem clt_snoc (l : List ByteArray) (x : ByteArray) : clt (l ++ [x]) = l ++ [clot x] := by
  rw [clt, List.map_append, List.map_singleton, cls_snoc, List.map_append, List.map_singleton, tb_back, clot_eq]
theorem clt_nil : clt [] = [] := rfl
end Go.Proofs.YtkenmldiojeooaaGreat.Lm

namespace Go.Proofs.YtkenmldiojeooaaGreat.Ln
open Go.RowKit Tx Lm
set_option linter.unusedVariables false
set_option maxRecDepth 100000 in
set_option maxHeartbeats 1000000 in
theorem count_any (s : ByteArray) (w : World) :
    Calls Tryz.prog 112 #[.string s, .string ⟨#[10]⟩] w fun e w' => e = .returned (.int .i64 (s.data.toList.count 10 : Nat)) ∧ w = w' := by
  go_enter Tryz.func112, Tryz.ntmps112
  go_wp2
  rw [run_callFunc_extern Tryz.func128 (by kernel_rfl) (by kernel_rfl) (by kernel_rfl) (e := Extern.BytealgCount.count) (by kernel_rfl), Lib.run_countString]
  simp only [Result.andThen]
  rw [Oper.upon_value]
  go_wp2
  go_ret
  exact ⟨rfl, rfl⟩
set_option maxRecDepth 100000 in
set_option maxHeartbeats 1000000 in
theorem indexByte_any (s : ByteArray) (w : World) :
    Calls Tryz.prog 137 #[.string s, .int .u8 10] w fun e w' => e = .returned (.int .i64 (Lib.indexByte s.data.toList 10)) ∧ w = w' := by
  go_enter Tryz.func137, Tryz.ntmps137
  go_wp2
  rw [run_callFunc_extern Tryz.func144 (by kernel_rfl) (by kernel_rfl) (by kernel_rfl) (e := Extern.BytealgIndexByte.indexByte) (by kernel_rfl), Lib.run_indexByteString]
  simp only [Result.andThen]
  rw [Oper.upon_value]
  go_wp2
  go_ret
  exact ⟨rfl, rfl⟩
set_option maxRecDepth 100000 in
set_option maxHeartbeats 1000000 in
theorem indexByte_zero (s : ByteArray) (w : World) :
    Calls Tryz.prog 137 #[.string s, .int .u8 0] w fun e w' => e = .returned (.int .i64 (Lib.indexByte s.data.toList 0)) ∧ w = w' := by
  go_enter Tryz.func137, Tryz.ntmps137
  go_wp2
  rw [run_callFunc_extern Tryz.func144 (by kernel_rfl) (by kernel_rfl) (by kernel_rfl) (e := Extern.BytealgIndexByte.indexByte) (by kernel_rfl), Lib.run_indexByteString]
  simp only [Result.andThen]
  rw [Oper.upon_value]
  go_wp2
  go_ret
  exact ⟨rfl, rfl⟩
set_option maxRecDepth 100000 in
set_option maxHeartbeats 1000000 in
theorem index_any (s : ByteArray) (w : World) :
    Calls Tryz.prog 126 #[.string s, .string ⟨#[10]⟩] w fun e w' => e = .returned (.int .i64 (Lib.indexByte s.data.toList 10)) ∧ w = w' := by
  go_enter Tryz.func126, Tryz.ntmps126
  go_wp2_with (go_at_call 137; refine (indexByte_any _ _).mono ?_; rintro e w' ⟨rfl, rfl⟩)
  · have h : ([10] == s.toList) = true := by assumption
    go_ret
    refine ⟨?_, rfl⟩
    have e : s.data.toList = [10] := by rw [← Lib.toList_data]; exact (beq_iff_eq.1 h).symm
    rw [e]
    simp [Lib.indexByte]
  · go_ret
    exact ⟨rfl, rfl⟩
set_option maxRecDepth 100000 in
set_option maxHeartbeats 1000000 in
theorem index_zero (s : ByteArray) (w : World) :
    Calls Tryz.prog 126 #[.string s, .string ⟨#[0]⟩] w fun e w' => e = .returned (.int .i64 (Lib.indexByte s.data.toList 0)) ∧ w = w' := by
  go_enter Tryz.func126, Tryz.ntmps126
  go_wp2_with (go_at_call 137; refine (indexByte_zero _ _).mono ?_; rintro e w' ⟨rfl, rfl⟩)
  · have h : ([0] == s.toList) = true := by assumption
    go_ret
    refine ⟨?_, rfl⟩
    have e : s.data.toList = [0] := by rw [← Lib.toList_data]; exact (beq_iff_eq.1 h).symm
    rw [e]
    simp [Lib.indexByte]
  · go_ret
    exact ⟨rfl, rfl⟩
set_option maxRecDepth 100000 in
theorem sindex_zero (s : ByteArray) (w : World) :
    Calls Tryz.prog 111 #[.string s, .string ⟨#[0]⟩] w fun e w' => e = .returned (.int .i64 (Lib.indexByte s.data.toList 0)) ∧ w = w' := by
  go_enter Tryz.func111, Tryz.ntmps111
  go_wp2_with (go_at_call 126; refine (index_zero _ _).mono ?_; rintro e w' ⟨rfl, rfl⟩)
  go_ret
  exact ⟨rfl, rfl⟩
theorem byte_there (l : List UInt8) (c : UInt8) : decide (0 ≤ Lib.indexByte l c) = l.contains c := by
  induction l with
  | nil => simp [Lib.indexByte]
  | cons x r ih =>
    rw [Lib.indexByte, List.contains_cons]
    have hge := Lib.indexByte_ge r c
    by_cases hc : x = c
    · rw [if_pos (by simp [hc])]; simp [hc]
    · rw [if_neg (by simpa using hc), ← ih]
      by_cases hn : Lib.indexByte r c = -1
      · rw [if_pos (by simp [hn])]; simp [hn, Ne.symm hc]
      · rw [if_neg (by simp [hn])]
        have h0 : 0 ≤ Lib.indexByte r c := by omega
        simp [h0]
        omega
set_option maxRecDepth 100000 in
theorem contains_zero (s : ByteArray) (w : World) :
    Calls Tryz.prog 90 #[.string s, .string ⟨#[0]⟩] w fun e w' => e = .returned (.bool (s.data.toList.contains 0)) ∧ w = w' := by
  have HB := Lib.hid (byte_there s.data.toList 0)
  go_enter Tryz.func90, Tryz.ntmps90
  go_wp2_with (go_at_call 111; refine (sindex_zero _ _).mono ?_; rintro e w' ⟨rfl, rfl⟩)
  go_ret
  exact ⟨by rw [← HB.out]; rfl, rfl⟩
theorem cut_in (l : List UInt8) (i : Nat) (h : Lib.indexByte l 10 = i) : i < l.length ∧ cutB l = l.drop (i + 1) := by
  induction l generalizing i with
  | nil => simp [Lib.indexByte] at h
  | cons c r ih =>
    rw [Lib.indexByte] at h
    by_cases hc : c = 10
    · rw [if_pos (by simp [hc])] at h
      obtain rfl : i = 0 := by omega
      simp [cutB, hc]
    · rw [if_neg (by simpa using hc)] at h
      have hge := Lib.indexByte_ge r 10
      by_cases hn : Lib.indexByte r 10 = -1
      · rw [if_pos (by simp [hn])] at h
        omega
      · rw [if_neg (by simp [hn])] at h
        obtain ⟨j, rfl⟩ : ∃ j, i = j + 1 := ⟨i - 1, by omega⟩
        obtain ⟨h1, h3⟩ := ih j (by push_cast at h; omega)
        simp [cutB, hc, h3]
        omega
theorem cut_out (l : List UInt8) (h : Lib.indexByte l 10 = -1) : cutB l = [] := by
  induction l with
  | nil => simp [cutB]
  | cons c r ih =>
    rw [Lib.indexByte] at h
    by_cases hc : c = 10
    · rw [if_pos (by simp [hc])] at h
      omega
    · rw [if_neg (by simpa using hc)] at h
      have hge := Lib.indexByte_ge r 10
      by_cases hn : Lib.indexByte r 10 = -1
      · simp [cutB, hc, ih hn]
      · rw [if_neg (by simp [hn])] at h
        omega
def CutTo (s : ByteArray) (w : World) (e : Ending) (w' : World) : Prop := (∃ a b, e = .returned (.tuple #[.string a, .string (tb (cutB s.data.toList)), .bool b])) ∧ ∃ n, w' = w.drewN n
set_option maxRecDepth 100000 in
set_option maxHeartbeats 1000000 in
theorem cutLite_any (s : ByteArray) (w : World) (hs : s.size ≤ 562949953421312) :
    Calls Tryz.prog 114 #[.string s, .string ⟨#[10]⟩] w (CutTo s w) := by
  have hge := Lib.indexByte_ge s.data.toList 10
  by_cases hm : Lib.indexByte s.data.toList 10 = -1
  · have HE := Lib.hid (cut_out _ hm)
    go_enter Tryz.func114, Tryz.ntmps114
    go_wp2_with (go_at_call 126; refine (index_any _ _).mono ?_; rintro e w' ⟨rfl, rfl⟩; rw [hm])
    go_ret3
    unfold CutTo
    rw [HE.out]
    exact ⟨⟨_, _, rfl⟩, 0, rfl⟩
  · obtain ⟨i, hi⟩ : ∃ i : Nat, Lib.indexByte s.data.toList 10 = i := ⟨(Lib.indexByte s.data.toList 10).toNat, by omega⟩
    obtain ⟨hlt, e2⟩ := cut_in _ i hi
    rw [len_l] at hlt
    have x2 : tb (cutB s.data.toList) = s.extract (i + 1) s.size := by
      apply ByteArray.ext
      apply Array.toList_inj.1
      rw [ByteArray.data_extract, Array.toList_extract, List.extract_eq_take_drop, e2]
      rw [List.take_of_length_le (by rw [List.length_drop, len_l]; omega)]
      rfl
    have HX := Lib.hid x2
    have c1 : (0 : Int) ≤ ↑i := by omega
    have c2 : (↑i : Int) ≤ ↑s.size := by omega
    have c3 : (0 : Int) ≤ ↑i + 1 := by omega
    have c4 : (↑i + 1 : Int) ≤ ↑s.size := by omega
    clear e2 x2 hge hm
    go_enter Tryz.func114, Tryz.ntmps114
    go_wp2_with (go_at_call 126; refine (index_any _ _).mono ?_; rintro e w' ⟨rfl, rfl⟩; rw [hi])
    go_region
    go_wp2
    go_ret3
    unfold CutTo
    rw [HX.out]
    exact ⟨⟨_, _, rfl⟩, 1, rfl⟩
set_option maxRecDepth 100000 in
set_option maxHeartbeats 1000000 in
theorem cut_any (s : ByteArray) (w : World) (hs : s.size ≤ 562949953421312) :
    Calls Tryz.prog 92 #[.string s, .string ⟨#[10]⟩] w (CutTo s w) := by
  go_enter Tryz.func92, Tryz.ntmps92
  go_wp2_with (go_at_call 114; refine (cutLite_any _ _ hs).mono ?_; rintro e w' ⟨⟨a, b, rfl⟩, n, rfl⟩)
  go_ret3
  exact ⟨⟨_, _, rfl⟩, n, rfl⟩
theorem suf_eq (s : ByteArray) (h : 1 ≤ s.size) : ((s.extract (s.size - 1) s.size).toList == [10]) = ends s.data.toList := by
  rw [ByteArray.toList_eq, ByteArray.data_extract, Array.toList_extract, List.extract_eq_take_drop, ends_get _ (by rw [len_l]; omega)]
  have e : List.take (s.size - (s.size - 1)) (List.drop (s.size - 1) s.data.toList) = [s.data.toList[s.data.toList.length - 1]'(by rw [len_l]; omega)] := by
    have h1 : s.size - (s.size - 1) = 1 := by omega
    have h2 : s.size - 1 < s.data.toList.length := by rw [len_l]; omega
    rw [h1, List.drop_eq_getElem_cons h2]
    simp only [List.take_succ_cons, List.take_zero, len_l]
  rw [e]
  simp
  rfl
set_option maxRecDepth 100000 in
set_option maxHeartbeats 1000000 in
theorem suffixLite_any (s : ByteArray) (w : World) (hs : s.size ≤ 562949953421312) :
    Calls Tryz.prog 141 #[.string s, .string ⟨#[10]⟩] w fun e w' => e = .returned (.bool (ends s.data.toList)) ∧ w = w' := by
  by_cases h0 : s.size = 0
  · have e : ends s.data.toList = false := by rw [List.length_eq_zero_iff.1 (by rw [len_l]; exact h0 : s.data.toList.length = 0)]; rfl
    have HE := Lib.hid e
    have h1 : (s.size : Int) < 1 := by omega
    have h2 : ¬ (1 : Int) ≤ s.size := by omega
    clear e h0
    go_enter Tryz.func141, Tryz.ntmps141
    go_wp2
    go_ret
    exact ⟨by rw [HE.out]; rfl, rfl⟩
  · have h1 : 1 ≤ s.size := by omega
    have HE := Lib.hid (suf_eq s h1)
    have h2 : (1 : Int) ≤ s.size := by omega
    have h3 : ((s.size : Int) - 1).toNat = s.size - 1 := by omega
    clear h0
    go_enter Tryz.func141, Tryz.ntmps141
    go_wp2
    go_ret
    trace_state
    exact ⟨by rw [← HE.out]; rfl, rfl⟩
set_option maxRecDepth 100000 in
theorem suffix_any (s : ByteArray) (w : World) (hs : s.size ≤ 562949953421312) :
    Calls Tryz.prog 129 #[.string s, .string ⟨#[10]⟩] w fun e w' => e = .returned (.bool (ends s.data.toList)) ∧ w = w' := by
  go_enter Tryz.func129, Tryz.ntmps129
  go_wp2_with (go_at_call 141; refine (suffixLite_any _ _ hs).mono ?_; rintro e w' ⟨rfl, rfl⟩)
  go_ret
  exact ⟨rfl, rfl⟩
end Go.Proofs.YtkenmldiojeooaaGreat.Ln

namespace Go.Proofs.YtkenmldiojeooaaGreat.Ln
open Go.RowKit Tx Lm
set_option linter.unusedVariables false
theorem line_at (l : List UInt8) (j : Nat) (hj : j < l.length) (h : ∀ k, k < j → l[k]? ≠ some 10) (h2 : l[j]? = some 10 ∨ j + 1 = l.length) : cutL l = l.take (j + 1) ∧ cutB l = l.drop (j + 1) := by
  induction l generalizing j with
  | nil => simp at hj
  | cons c r ih =>
    rw [cutL, cutB]
    cases j with
    | zero =>
      by_cases hc : c = 10
      · rw [if_pos hc, if_pos hc, hc]; exact ⟨rfl, rfl⟩
      · rw [if_neg hc, if_neg hc]
        rcases h2 with h2 | h2
        · simp at h2; exact absurd h2 hc
        · obtain rfl : r = [] := List.length_eq_zero_iff.1 (by simpa using h2)
          exact ⟨rfl, rfl⟩
    | succ j =>
      have hc : c ≠ 10 := fun e => h 0 (by omega) (by simp [e])
      rw [if_neg hc, if_neg hc]
      obtain ⟨a, b⟩ := ih j (by simpa using hj) (fun k hk => by have := h (k + 1) (by omega); simpa using this) (by simpa using h2)
      rw [a, b]
      exact ⟨rfl, rfl⟩
theorem ne_10 {x : UInt8} (h : x ≠ 10) : ((x.toNat : Int) == 10) = false := beq_eq_false_iff_ne.2 fun e => h (UInt8.toNat_inj.1 (show x.toNat = 10 by omega))
theorem ne_0 {x : UInt8} (h : x ≠ 0) : ((x.toNat : Int) == 0) = false := beq_eq_false_iff_ne.2 fun e => h (UInt8.toNat_inj.1 (show x.toNat = 0 by omega))
def Run (s : ByteArray) (pre : List ByteArray) (f i : Nat) : Prop :=
  f ≤ i ∧ i ≤ s.size ∧ lns s = pre ++ (spl (s.data.toList.drop f)).map tb ∧ (∀ k, f ≤ k → k < i → s.data.toList[k]? ≠ some 10) ∧ (i = s.size → f = s.size) ∧ pre.length ≤ f
theorem run_start (s : ByteArray) : Run s [] 0 0 := ⟨Nat.le_refl _, Nat.zero_le _, rfl, fun k h1 h2 => by omega, fun h => h, Nat.le_refl _⟩
theorem run_cut {s : ByteArray} {pre : List ByteArray} {f i : Nat} (h : Run s pre f i) (hi : i < s.size) (hc : s[i] = 10 ∨ i + 1 = s.size) : Run s (pre ++ [s.extract f (i + 1)]) (i + 1) (i + 1) := by
  obtain ⟨h1, h2, h3, h4, h5, h6⟩ := h
  have hl : (s.data.toList.drop f).length = s.size - f := by rw [List.length_drop, len_l]
  have hne : s.data.toList.drop f ≠ [] := fun e => by rw [e] at hl; simp at hl; omega
  obtain ⟨a, b⟩ := line_at (s.data.toList.drop f) (i - f) (by omega) (fun k hk => by rw [List.getElem?_drop]; exact h4 _ (by omega) (by omega)) (by
    rcases hc with hc | hc
    · left
      rw [List.getElem?_drop, show f + (i - f) = i by omega, Array.getElem?_toList]
      have h' : i < s.data.size := hi
      rw [Array.getElem?_eq_getElem h']
      exact congrArg some hc
    · right; omega)
  refine ⟨Nat.le_refl _, by omega, ?_, fun k hk hk2 => by omega, fun h => h, by simp; omega⟩
  rw [h3, spl_step _ hne, a, b, List.map_cons, List.append_assoc, List.singleton_append]
  congr 2
  · apply ByteArray.ext
    apply Array.toList_inj.1
    rw [ByteArray.data_extract, Array.toList_extract, List.extract_eq_take_drop]
    show List.take (i - f + 1) _ = _
    congr 1
    omega
  · rw [List.drop_drop]
    congr 3
    omega
theorem run_on {s : ByteArray} {pre : List ByteArray} {f i : Nat} (h : Run s pre f i) (hi : i < s.size) (hc : s[i] ≠ 10) (hc2 : i + 1 ≠ s.size) : Run s pre f (i + 1) := by
  obtain ⟨h1, h2, h3, h4, h5, h6⟩ := h
  refine ⟨by omega, by omega, h3, fun k hk hk2 => ?_, fun h => absurd h hc2, h6⟩
  by_cases e : k = i
  · subst e
    rw [Array.getElem?_toList]
    have h' : k < s.data.size := hi
    rw [Array.getElem?_eq_getElem h']
    intro he
    injection he with he
    exact hc he
  · exact h4 k hk (by omega)
theorem run_end {s : ByteArray} {pre : List ByteArray} {f i : Nat} (h : Run s pre f i) (hi : ¬ i < s.size) : lns s = pre := by
  obtain ⟨h1, h2, h3, h4, h5, h6⟩ := h
  have e : f = s.size := h5 (by omega)
  rw [h3, e, List.drop_of_length_le (by rw [len_l]; exact Nat.le_refl _)]
  simp [spl]
def ListTo (l : List ByteArray) (w : World) (e : Ending) (w' : World) : Prop := ∃ v, e = .returned v ∧ Texts w' w.heap.size v l ∧ Below w.heap.size w w'
set_option maxRecDepth 100000 in
set_option maxHeartbeats 1000000 in
theorem refSplit_any (s : ByteArray) (w : World) (hs : s.size ≤ 8796093022207) :
    Calls Tryz.prog 71 #[.string s] w (ListTo (lns s) w) := by
  obtain ⟨i0, hi, hz0, hz1, hz2⟩ := info_parts info9
  go_enter Tryz.func71, Tryz.ntmps71
  go_wp2_with fail
  go_loopw [3, 4, 5] (fun v f i wr => ∃ (pre : List ByteArray) (a b : Nat), f = .int .i64 a ∧ i = .int .i64 b ∧ Hid (Run s pre a b) ∧ Texts wr w.heap.size v pre ∧ Below w.heap.size w wr) (fun _ _ i _ => s.size - (intOf i).toNat)
  case atStart => exact ⟨[], 0, 0, rfl, rfl, run_start s, World.ownsRow_nil _ _ _ _, Below.refl _ _⟩
  case round =>
    obtain ⟨pre, a, b, rfl, rfl, HR, htx, hb⟩ := hrel
    have h1 := HR.out.1
    have h2 := HR.out.2.1
    have hpl := HR.out.2.2.2.2.2
    have hsz := hb.size
    by_cases hlt : b < s.size
    · have hlt' : (b : Int) < s.size := by omega
      by_cases hcut : s[b] = 10 ∨ b + 1 = s.size
      · have HN := Lib.hid (run_cut HR.out hlt hcut)
        have hown := htx
        unfold Texts at hown
        have e1 : (a : Int) ≤ (b : Int) + 1 := by omega
        have e2 : (b : Int) + 1 ≤ s.size := by omega
        have e3 : ((b : Int) + 1).toNat = b + 1 := by omega
        have ew : IntKind.i64.wrap ((b : Int) + 1) = (b : Int) + 1 := IntWalk.i64_in _ (by omega)
        by_cases hc : s[b] = 10
        · have e4 : ((s[b].toNat : Int) == 10) = true := by simp [hc]
          clear hcut HR htx
          go_wp2_with (at_builtin; refine wpList_append_own _ rfl _ _ 59 rfl w.heap.size 9 i0 (.string ⟨#[]⟩) 1 16 Tryz.underlying59 hi hz0 hz1 hz2 rfl (by decide) _ _ _ rfl (hown.alloc _) ⟨wr.heap.size, 0, none⟩ 1 1 [sv (s.extract a (b + 1))] rfl rfl ?c1 ?c2 ?c3 ?c4 ?c5 ?_)
          case c1 => exact cell_one_new _ _ _
          case c2 => exact sv_one [s.extract a (b + 1)]
          case c3 => unfold maxLen; omega
          case c4 => omega
          case c5 => simp; omega
          intro v' w2 hown' hgrow _
          have hb3 := below_step hb hown hgrow
          have htx2 : Texts w2 w.heap.size v' (pre ++ [s.extract a (b + 1)]) := by
            unfold Texts
            rw [List.length_append, List.map_append]
            exact hown'
          clear hown hown' hgrow hb
          go_wp2_with fail
          go_roundw
          case rel => exact ⟨pre ++ [s.extract a (b + 1)], b + 1, b + 1, by go_num, by go_num, HN, htx2, hb3⟩
          case measure => simp only [intOf]; omega
        · have e4 : ((s[b].toNat : Int) == 10) = false := ne_10 hc
          have e5 : ((b : Int) == (s.size : Int) - 1) = true := beq_iff_eq.2 (by have := hcut.resolve_left hc; omega)
          clear hcut HR htx hc
          go_wp2_with (at_builtin; refine wpList_append_own _ rfl _ _ 59 rfl w.heap.size 9 i0 (.string ⟨#[]⟩) 1 16 Tryz.underlying59 hi hz0 hz1 hz2 rfl (by decide) _ _ _ rfl (hown.alloc _) ⟨wr.heap.size, 0, none⟩ 1 1 [sv (s.extract a (b + 1))] rfl rfl ?c1 ?c2 ?c3 ?c4 ?c5 ?_)
          case c1 => exact cell_one_new _ _ _
          case c2 => exact sv_one [s.extract a (b + 1)]
          case c3 => unfold maxLen; omega
          case c4 => omega
          case c5 => simp; omega
          intro v' w2 hown' hgrow _
          have hb3 := below_step hb hown hgrow
          have htx2 : Texts w2 w.heap.size v' (pre ++ [s.extract a (b + 1)]) := by
            unfold Texts
            rw [List.length_append, List.map_append]
            exact hown'
          clear hown hown' hgrow hb
          go_wp2_with fail
          go_roundw
          case rel => exact ⟨pre ++ [s.extract a (b + 1)], b + 1, b + 1, by go_num, by go_num, HN, htx2, hb3⟩
          case measure => simp only [intOf]; omega
      · have hc1 : s[b] ≠ 10 := fun e => hcut (.inl e)
        have hc2 : b + 1 ≠ s.size := fun e => hcut (.inr e)
        have HN := Lib.hid (run_on HR.out hlt hc1 hc2)
        have e4 : ((s[b].toNat : Int) == 10) = false := ne_10 hc1
        have e5 : ((b : Int) == (s.size : Int) - 1) = false := beq_eq_false_iff_ne.2 (by omega)
        clear hcut HR hc1 hc2
        go_wp2_with fail
        go_roundw
        case rel => exact ⟨pre, a, b + 1, rfl, by go_num, HN, htx, hb⟩
        case measure => simp only [intOf]; omega
    · have HE := Lib.hid (run_end HR.out hlt)
      have hlt' : ¬ (b : Int) < s.size := by omega
      clear HR
      go_wp2_with fail
      go_ret
      unfold ListTo
      rw [HE.out]
      exact ⟨_, rfl, htx, hb⟩
def txt (s : ByteArray) : Nat := if s.data.toList.contains 0 then 21 else if 400 < (lns s).length then 4 else 0
theorem txt_bin {s : ByteArray} {i : Nat} (hi : i < s.size) (h : s[i] = 0) : txt s = 21 := by
  unfold txt
  rw [if_pos]
  have h' : i < s.data.size := hi
  exact List.contains_iff_mem.2 (List.mem_iff_getElem?.2 ⟨i, by rw [Array.getElem?_toList, Array.getElem?_eq_getElem h']; exact congrArg some h⟩)
theorem txt_not {s : ByteArray} (h : ∀ k, (hk : k < s.size) → s[k] ≠ 0) : txt s = if 400 < (lns s).length then 4 else 0 := by
  unfold txt
  rw [if_neg]
  intro hc
  obtain ⟨k, hk⟩ := List.mem_iff_getElem?.1 (List.contains_iff_mem.1 hc)
  rw [Array.getElem?_toList] at hk
  obtain ⟨hk1, hk2⟩ := Array.getElem?_eq_some_iff.1 hk
  exact h k hk1 hk2
set_option maxRecDepth 100000 in
set_option maxHeartbeats 1000000 in
theorem refText_any (s : ByteArray) (w : World) (hs : s.size ≤ 8796093022207) :
    Calls Tryz.prog 70 #[.string s] w fun e w' => e = .returned (.int .i64 (txt s : Nat)) ∧ Below w.heap.size w w' := by
  go_enter Tryz.func70, Tryz.ntmps70
  go_wp2_with fail
  go_loop [3] (fun i => ∃ b : Nat, b ≤ s.size ∧ i = .int .i64 b ∧ Hid (∀ k, (hk : k < s.size) → k < b → s[k] ≠ 0)) (fun i => s.size - (intOf i).toNat)
  case atStart => exact ⟨0, Nat.zero_le _, rfl, fun k _ h => by omega⟩
  case round =>
    obtain ⟨b, hb, rfl, HN⟩ := hrel
    by_cases hlt : b < s.size
    · have hlt' : (b : Int) < s.size := by omega
      by_cases hc : s[b] = 0
      · have e4 : ((s[b].toNat : Int) == 0) = true := by simp [hc]
        have HE := Lib.hid (txt_bin hlt hc)
        clear hc HN
        go_wp2_with fail
        go_ret
        exact ⟨by rw [HE.out]; rfl, Below.refl _ _⟩
      · have e4 : ((s[b].toNat : Int) == 0) = false := ne_0 hc
        have HN2 : Hid (∀ k, (hk : k < s.size) → k < b + 1 → s[k] ≠ 0) := fun k hk hk2 => by
          by_cases e : k = b
          · subst e; exact hc
          · exact HN.out k hk (by omega)
        clear hc HN
        go_wp2_with fail
        go_round
        case rel => exact ⟨b + 1, by omega, by go_num, HN2⟩
        case measure => simp only [intOf]; omega
    · have hlt' : ¬ (b : Int) < s.size := by omega
      have HT := Lib.hid (txt_not (s := s) fun k hk => HN.out k hk (by omega))
      have hle := lns_le s
      clear HN
      obtain ⟨L, hL⟩ : ∃ L, L = lns s := ⟨_, rfl⟩
      have c := refSplit_any s w hs
      rw [← hL] at c hle
      have HL := Lib.hid hL
      clear hL
      go_wp2_with fail
      go_at_call 71
      refine c.mono ?_
      rintro e w1 ⟨v, rfl, htx, hb1⟩
      obtain ⟨x, cc, rfl, _, _, _⟩ := htx.form
      by_cases hm : 400 < L.length
      · have hm' : (400 : Int) < (L.length : Int) := by omega
        go_wp2_with fail
        go_ret
        exact ⟨by rw [HT.out, if_pos (by rw [← HL.out]; exact hm)]; rfl, hb1⟩
      · have hm' : ¬ (400 : Int) < (L.length : Int) := by omega
        go_wp2_with fail
        go_ret
        exact ⟨by rw [HT.out, if_neg (by rw [← HL.out]; exact hm)]; rfl, hb1⟩
end Go.Proofs.YtkenmldiojeooaaGreat.Ln

namespace Go.Proofs.YtkenmldiojeooaaGreat.Mg
open Um Km Tx Lm Ln
set_option linter.unusedVariables false
def AH : ByteArray := ⟨#[60, 60, 60, 60, 60, 60, 60, 10]⟩
def MI : ByteArray := ⟨#[61, 61, 61, 61, 61, 61, 61, 10]⟩
def BH : ByteArray := ⟨#[62, 62, 62, 62, 62, 62, 62, 10]⟩
def tx (c : Ck ByteArray) : ByteArray := match pick c with
  | some l => cat l
  | none => AH ++ cat (clt c.l) ++ MI ++ cat (clt c.r) ++ BH
def cf (c : Ck ByteArray) : Nat := match pick c with
  | some _ => 0
  | none => 1
def txs (L : List (Ck ByteArray)) : ByteArray := L.foldl (fun s c => s ++ tx c) ⟨#[]⟩
def cfs (L : List (Ck ByteArray)) : Nat := (L.map cf).sum
theorem txs_snoc (L : List (Ck ByteArray)) (c : Ck ByteArray) : txs (L ++ [c]) = txs L ++ tx c := by unfold txs; rw [List.foldl_append]; rfl
theorem cfs_snoc (L : List (Ck ByteArray)) (c : Ck ByteArray) : cfs (L ++ [c]) = cfs L + cf c := by unfold cfs; rw [List.map_append, List.sum_append]; simp
theorem txs_take {L : List (Ck ByteArray)} {k : Nat} {c : Ck ByteArray} (h : L[k]? = some c) : txs (L.take (k + 1)) = txs (L.take k) ++ tx c ∧ cfs (L.take (k + 1)) = cfs (L.take k) + cf c := by
  rw [List.take_add_one, h]
  exact ⟨txs_snoc _ _, cfs_snoc _ _⟩
theorem cat_app (l l2 : List ByteArray) : cat (l ++ l2) = cat l ++ cat l2 := by
  apply ByteArray.ext
  simp [cat, tb]
def pcs3 (s t u : ByteArray) : List (Ck ByteArray) := (pie (lns s) (lns t) (lns u)).reverse
def err3 (s t u : ByteArray) : Nat := if txt s ≠ 0 then txt s else if txt t ≠ 0 then txt t else txt u
theorem cf_flip {c : Ck ByteArray} (h : Same3 c) : cf (flip c) = cf c := by unfold cf; rw [pick_flip h]
theorem cfs_zero {L : List (Ck ByteArray)} (h : cfs L = 0) : ∀ c, c ∈ L → (pick c).isSome = true := by
  intro c hc
  have : cf c = 0 := by
    unfold cfs at h
    exact List.sum_eq_zero_iff_forall_eq_nat.1 h _ (List.mem_map_of_mem hc)
  unfold cf at this
  cases hp : pick c with
  | none => rw [hp] at this; cases this
  | some l => rfl
theorem merge_flip (s t u : ByteArray) : cfs (pcs3 s u t) = cfs (pcs3 s t u) ∧ (cfs (pcs3 s t u) = 0 → txs (pcs3 s u t) = txs (pcs3 s t u)) := by
  have hs := pie_same (lns s) (lns t) (lns u)
  unfold pcs3
  rw [pie_flip (lns s) (lns t) (lns u), ← List.map_reverse]
  obtain ⟨r, hr⟩ : ∃ r, r = (pie (lns s) (lns t) (lns u)).reverse := ⟨_, rfl⟩
  have hs2 : ∀ c, c ∈ r → Same3 c := fun c hc => hs c (List.mem_reverse.1 (by rw [← hr]; exact hc))
  rw [← hr]
  constructor
  · unfold cfs
    rw [List.map_map]
    congr 1
    exact List.map_congr_left fun c hc => cf_flip (hs2 c hc)
  · intro h0
    have hp := cfs_zero h0
    have key : ∀ (L : List (Ck ByteArray)) (z : ByteArray), (∀ c, c ∈ L → Same3 c) → (∀ c, c ∈ L → (pick c).isSome = true) → (L.map flip).foldl (fun s c => s ++ tx c) z = L.foldl (fun s c => s ++ tx c) z := by
      intro L
      induction L with
      | nil => intro z _ _; rfl
      | cons c L ih =>
        intro z h1 h2
        rw [List.map_cons, List.foldl_cons, List.foldl_cons]
        have e : tx (flip c) = tx c := by
          obtain ⟨l, hl⟩ := Option.isSome_iff_exists.1 (h2 c (by simp))
          unfold tx
          rw [pick_flip (h1 c (by simp)), hl]
        rw [e]
        exact ih _ (fun d hd => h1 d (by simp [hd])) (fun d hd => h2 d (by simp [hd]))
    exact key r _ hs2 hp
def letter (c : UInt8) : Bool := decide (97 ≤ c ∧ c ≤ 122)
def toln (s : ByteArray) : ByteArray := tb ((s.data.toList.take 20).filter letter ++ [10])
def told (l : List ByteArray) : List ByteArray := l.map toln
def cb (c : UInt8) (s : ByteArray) : Nat := s.data.toList.count c
end Go.Proofs.YtkenmldiojeooaaGreat.Mg

namespace Go.Proofs.YtkenmldiojeooaaGreat.Mg
open Um Km Tx Lm Ln
set_option linter.unusedVariables false
set_option linter.unusedSectionVars false
abbrev Tr := Nat × Nat × Nat
def tr1 (t : Tr) : Tr := (t.1 + 1, t.2.1 + 1, t.2.2 + 1)
section
variable {α : Type} [DecidableEq α]
theorem trip_step {o a b : List α} {p q : Nat × Nat} {x y : List (Nat × Nat)} {i j k : Nat} (hx : Pth o a (p :: x) i j) (hy : Pth o b (q :: y) i k) :
    (p.1 = q.1 → trip (p :: x) (q :: y) = (p.1, p.2, q.2) :: trip x y) ∧ (p.1 < q.1 → trip (p :: x) (q :: y) = trip x (q :: y)) ∧ (q.1 < p.1 → trip (p :: x) (q :: y) = trip (p :: x) y) := by
  obtain ⟨x1, x2, ⟨xp, xq, xe⟩, x4⟩ := hx
  obtain ⟨y1, y2, ⟨yp, yq, ye⟩, y4⟩ := hy
  have gx : ∀ r, r ∈ x → p.1 < r.1 := fun r hr => by have := (pth_ge x x4 r hr).1; omega
  have gy : ∀ r, r ∈ y → q.1 < r.1 := fun r hr => by have := (pth_ge y y4 r hr).1; omega
  refine ⟨fun h => ?_, fun h => ?_, fun h => ?_⟩
  · rw [trip_cons, filter_one h.symm (fun r hr => by have := gy r hr; omega), trip_drop (fun r hr => by have := gx r hr; omega)]
    rfl
  · rw [trip_cons, filter_none]
    · rfl
    · intro r hr
      rcases List.mem_cons.1 hr with rfl | hr
      · omega
      · have := gy r hr; omega
  · exact trip_drop fun r hr => by
      rcases List.mem_cons.1 hr with rfl | hr
      · omega
      · have := gx r hr; omega
end
theorem trip_none (x : List (Nat × Nat)) : trip x [] = [] := by
  induction x with
  | nil => rfl
  | cons p x ih => rw [trip_cons, ih]; rfl
def jn (R : List (Tr × Tr)) (t : Tr) : List (Tr × Tr) := match R.getLast? with
  | none => R ++ [(t, tr1 t)]
  | some l => if l.2 = t then R.dropLast ++ [(l.1, tr1 t)] else R ++ [(t, tr1 t)]
theorem jn_nil (t : Tr) : jn [] t = [(t, tr1 t)] := rfl
theorem jn_snoc (R : List (Tr × Tr)) (l : Tr × Tr) (t : Tr) : jn (R ++ [l]) t = if l.2 = t then R ++ [(l.1, tr1 t)] else R ++ [l] ++ [(t, tr1 t)] := by
  unfold jn
  rw [List.getLast?_append, List.getLast?_singleton]
  show (if l.2 = t then (R ++ [l]).dropLast ++ [(l.1, tr1 t)] else R ++ [l] ++ [(t, tr1 t)]) = _
  rw [List.dropLast_concat]
theorem jn_len (R : List (Tr × Tr)) (t : Tr) : (jn R t).length ≤ R.length + 1 := by
  rcases List.eq_nil_or_concat R with rfl | ⟨R, l, rfl⟩
  · exact Nat.le_refl _
  · rw [List.concat_eq_append, jn_snoc]
    split <;> simp
section
variable {α : Type} [DecidableEq α]
def lg (o a b : List α) (s : Bool) (f t : Tr) (r : List (Ck α)) : List (Ck α) :=
  if f = t then r else ⟨s, (o.take t.1).drop f.1, (a.take t.2.1).drop f.2.1, (b.take t.2.2).drop f.2.2⟩ :: r
def st1 (o a b : List α) (S : Tr × List (Ck α)) (x : Tr × Tr) : Tr × List (Ck α) := (x.2, lg o a b true x.1 x.2 (lg o a b false S.1 x.1 S.2))
def stR (o a b : List α) (R : List (Tr × Tr)) : Tr × List (Ck α) := R.foldl (st1 o a b) ((0, 0, 0), [])
theorem stR_snoc (o a b : List α) (R : List (Tr × Tr)) (x : Tr × Tr) : stR o a b (R ++ [x]) = st1 o a b (stR o a b R) x := by
  unfold stR
  rw [List.foldl_append]
  rfl
theorem stR_take {o a b : List α} {R : List (Tr × Tr)} {n : Nat} {x : Tr × Tr} (h : R[n]? = some x) : stR o a b (R.take (n + 1)) = st1 o a b (stR o a b (R.take n)) x := by
  rw [List.take_add_one, h]
  exact stR_snoc o a b _ x
theorem lg_gap {o a b : List α} {i j k p q s : Nat} {r : List (Ck α)} (h1 : i ≤ p) (h2 : j ≤ q) (h3 : k ≤ s) : lg o a b false (i, j, k) (p, q, s) r = gapc o a b i j k p q s r := by
  unfold lg gapc
  by_cases h : i < p ∨ j < q ∨ k < s
  · rw [if_pos h, if_neg]
    intro e
    injection e with e1 e
    injection e with e2 e3
    omega
  · rw [if_neg h, if_pos]
    have e1 : i = p := by omega
    have e2 : j = q := by omega
    have e3 : k = s := by omega
    rw [e1, e2, e3]
def Rz : List (Tr × Tr) → Tr → Tr → Prop
  | [], d, e => d.1 ≤ e.1 ∧ d.2.1 ≤ e.2.1 ∧ d.2.2 ≤ e.2.2
  | x :: R, d, e => d.1 ≤ x.1.1 ∧ d.2.1 ≤ x.1.2.1 ∧ d.2.2 ≤ x.1.2.2 ∧ x.1.1 ≤ x.2.1 ∧ x.1.2.1 ≤ x.2.2.1 ∧ x.1.2.2 ≤ x.2.2.2 ∧ Rz R x.2 e
theorem rz_low {R : List (Tr × Tr)} : ∀ {d e : Tr}, Rz R d e → d.1 ≤ e.1 ∧ d.2.1 ≤ e.2.1 ∧ d.2.2 ≤ e.2.2 := by
  induction R with
  | nil => intro d e h; exact h
  | cons x R ih =>
    intro d e h
    obtain ⟨h1, h2, h3, h4, h5, h6, h7⟩ := h
    have := ih h7
    omega
theorem rz_snoc {R : List (Tr × Tr)} {f t : Tr} : ∀ {d e : Tr}, Rz R d e → e.1 ≤ f.1 → e.2.1 ≤ f.2.1 → e.2.2 ≤ f.2.2 → f.1 ≤ t.1 → f.2.1 ≤ t.2.1 → f.2.2 ≤ t.2.2 → Rz (R ++ [(f, t)]) d t := by
  induction R with
  | nil =>
    intro d e h h1 h2 h3 h4 h5 h6
    obtain ⟨g1, g2, g3⟩ := h
    exact ⟨by show d.1 ≤ f.1; omega, by show d.2.1 ≤ f.2.1; omega, by show d.2.2 ≤ f.2.2; omega, h4, h5, h6, Nat.le_refl _, Nat.le_refl _, Nat.le_refl _⟩
  | cons x R ih =>
    intro d e h h1 h2 h3 h4 h5 h6
    obtain ⟨k1, k2, k3, k4, k5, k6, k7⟩ := h
    exact ⟨k1, k2, k3, k4, k5, k6, ih k7 h1 h2 h3 h4 h5 h6⟩
theorem rz_unsnoc {R : List (Tr × Tr)} {x : Tr × Tr} : ∀ {d e : Tr}, Rz (R ++ [x]) d e → ∃ e', Rz R d e' ∧ e'.1 ≤ x.1.1 ∧ e'.2.1 ≤ x.1.2.1 ∧ e'.2.2 ≤ x.1.2.2 ∧ x.1.1 ≤ x.2.1 ∧ x.1.2.1 ≤ x.2.2.1 ∧ x.1.2.2 ≤ x.2.2.2 ∧ x.2.1 ≤ e.1 ∧ x.2.2.1 ≤ e.2.1 ∧ x.2.2.2 ≤ e.2.2 := by
  induction R with
  | nil =>
    intro d e h
    obtain ⟨h1, h2, h3, h4, h5, h6, h7⟩ := h
    exact ⟨d, ⟨Nat.le_refl _, Nat.le_refl _, Nat.le_refl _⟩, h1, h2, h3, h4, h5, h6, h7⟩
  | cons y R ih =>
    intro d e h
    obtain ⟨h1, h2, h3, h4, h5, h6, h7⟩ := h
    obtain ⟨e', k1, k2⟩ := ih h7
    exact ⟨e', ⟨h1, h2, h3, h4, h5, h6, k1⟩, k2⟩
theorem rz_at {o a b : List α} {R : List (Tr × Tr)} : ∀ {d e : Tr}, Rz R d e → ∀ (n : Nat) x, R[n]? = some x → ∀ r0, ((R.take n).foldl (st1 o a b) (d, r0)).1.1 ≤ x.1.1 ∧ ((R.take n).foldl (st1 o a b) (d, r0)).1.2.1 ≤ x.1.2.1 ∧ ((R.take n).foldl (st1 o a b) (d, r0)).1.2.2 ≤ x.1.2.2 ∧ x.1.1 ≤ x.2.1 ∧ x.1.2.1 ≤ x.2.2.1 ∧ x.1.2.2 ≤ x.2.2.2 ∧ x.2.1 ≤ e.1 ∧ x.2.2.1 ≤ e.2.1 ∧ x.2.2.2 ≤ e.2.2 := by
  induction R with
  | nil => intro d e _ n x hx; cases hx
  | cons y R ih =>
    intro d e h n x hx r0
    obtain ⟨h1, h2, h3, h4, h5, h6, h7⟩ := h
    cases n with
    | zero =>
      injection hx with hx
      subst hx
      have := rz_low h7
      exact ⟨h1, h2, h3, h4, h5, h6, this⟩
    | succ n =>
      have := ih h7 n x hx (lg o a b true y.1 y.2 (lg o a b false d y.1 r0))
      exact this
theorem stR_len (o a b : List α) (R : List (Tr × Tr)) : (stR o a b R).2.length ≤ 2 * R.length := by
  have lgl : ∀ s f t (r : List (Ck α)), (lg o a b s f t r).length ≤ r.length + 1 := fun s f t r => by
    unfold lg
    split
    · exact Nat.le_succ _
    · exact Nat.le_refl _
  have key : ∀ (R : List (Tr × Tr)) d r0, (R.foldl (st1 o a b) (d, r0)).2.length ≤ r0.length + 2 * R.length := by
    intro R
    induction R with
    | nil => intro d r0; simp
    | cons x R ih =>
      intro d r0
      rw [List.foldl_cons]
      have h1 := ih x.2 (lg o a b true x.1 x.2 (lg o a b false d x.1 r0))
      have h2 := lgl true x.1 x.2 (lg o a b false d x.1 r0)
      have h3 := lgl false d x.1 r0
      have e : st1 o a b (d, r0) x = (x.2, lg o a b true x.1 x.2 (lg o a b false d x.1 r0)) := rfl
      rw [e, List.length_cons]
      omega
  have := key R (0, 0, 0) []
  unfold stR
  simpa using this
structure Rin (o a b : List α) (R : List (Tr × Tr)) (d : Tr) (r : List (Ck α)) : Prop where
  same : stR o a b R = (d, r)
  rise : Rz R (0, 0, 0) d
  none_ : R = [] → r = []
  last : ∀ x, R.getLast? = some x → x.2 = d ∧ x.1.1 < x.2.1
theorem rin_start (o a b : List α) : Rin o a b [] (0, 0, 0) [] := ⟨rfl, ⟨Nat.le_refl _, Nat.le_refl _, Nat.le_refl _⟩, fun _ => rfl, fun x h => by cases h⟩
theorem cut1 {l : List α} {p : Nat} (h : p < l.length) : (l.take (p + 1)).drop p = [l[p]] := by
  rw [List.take_succ_eq_append_getElem h, List.drop_append_of_le_length (by rw [List.length_take]; omega), List.drop_eq_nil_of_le (by rw [List.length_take]; omega)]
  rfl
theorem cutS {l : List α} {f p : Nat} (hf : f ≤ p) (h : p < l.length) : (l.take (p + 1)).drop f = (l.take p).drop f ++ [l[p]] := by
  rw [List.take_succ_eq_append_getElem h, List.drop_append_of_le_length (by rw [List.length_take]; omega)]
theorem lg_yes {o a b : List α} {s : Bool} {f t : Tr} {r : List (Ck α)} (h : f.1 < t.1) : lg o a b s f t r = ⟨s, (o.take t.1).drop f.1, (a.take t.2.1).drop f.2.1, (b.take t.2.2).drop f.2.2⟩ :: r := by
  unfold lg
  rw [if_neg]
  intro e
  rw [e] at h
  omega
theorem rin_step {o a b : List α} {R : List (Tr × Tr)} {i j k : Nat} {r : List (Ck α)} (h : Rin o a b R (i, j, k) r) (hp : Pcs o a b i j k r) {t : Tr} (h1 : i ≤ t.1) (h2 : j ≤ t.2.1) (h3 : k ≤ t.2.2) (g1 : t.1 < o.length) (g2 : t.2.1 < a.length) (g3 : t.2.2 < b.length) (e1 : o[t.1] = a[t.2.1]) (e2 : o[t.1] = b[t.2.2]) :
    Rin o a b (jn R t) (tr1 t) (stab o[t.1] (gapc o a b i j k t.1 t.2.1 t.2.2 r)) := by
  obtain ⟨p, q, s⟩ := t
  simp only at h1 h2 h3 g1 g2 g3 e1 e2 ⊢
  have new : ∀ R', R' = R ++ [((p, q, s), tr1 (p, q, s))] → (gapc o a b i j k p q s r = r → ∀ c, r.head? = some c → c.st ≠ true) → Rin o a b R' (tr1 (p, q, s)) (stab o[p] (gapc o a b i j k p q s r)) := by
    intro R' hR' hst
    subst hR'
    have hlg : lg o a b true (p, q, s) (tr1 (p, q, s)) (gapc o a b i j k p q s r) = ⟨true, [o[p]], [o[p]], [o[p]]⟩ :: gapc o a b i j k p q s r := by
      rw [lg_yes (by show p < p + 1; omega)]
      show (⟨true, (o.take (p + 1)).drop p, (a.take (q + 1)).drop q, (b.take (s + 1)).drop s⟩ : Ck α) :: _ = _
      rw [cut1 g1, cut1 g2, cut1 g3, ← e1, ← e2]
    have hs : stab o[p] (gapc o a b i j k p q s r) = ⟨true, [o[p]], [o[p]], [o[p]]⟩ :: gapc o a b i j k p q s r := by
      by_cases hg : i < p ∨ j < q ∨ k < s
      · unfold gapc
        rw [if_pos hg, stab, if_neg Bool.false_ne_true]
      · have hg0 : gapc o a b i j k p q s r = r := by unfold gapc; rw [if_neg hg]
        rw [hg0]
        cases r with
        | nil => rfl
        | cons c r => rw [stab, if_neg (hst hg0 c rfl)]
    refine ⟨?_, rz_snoc h.rise h1 h2 h3 (Nat.le_succ _) (Nat.le_succ _) (Nat.le_succ _), fun e => by simp at e, fun x hx => ?_⟩
    · rw [stR_snoc, h.same, hs, ← hlg]
      unfold st1
      rw [lg_gap h1 h2 h3]
    · rw [List.getLast?_append, List.getLast?_singleton] at hx
      injection hx with hx
      subst hx
      exact ⟨rfl, Nat.lt_succ_self _⟩
  rcases List.eq_nil_or_concat R with rfl | ⟨R0, l, rfl⟩
  · obtain rfl := h.none_ rfl
    exact new _ rfl (fun _ c hc => by cases hc)
  · rw [List.concat_eq_append] at h new ⊢
    rw [jn_snoc]
    have hl := h.last l (by rw [List.getLast?_append, List.getLast?_singleton]; rfl)
    obtain ⟨hl1, hl2⟩ := hl
    by_cases he : l.2 = (p, q, s)
    · rw [if_pos he]
      rw [hl1] at he
      injection he with he1 he
      injection he with he2 he3
      subst he1
      subst he2
      subst he3
      have hsm := h.same
      rw [stR_snoc] at hsm
      unfold st1 at hsm
      injection hsm with hs1 hs2
      obtain ⟨f, t⟩ := l
      simp only at hl1 hl2 hs1 hs2
      subst hs1
      rw [lg_yes hl2] at hs2
      obtain ⟨e', k1, k2, k3, k4, k5, k6, k7, k8, k9, k10⟩ := rz_unsnoc h.rise
      simp only at k2 k3 k4 k5 k6 k7 hs2
      have hg0 : gapc o a b i j k i j k r = r := by unfold gapc; rw [if_neg (by omega)]
      rw [hg0]
      have hc := (hp.full _ (by rw [← hs2]; exact List.mem_cons_self ..)).2 rfl
      simp only at hc
      obtain ⟨hc1, hc2⟩ := hc
      refine ⟨?_, rz_snoc k1 k2 k3 k4 (by show f.1 ≤ i + 1; omega) (by show f.2.1 ≤ j + 1; omega) (by show f.2.2 ≤ k + 1; omega), fun e => by simp at e, fun x hx => ?_⟩
      · rw [stR_snoc]
        unfold st1
        rw [← hs2, stab, if_pos rfl, lg_yes (by show f.1 < i + 1; omega)]
        show (tr1 (i, j, k), (⟨true, (o.take (i + 1)).drop f.1, (a.take (j + 1)).drop f.2.1, (b.take (k + 1)).drop f.2.2⟩ : Ck α) :: _) = _
        rw [cutS (by omega) g1, cutS (by omega) g2, cutS (by omega) g3, ← hc1, ← hc2, ← e1, ← e2]
      · rw [List.getLast?_append, List.getLast?_singleton] at hx
        injection hx with hx
        subst hx
        exact ⟨rfl, by show f.1 < i + 1; omega⟩
    · rw [if_neg he]
      refine new _ rfl (fun hg0 c hc => ?_)
      exfalso
      apply he
      rw [hl1]
      unfold gapc at hg0
      by_cases hg : i < p ∨ j < q ∨ k < s
      · rw [if_pos hg] at hg0
        have := congrArg List.length hg0
        rw [List.length_cons] at this
        omega
      · have q1 : i = p := by omega
        have q2 : j = q := by omega
        have q3 : k = s := by omega
        rw [q1, q2, q3]
theorem rin_all {o a b : List α} (T : List Tr) : ∀ {R : List (Tr × Tr)} {i j k : Nat} {r : List (Ck α)}, Rin o a b R (i, j, k) r → Pcs o a b i j k r → Kept1 r → Pt3 o a b T i j k →
    Rz (T.foldl jn R ++ [((o.length, a.length, b.length), (o.length, a.length, b.length))]) (0, 0, 0) (o.length, a.length, b.length) ∧
    (stR o a b (T.foldl jn R ++ [((o.length, a.length, b.length), (o.length, a.length, b.length))])).2 = cks o a b T i j k r := by
  induction T with
  | nil =>
    intro R i j k r h hp hk ht
    obtain ⟨t1, t2, t3⟩ := ht
    refine ⟨rz_snoc h.rise t1 t2 t3 (Nat.le_refl _) (Nat.le_refl _) (Nat.le_refl _), ?_⟩
    rw [stR_snoc]
    show (st1 o a b (stR o a b R) _).2 = gapc o a b i j k o.length a.length b.length r
    rw [h.same, ← lg_gap t1 t2 t3]
    show lg o a b true _ _ _ = _
    unfold lg
    rw [if_pos rfl]
  | cons t T ih =>
    intro R i j k r h hp hk ht
    obtain ⟨h1, h2, h3, ⟨g1, g2, g3, e1, e2⟩, h4⟩ := ht
    rw [cks_cons g1, List.foldl_cons]
    exact ih (rin_step h hp h1 h2 h3 g1 g2 g3 e1 e2) (pcs_stab (pcs_gap hp hk h1 h2 h3 (by omega) (by omega) (by omega)) g1 g2 g3 e1 e2) (kept_stab _ _) h4
def rws (o a b : List α) : List (Tr × Tr) := (trip (pairs 0 0 (steps o a)) (pairs 0 0 (steps o b))).foldl jn []
def ends3 (o a b : List α) : Tr × Tr := ((o.length, a.length, b.length), (o.length, a.length, b.length))
theorem rws_all (o a b : List α) : Rz (rws o a b ++ [ends3 o a b]) (0, 0, 0) (o.length, a.length, b.length) ∧ (stR o a b (rws o a b ++ [ends3 o a b])).2 = pie o a b :=
  rin_all _ (rin_start o a b) (pcs_start o a b) (fun c hc => by cases hc) (pie_pt3 o a b)
theorem foldl_jn_len (T : List Tr) : ∀ R : List (Tr × Tr), (T.foldl jn R).length ≤ R.length + T.length := by
  induction T with
  | nil => intro R; exact Nat.le_refl _
  | cons t T ih =>
    intro R
    rw [List.foldl_cons, List.length_cons]
    have h1 := ih (jn R t)
    have h2 := jn_len R t
    omega
end
end Go.Proofs.YtkenmldiojeooaaGreat.Mg

namespace Go.Proofs.YtkenmldiojeooaaGreat.Tx
open Go.RowKit
set_option linter.unusedVariables false
theorem below_drewN {B : Nat} {a w : World} (h : Below B a w) (n : Nat) : Below B a (w.drewN n) := ⟨h.os, h.tape, h.output, h.size, h.block⟩
end Go.Proofs.YtkenmldiojeooaaGreat.Tx

namespace Go.Proofs.YtkenmldiojeooaaGreat.Aq
open Go.RowKit Tx
set_option linter.unusedVariables false
section
variable {P : Program}
theorem append_two (w : World) (base : Nat) (t ty e : TypeId) (i : TypeInfo) (z : Value) (bytes : Nat) (ht : P.underlying t = some (.slice e)) (hi : P.info? e = some i) (hz : i.zero = some z)
    (hsize : i.size = 1) (hby : i.bytes = bytes) (hzs : z.cells.size = 1)
    (v : Value) (n : Nat) (xs : List Value) (hown : w.ownsRow base e 1 v n xs)
    (a : Addr) (c : Nat) (u : Value) (hu : w.cell? a = some u) (h1 : u.oneCell' = true)
    (hn : n + 1 ≤ 1152921504606846976) (hbytes : (n + 1) * bytes ≤ 140737488355328) (hbase : base ≤ w.heap.size) :
    ∃ v' w', (Builtin.append_ #[t, t] ty #[v, .slice (some a) 1 c]).run P w = .ok v' w' ∧ w'.ownsRow base e 1 v' (n + 1) (xs ++ [u]) ∧
      ((v'.ownBlock = v.ownBlock ∧ w.grownBy w' v.ownBlock) ∨ (v'.ownBlock = some w.heap.size ∧ w.grownBy w' none)) := by
  have hnews : ∀ j x, [u][j]? = some x → w.cell? (a.add j) = some x := by
    intro j x hj
    match j, hj with
    | 0, hj =>
      simp at hj
      subst hj
      simpa [Addr.add] using hu
  have hone : ∀ x ∈ [u], x.oneCell' = true := by intro x hx; simp at hx; subst hx; exact h1
  have hlen : (xs ++ [u]).length = (n + 1) * 1 := by rw [List.length_append, hown.1]; simp
  have made : ∀ old, old < n + 1 → (w.drew.alloc (.cells (xs.toArray ++ [u].toArray ++ Builtin.zeroCells z.cells (grownCap w (n + 1) old e - (n + 1))) e)).ownsRow base e 1 (.slice (some ⟨w.heap.size, 0, none⟩) (n + 1) (grownCap w (n + 1) old e)) (n + 1) (xs ++ [u]) ∧
      w.grownBy (w.drew.alloc (.cells (xs.toArray ++ [u].toArray ++ Builtin.zeroCells z.cells (grownCap w (n + 1) old e - (n + 1))) e)) none := by
    intro old _
    have hge := grownCap_ge w (n + 1) old e
    have hcm := grownCap_le_maxLen w (n + 1) old e (by unfold maxLen; omega)
    refine ⟨⟨hlen, .inr ⟨w.heap.size, _, _, rfl, hbase, heap_alloc_new w.drew _, hge, hcm, ?_, ?_⟩⟩, ⟨rfl, rfl, rfl, by simp, fun k hk _ => Below.heap_alloc w.drew _ k hk⟩⟩
    · have h0 := hown.1
      simp only [Array.size_append, List.size_toArray, size_zeroCells, hzs, List.length_singleton]
      omega
    · simp only [Array.toList_append, List.append_assoc]
      rw [← List.append_assoc]
      exact List.take_left' hlen
  rcases hown.2 with ⟨rfl, rfl⟩ | ⟨g, cap, cur, rfl, hbg, hg, hnc, hcm, hcs, htake⟩
  · have hx : xs = [] := List.eq_nil_of_length_eq_zero (by simpa using hown.1)
    subst hx
    have hr := run_append_nil (P := P) w t ty e i z ht hi hz a 1 c [u] (by rw [hsize]; rfl) hnews (by omega) (by omega) (by rw [hby]; have h2 := hbytes; simp only [Nat.zero_add] at h2; omega)
    have hm := made 0 (by omega)
    simp only [Nat.zero_add, List.nil_append, Array.empty_append] at hm ⊢
    exact ⟨_, _, hr, hm.1, .inr ⟨rfl, hm.2⟩⟩
  · by_cases hroom : n + 1 ≤ cap
    · have hfit : n * i.size + [u].length ≤ cur.size := by rw [hsize, hcs]; simp; omega
      have hr := run_append_room (P := P) w t ty e i ht hi g n cap cur hg a 1 c [u] (by rw [hsize]; rfl) hnews hone hroom hfit
      refine ⟨_, _, hr, ⟨hlen, .inr ⟨g, cap, _, rfl, hbg, setRow_heap w g cur _ e _ hg, hroom, hcm, ?_, ?_⟩⟩, .inl ⟨rfl, ⟨rfl, rfl, rfl, by simp, fun k _ hk => setRow_other w g k _ (fun e => hk (by simp [Value.ownBlock, e]))⟩⟩⟩
      · simp only [List.size_toArray, List.length_append, List.length_take, List.length_drop, Array.length_toList, hsize, List.length_singleton]
        simp only [hsize, List.length_singleton] at hfit
        omega
      · rw [hsize, htake]
        exact List.take_left' hlen
    · have hr := run_append_grow (P := P) w t ty e i z ht hi hz ⟨g, 0, none⟩ n cap xs (by rw [hsize]; exact hown.1) (hown.cells (g := g) rfl) a 1 c [u] (by rw [hsize]; rfl) hnews (by omega) (by omega) (growslice_fits (by omega) (by rw [hby]; exact hbytes))
      have hm := made cap (by omega)
      exact ⟨_, _, hr, hm.1, .inr ⟨rfl, hm.2⟩⟩
end
theorem wpList_append_two {P : Program} (w : World) {ops : Array Oper} {rest : List Oper} {o : Oper} {a : Act} {Q : Exit → Act → World → Prop} (hgd : o.guard = none) (s x : Operand) (t : TypeId)
    (ho : o.op = .call { callee := .builtin .append, args := #[s, x], argTypes := #[t, t] })
    (base : Nat) (e : TypeId) (i : TypeInfo) (z : Value) (bytes : Nat) (ht : P.underlying t = some (.slice e)) (hi : P.info? e = some i) (hz : i.zero = some z)
    (hsize : i.size = 1) (hby : i.bytes = bytes) (hzs : z.cells.size = 1)
    (v : Value) (n : Nat) (xs : List Value) (hs : a.eval s = v) (hown : w.ownsRow base e 1 v n xs)
    (ad : Addr) (c : Nat) (u : Value) (hx : a.eval x = .slice (some ad) 1 c) (hu : w.cell? ad = some u) (h1 : u.oneCell' = true)
    (hn : n + 1 ≤ 1152921504606846976) (hbytes : (n + 1) * bytes ≤ 140737488355328) (hbase : base ≤ w.heap.size)
    (h : ∀ v' w', w'.ownsRow base e 1 v' (n + 1) (xs ++ [u]) → ((v'.ownBlock = v.ownBlock ∧ w.grownBy w' v.ownBlock) ∨ (v'.ownBlock = some w.heap.size ∧ w.grownBy w' none)) → wpList P ops Q rest (a.put o.dst v') w') :
    wpList P ops Q (o :: rest) a w := by
  refine wpList_plain hgd fun K hK => ?_
  obtain ⟨v', w', hr, h2, h3⟩ := append_two (P := P) w base t o.type e i z bytes ht hi hz hsize hby hzs v n xs hown ad c u hu h1 hn hbytes hbase
  unfold Oper.wp execOp
  simp only [ho, resolve, invoke, builtin, Sem.run_bind, Sem.run_pure, Result.andThen_ok, List.map_toArray, List.map_cons, List.map_nil, hs, hx, hr]
  exact hK _ _ (h v' w' h2 h3)
theorem own_frozen {w : World} {base g n cap : Nat} {e : TypeId} {xs : List Value} (h : w.ownsRow base e 1 (.slice (some ⟨g, 0, none⟩) n cap) n xs) (k : Nat) : w.frozen? ⟨g, k, none⟩ = false := by
  rcases h.2 with ⟨h0, _⟩ | ⟨g', cap', cur, hv, _, hh, _⟩
  · cases h0
  · injection hv with hg
    injection hg with hg
    injection hg with hg
    subst hg
    simp [World.frozen?, hh]
theorem own_cell {w : World} {base g n cap : Nat} {e : TypeId} {xs : List Value} (h : w.ownsRow base e 1 (.slice (some ⟨g, 0, none⟩) n cap) n xs) {k : Nat} {u : Value} (hk : xs[k]? = some u) : w.cell? ⟨g, k, none⟩ = some u := by
  have := h.cells (g := g) rfl k u hk
  rwa [WideShapes.add_plain, Nat.zero_add] at this
theorem own_store {w : World} {base g n cap : Nat} {e : TypeId} {xs : List Value} (h : w.ownsRow base e 1 (.slice (some ⟨g, 0, none⟩) n cap) n xs) {k : Nat} (hk : k < n) (u : Value) :
    (w.setCell ⟨g, k, none⟩ u).ownsRow base e 1 (.slice (some ⟨g, 0, none⟩) n cap) n (xs.set k u) := by
  refine ⟨by rw [List.length_set]; exact h.1, ?_⟩
  rcases h.2 with ⟨h0, _⟩ | ⟨g', cap', cur, hv, hb, hh, hn, hc, hs, ht⟩
  · cases h0
  · injection hv with hg _ hcap
    injection hg with hg
    injection hg with hg
    subst hg
    subst hcap
    refine .inr ⟨g, cap, cur.setIfInBounds k u, rfl, hb, ?_, hn, hc, by simpa using hs, ?_⟩
    · simp [World.setCell, Array.getElem?_modify, hh]
    · rw [Array.toList_setIfInBounds, List.take_set, ht]
theorem own_far {w : World} {base n : Nat} {e : TypeId} {v : Value} {xs : List Value} (h : w.ownsRow base e 1 v n xs) {g k : Nat} (hne : v.ownBlock ≠ some g) (u : Value) : (w.setCell ⟨g, k, none⟩ u).ownsRow base e 1 v n xs := by
  have hg : w.grownBy (w.setCell ⟨g, k, none⟩ u) (some g) := ⟨rfl, rfl, rfl, by simp [World.setCell], fun j _ hj => Below.heap_setCell w ⟨g, k, none⟩ u j (fun e => hj (by rw [e]))⟩
  exact h.kept hg (.inr hne)
theorem own_kept {w w1 : World} {base n : Nat} {e : TypeId} {v : Value} {xs : List Value} {row : Option Nat} (h : w.ownsRow base e 1 v n xs) (hg : w.grownBy w1 row) (hne : v.ownBlock ≠ row ∨ row = none) : w1.ownsRow base e 1 v n xs := by
  rcases hne with hne | rfl
  · exact h.kept hg (.inr hne)
  · refine h.kept hg ?_
    cases hv : v.ownBlock
    · exact .inl rfl
    · exact .inr (by simp)
end Go.Proofs.YtkenmldiojeooaaGreat.Aq

namespace Go.Proofs.YtkenmldiojeooaaGreat.Ud
open Go.RowKit Tx Um Aq
set_option linter.unusedVariables false
theorem infoInt : (Tryz.prog.info? 3).map (fun i => (i.zero, i.size, i.bytes)) = some (some (.int .i64 0), 1, 8) := by kernel_rfl
theorem infoInts : (Tryz.prog.info? 153).map (fun i => (i.zero, i.size, i.bytes)) = some (some (.slice none 0 0), 1, 24) := by kernel_rfl
def F (a b : List ByteArray) (i j : Nat) : Nat := lcs (a.drop i) (b.drop j)
theorem F_end (a b : List ByteArray) (j : Nat) : F a b a.length j = 0 := by rw [F, List.drop_length, lcs_nil]
theorem F_end2 (a b : List ByteArray) (i : Nat) : F a b i b.length = 0 := by rw [F, List.drop_length, lcs_nil2]
theorem F_le (a b : List ByteArray) (i j : Nat) : F a b i j ≤ a.length := by
  have := lcs_le_left (a.drop i) (b.drop j)
  rw [List.length_drop] at this
  unfold F
  omega
theorem F_step (a b : List ByteArray) (i j : Nat) (hi : i < a.length) (hj : j < b.length) : F a b i j = if a[i] = b[j] then max (max (F a b i (j + 1)) (F a b (i + 1) j)) (F a b (i + 1) (j + 1) + 1) else max (F a b i (j + 1)) (F a b (i + 1) j) := by
  unfold F
  conv => lhs; rw [List.drop_eq_getElem_cons hi, List.drop_eq_getElem_cons hj, lcs_cons, ← List.drop_eq_getElem_cons hi, ← List.drop_eq_getElem_cons hj]
structure Tab (w : World) (B g : Nat) (r : Nat → Nat) (a b : List ByteArray) (k : Nat) : Prop where
  outer : ∃ xs, w.ownsRow B 153 1 (.slice (some ⟨g, 0, none⟩) (a.length + 1) (a.length + 1)) (a.length + 1) xs
  cell : ∀ i, k ≤ i → i ≤ a.length → w.cell? ⟨g, i, none⟩ = some (.slice (some ⟨r i, 0, none⟩) (b.length + 1) (b.length + 1))
  row : ∀ i, k ≤ i → i ≤ a.length → ∀ j, j ≤ b.length → w.cell? ⟨r i, j, none⟩ = some (.int .i64 (F a b i j : Nat))
  apart : ∀ i, k ≤ i → i ≤ a.length → r i ≠ g ∧ r i < w.heap.size
theorem Tab.glt {w : World} {B g k : Nat} {r : Nat → Nat} {a b : List ByteArray} (h : Tab w B g r a b k) : B ≤ g ∧ g < w.heap.size := by
  obtain ⟨xs, h1⟩ := h.outer
  exact h1.lt g rfl
theorem cell_keep {w w1 : World} {g k : Nat} {u : Value} (h : w.cell? ⟨g, k, none⟩ = some u) (hk : w1.heap[g]? = w.heap[g]?) : w1.cell? ⟨g, k, none⟩ = some u := (World.cell?_of_block (a := ⟨g, k, none⟩) hk).trans h
theorem own_stay {w w1 : World} {base n : Nat} {e : TypeId} {v : Value} {xs : List Value} (h : w.ownsRow base e 1 v n xs) (hk : ∀ q, v.ownBlock = some q → w1.heap[q]? = w.heap[q]?) : w1.ownsRow base e 1 v n xs := by
  refine ⟨h.1, ?_⟩
  rcases h.2 with h0 | ⟨g, cap, cur, rfl, hb, hh, r⟩
  · exact .inl h0
  · exact .inr ⟨g, cap, cur, rfl, hb, (hk g rfl).trans hh, r⟩
theorem Tab.kept {w w1 : World} {B g k : Nat} {r : Nat → Nat} {a b : List ByteArray} (h : Tab w B g r a b k) (hg : w1.heap[g]? = w.heap[g]?) (hr : ∀ i, k ≤ i → i ≤ a.length → w1.heap[r i]? = w.heap[r i]?) (hs : w.heap.size ≤ w1.heap.size) : Tab w1 B g r a b k := by
  obtain ⟨xs, h1⟩ := h.outer
  exact ⟨⟨xs, own_stay h1 (fun q hq => by simp only [Value.ownBlock, Option.some.injEq] at hq; subst hq; exact hg)⟩, fun i h2 h3 => cell_keep (h.cell i h2 h3) hg, fun i h2 h3 j hj => cell_keep (h.row i h2 h3 j hj) (hr i h2 h3), fun i h2 h3 => ⟨(h.apart i h2 h3).1, Nat.lt_of_lt_of_le (h.apart i h2 h3).2 hs⟩⟩
theorem Tab.below {w w1 : World} {B g k : Nat} {r : Nat → Nat} {a b : List ByteArray} (h : Tab w B g r a b k) (hb : Below w.heap.size w w1) : Tab w1 B g r a b k :=
  h.kept (hb.block _ h.glt.2) (fun i h2 h3 => hb.block _ (h.apart i h2 h3).2) hb.size
theorem Tab.store {w : World} {B g k h j : Nat} {r : Nat → Nat} {a b : List ByteArray} (ht : Tab w B g r a b k) (hg : h ≠ g) (hr : ∀ i, k ≤ i → i ≤ a.length → h ≠ r i) (u : Value) : Tab (w.setCell ⟨h, j, none⟩ u) B g r a b k :=
  ht.kept (Below.heap_setCell w ⟨h, j, none⟩ u g (fun e => hg e.symm)) (fun i h2 h3 => Below.heap_setCell w ⟨h, j, none⟩ u (r i) (fun e => hr i h2 h3 e.symm)) (by simp [World.setCell])
theorem Tab.next {w : World} {B g k h : Nat} {r : Nat → Nat} {a b : List ByteArray} {ys : List Value} (ht : Tab w B g r a b (k + 1)) (hk : k ≤ a.length) (hg : h ≠ g) (hr : ∀ i, k + 1 ≤ i → i ≤ a.length → h ≠ r i)
    (hown : w.ownsRow B 3 1 (.slice (some ⟨h, 0, none⟩) (b.length + 1) (b.length + 1)) (b.length + 1) ys) (hys : ∀ j, j ≤ b.length → ys[j]? = some (.int .i64 (F a b k j : Nat))) :
    Tab (w.setCell ⟨g, k, none⟩ (.slice (some ⟨h, 0, none⟩) (b.length + 1) (b.length + 1))) B g (fun i => if i = k then h else r i) a b k := by
  obtain ⟨xs, h1⟩ := ht.outer
  have hh : h < w.heap.size := (hown.lt h rfl).2
  have e1 : ∀ q, q ≠ g → (w.setCell ⟨g, k, none⟩ (.slice (some ⟨h, 0, none⟩) (b.length + 1) (b.length + 1))).heap[q]? = w.heap[q]? := fun q hq => Below.heap_setCell w ⟨g, k, none⟩ _ q hq
  have hst := own_store h1 (show k < a.length + 1 by omega) (.slice (some ⟨h, 0, none⟩) (b.length + 1) (b.length + 1))
  refine ⟨⟨_, hst⟩, fun i h2 h3 => ?_, fun i h2 h3 j hj => ?_, fun i h2 h3 => ?_⟩
  · by_cases e : i = k
    · subst e
      rw [if_pos rfl]
      exact own_cell hst (List.getElem?_set_self (by rw [h1.1]; omega))
    · rw [if_neg e]
      have := ht.cell i (by omega) h3
      rw [World.cell?_setCell_other _ _ _ _ (fun e2 => e (by injection e2 with _ e3; exact e3.symm))]
      exact this
  · by_cases e : i = k
    · subst e
      rw [if_pos rfl]
      exact cell_keep (own_cell hown (hys j hj)) (e1 h hg)
    · rw [if_neg e]
      exact cell_keep (ht.row i (by omega) h3 j hj) (e1 _ (ht.apart i (by omega) h3).1)
  · have hs : (w.setCell ⟨g, k, none⟩ (.slice (some ⟨h, 0, none⟩) (b.length + 1) (b.length + 1))).heap.size = w.heap.size := by simp [World.setCell]
    rw [hs]
    by_cases e : i = k
    · rw [if_pos e]; exact ⟨hg, hh⟩
    · rw [if_neg e]; exact ht.apart i (by omega) h3
theorem made_zero (n : Nat) (z : Value) : (madeCells #[z] n).toList = List.replicate n z := by
  apply List.ext_getElem?
  intro k
  unfold madeCells
  simp only [List.getElem?_replicate]
  by_cases h : k < n
  · rw [if_pos h]
    simp [List.getElem?_range h, Nat.mod_one]
  · rw [if_neg h]
    simp
    omega
theorem Tab.first {w : World} {B g h : Nat} {a b : List ByteArray} {xs : List Value} (hg : h ≠ g) (ho : w.ownsRow B 153 1 (.slice (some ⟨g, 0, none⟩) (a.length + 1) (a.length + 1)) (a.length + 1) xs)
    (hown : w.ownsRow B 3 1 (.slice (some ⟨h, 0, none⟩) (b.length + 1) (b.length + 1)) (b.length + 1) (List.replicate (b.length + 1) (.int .i64 0))) :
    Tab (w.setCell ⟨g, a.length, none⟩ (.slice (some ⟨h, 0, none⟩) (b.length + 1) (b.length + 1))) B g (fun _ => h) a b a.length := by
  have ht : Tab w B g (fun _ => h) a b (a.length + 1) := ⟨⟨xs, ho⟩, fun i h2 h3 => by omega, fun i h2 h3 => by omega, fun i h2 h3 => by omega⟩
  have hn := ht.next (Nat.le_refl _) hg (fun i h2 h3 => by omega) hown (fun j hj => by rw [List.getElem?_replicate, if_pos (by omega), F_end]; rfl)
  have e : (fun i => if i = a.length then h else h) = fun _ : Nat => h := by funext i; split <;> rfl
  rw [e] at hn
  exact hn
def Row (w : World) (B h : Nat) (a b : List ByteArray) (i j : Nat) : Prop := ∃ ys, w.ownsRow B 3 1 (.slice (some ⟨h, 0, none⟩) (b.length + 1) (b.length + 1)) (b.length + 1) ys ∧ ∀ k, j ≤ k → k ≤ b.length → ys[k]? = some (.int .i64 (F a b i k : Nat))
theorem Row.start {w : World} {B h : Nat} {a b : List ByteArray} {i : Nat} (hown : w.ownsRow B 3 1 (.slice (some ⟨h, 0, none⟩) (b.length + 1) (b.length + 1)) (b.length + 1) (List.replicate (b.length + 1) (.int .i64 0))) : Row w B h a b i b.length := by
  refine ⟨_, hown, fun k h1 h2 => ?_⟩
  obtain rfl : k = b.length := by omega
  rw [List.getElem?_replicate, if_pos (by omega), F_end2]
  rfl
theorem Row.cell {w : World} {B h : Nat} {a b : List ByteArray} {i j k : Nat} (hr : Row w B h a b i j) (h1 : j ≤ k) (h2 : k ≤ b.length) : w.cell? ⟨h, k, none⟩ = some (.int .i64 (F a b i k : Nat)) := by
  obtain ⟨ys, h3, h4⟩ := hr
  exact own_cell h3 (h4 k h1 h2)
theorem Row.any {w : World} {B h : Nat} {a b : List ByteArray} {i j k : Nat} (hr : Row w B h a b i j) (h2 : k ≤ b.length) : (∃ u, w.cell? ⟨h, k, none⟩ = some u) ∧ w.frozen? ⟨h, k, none⟩ = false := by
  obtain ⟨ys, h3, h4⟩ := hr
  have : k < ys.length := by rw [h3.1]; omega
  exact ⟨⟨ys[k], own_cell h3 (List.getElem?_eq_getElem this)⟩, own_frozen h3 k⟩
theorem Row.store {w : World} {B h : Nat} {a b : List ByteArray} {i j k : Nat} (hr : Row w B h a b i j) (hk : k < j) (h2 : k ≤ b.length) (u : Value) : Row (w.setCell ⟨h, k, none⟩ u) B h a b i j := by
  obtain ⟨ys, h3, h4⟩ := hr
  refine ⟨_, own_store h3 (show k < b.length + 1 by omega) u, fun q h5 h6 => ?_⟩
  rw [List.getElem?_set_ne (by omega)]
  exact h4 q h5 h6
theorem Row.done {w : World} {B h : Nat} {a b : List ByteArray} {i j : Nat} (hr : Row w B h a b i (j + 1)) (h2 : j ≤ b.length) (hc : w.cell? ⟨h, j, none⟩ = some (.int .i64 (F a b i j : Nat))) : Row w B h a b i j := by
  obtain ⟨ys, h3, h4⟩ := hr
  refine ⟨ys, h3, fun k h5 h6 => ?_⟩
  by_cases e : k = j
  · subst e
    have hk : k < ys.length := by rw [h3.1]; omega
    have := own_cell h3 (List.getElem?_eq_getElem hk)
    rw [hc] at this
    injection this with this
    rw [List.getElem?_eq_getElem hk, this]
  · exact h4 k (by omega) h6
theorem Row.lt {w : World} {B h : Nat} {a b : List ByteArray} {i j : Nat} (hr : Row w B h a b i j) : B ≤ h ∧ h < w.heap.size := by
  obtain ⟨ys, h3, h4⟩ := hr
  exact h3.lt h rfl
theorem Row.drew {w : World} {B h : Nat} {a b : List ByteArray} {i j : Nat} (hr : Row w B h a b i j) (n : Nat) : Row (w.drewN n) B h a b i j := hr
theorem Tab.drew {w : World} {B g k : Nat} {r : Nat → Nat} {a b : List ByteArray} (h : Tab w B g r a b k) (n : Nat) : Tab (w.drewN n) B g r a b k := ⟨h.outer, h.cell, h.row, h.apart⟩
theorem Row.drew1 {w : World} {B h : Nat} {a b : List ByteArray} {i j : Nat} (hr : Row w B h a b i j) : Row w.drew B h a b i j := hr
theorem Tab.drew1 {w : World} {B g k : Nat} {r : Nat → Nat} {a b : List ByteArray} (h : Tab w B g r a b k) : Tab w.drew B g r a b k := ⟨h.outer, h.cell, h.row, h.apart⟩
end Go.Proofs.YtkenmldiojeooaaGreat.Ud

namespace Go.Proofs.YtkenmldiojeooaaGreat.Ud
open Go.RowKit Tx Um Aq
set_option linter.unusedVariables false
def TableTo (a b : List ByteArray) (w : World) (e : Ending) (w' : World) : Prop := ∃ g r, e = .returned (.slice (some ⟨g, 0, none⟩) (a.length + 1) (a.length + 1)) ∧ Tab w' w.heap.size g r a b 0 ∧ Below w.heap.size w w'
theorem strs_cell {w w1 : World} {A : Option Addr} {l : List ByteArray} {k : Nat} (h : Strs w A l.length l) (hk : k < l.length) (hb : Below w.heap.size w w1) : ∃ b off, A = some ⟨b, off, none⟩ ∧ w1.cell? ⟨b, off + k, none⟩ = some (.string (l[k]'hk)) := by
  obtain ⟨b, off, ha, hlt, hc⟩ := h.2.resolve_left (by omega)
  exact ⟨b, off, ha, (hb.cell (p := ⟨b, off + k, none⟩) hlt).trans (hc k _ (List.getElem?_eq_getElem hk))⟩
set_option maxRecDepth 100000 in
set_option maxHeartbeats 8000000 in
theorem table_any (A B : Option Addr) (ca cb : Nat) (a b : List ByteArray) (w : World) (hm4 : a.length ≤ 400) (hn4 : b.length ≤ 400) (hA : Strs w A a.length a) (hB : Strs w B b.length b) :
    Calls Tryz.prog 135 #[.slice A a.length ca, .slice B b.length cb] w (TableTo a b w) := by
  obtain ⟨iI, hI, hI0, hI1, hI2⟩ := info_parts infoInt
  obtain ⟨iS, hS, hS0, hS1, hS2⟩ := info_parts infoInts
  have HAS := Lib.hid hA
  have HBS := Lib.hid hB
  clear hA hB
  obtain ⟨m, hm⟩ : ∃ m, m = a.length := ⟨_, rfl⟩
  obtain ⟨n, hn⟩ : ∃ n, n = b.length := ⟨_, rfl⟩
  rw [← hm] at hm4 ⊢
  rw [← hn] at hn4 ⊢
  have HM := Lib.hid hm
  have HN := Lib.hid hn
  clear hm hn
  go_enter Tryz.func135, Tryz.ntmps135
  go_wp2_with (at_make; refine wpList_make_full _ rfl _ _ _ rfl w.heap.size 153 iS (.slice none 0 0) 1 Tryz.underlying163 hS hS0 hS1 _ _ _ _ (m + 1) rfl rfl rfl rfl (by rw [hS2]; omega) (by unfold maxLen; omega) (Nat.le_refl _) ?_)
  intro w1 hown1 hgrow1
  have hB1 : Below w.heap.size w w1 := (Below.refl _ w).grown hgrow1 (Nat.le_refl _) (fun k hk => by cases hk)
  have hsz1 := hB1.size
  obtain ⟨B0, hB0⟩ : ∃ B0, B0 = w.heap.size := ⟨_, rfl⟩
  obtain ⟨g, hg⟩ : ∃ g, g = w.heap.size := ⟨_, rfl⟩
  have hglt : g < w1.heap.size := by rw [hg]; exact (hown1.lt _ rfl).2
  rw [← hg] at hown1 ⊢
  have hgB : B0 ≤ g := by omega
  have hown1 : w1.ownsRow B0 153 1 (.slice (some ⟨g, 0, none⟩) (m + 1) (m + 1)) (m + 1) (madeCells #[.slice none 0 0] (m + 1)).toList := by rw [hB0, ← hg]; exact hown1
  rw [made_zero] at hown1
  rw [← hB0] at hsz1 hB1
  have HB0 := Lib.hid hB0
  clear hg hgrow1 hB0
  go_wp2_with (at_make; refine wpList_make_full _ rfl _ _ _ rfl B0 3 iI (.int .i64 0) 1 Tryz.underlying153 hI hI0 hI1 _ _ _ _ (n + 1) rfl rfl rfl rfl (by rw [hI2]; omega) (by unfold maxLen; omega) hsz1 ?_)
  intro w2 hown2 hgrow2
  have hB2 : Below B0 w w2 := hB1.grown hgrow2 hsz1 (fun k hk => by cases hk)
  have ho1 : w2.ownsRow B0 153 1 (.slice (some ⟨g, 0, none⟩) (m + 1) (m + 1)) (m + 1) (List.replicate (m + 1) (.slice none 0 0)) := own_stay hown1 (fun q hq => by simp only [Value.ownBlock, Option.some.injEq] at hq; subst hq; exact hgrow2.block _ hglt (by simp))
  obtain ⟨h, hh⟩ : ∃ h, h = w1.heap.size := ⟨_, rfl⟩
  rw [← hh] at hown2 ⊢
  have hne : h ≠ g := by omega
  have ho2 : w2.ownsRow B0 3 1 (.slice (some ⟨h, 0, none⟩) (n + 1) (n + 1)) (n + 1) (List.replicate (n + 1) (.int .i64 0)) := by rw [← made_zero]; simpa using hown2
  have hfz := own_frozen ho1 m
  have hst := own_cell ho1 (k := m) (u := .slice none 0 0) (by rw [List.getElem?_replicate, if_pos (by omega)])
  have HT : Hid (Tab (w2.setCell ⟨g, m, none⟩ (.slice (some ⟨h, 0, none⟩) (n + 1) (n + 1))) B0 g (fun _ => h) a b m) := by
    show Tab _ _ _ _ _ _ _
    rw [HM.out, HN.out] at *
    exact Tab.first hne ho1 ho2
  have hB3 : Below B0 w (w2.setCell ⟨g, m, none⟩ (.slice (some ⟨h, 0, none⟩) (n + 1) (n + 1))) := hB2.setCell (p := ⟨g, m, none⟩) hgB _
  have e1 : (m : Int) < (m : Int) + 1 := by omega
  clear hown1 hown2 ho1 ho2 hgrow2 hh hB1 hB2 hglt hsz1
  go_wp2_with fail
  go_loopw [6, 7, 8] (fun i _ _ wr => ∃ (k : Nat) (r : Nat → Nat), i = .int .i64 ((k : Int) - 1) ∧ k ≤ m ∧ Hid (Tab wr B0 g r a b k) ∧ Below B0 w wr) (fun i _ _ _ => (intOf i + 1).toNat)
  case atStart => exact ⟨m, _, rfl, Nat.le_refl _, HT, hB3⟩
  case round =>
    obtain ⟨k, r, rfl, hk, hT, hb⟩ := hrel
    clear HT hB3 hfz hst
    rcases k with _ | q
    · have e2 : ¬ (0 : Int) ≤ ((0 : Nat) : Int) - 1 := by omega
      go_wp2_with fail
      go_ret
      unfold TableTo
      rw [← HB0.out, ← HM.out]
      exact ⟨g, r, rfl, hT.out, hb⟩
    · rw [show (((q + 1 : Nat) : Int) - 1) = (q : Int) by omega]
      have hsz := hb.size
      have hszB : B0 ≤ wr.heap.size := by have := HB0.out; omega
      go_wp2_with (at_make; refine wpList_make_full _ rfl _ _ _ rfl B0 3 iI (.int .i64 0) 1 Tryz.underlying153 hI hI0 hI1 _ _ _ _ (n + 1) rfl rfl rfl rfl (by rw [hI2]; omega) (by unfold maxLen; omega) hszB ?_)
      intro w3 hown3 hgrow3
      have hb3 : Below B0 w w3 := hb.grown hgrow3 hszB (fun k hk => by cases hk)
      have hbr : Below wr.heap.size wr w3 := (Below.refl _ wr).grown hgrow3 (Nat.le_refl _) (fun k hk => by cases hk)
      have hT3 := Lib.hid (hT.out.below hbr)
      have hap : Hid (∀ i, q + 1 ≤ i → i ≤ a.length → wr.heap.size ≠ r i) := fun i h2 h3 => by have := (hT.out.apart i h2 h3).2; omega
      have hag : wr.heap.size ≠ g := by have := hT.out.glt.2; omega
      obtain ⟨h, hh⟩ : ∃ h, h = wr.heap.size := ⟨_, rfl⟩
      rw [← hh] at hown3 hap hag ⊢
      have hhB : B0 ≤ h := by omega
      have ho3 : w3.ownsRow B0 3 1 (.slice (some ⟨h, 0, none⟩) (n + 1) (n + 1)) (n + 1) (List.replicate (n + 1) (.int .i64 0)) := by rw [← made_zero]; simpa using hown3
      have hR3 : Hid (Row w3 B0 h a b q n) := by
        show Row _ _ _ _ _ _ _
        rw [HN.out] at *
        exact Row.start ho3
      clear hown3 hgrow3 hbr hT ho3 hb hsz hszB hh
      go_wp2_with fail
      go_loopw [8] (fun j wx => ∃ k : Nat, j = .int .i64 ((k : Int) - 1) ∧ k ≤ n ∧ Hid (Tab wx B0 g r a b (q + 1)) ∧ Hid (Row wx B0 h a b q k) ∧ Below B0 w wx) (fun j _ => (intOf j + 1).toNat)
      case atStart => exact ⟨n, rfl, Nat.le_refl _, hT3, hR3, hb3⟩
      case round =>
        obtain ⟨k, rfl, hkn, hT, hR, hb⟩ := hrel
        clear hT3 hR3 hb3
        rcases k with _ | p
        · have e2 : ¬ (0 : Int) ≤ ((0 : Nat) : Int) - 1 := by omega
          obtain ⟨ys, ho, hys⟩ := hR.out
          have hT4 : Hid (Tab (wr.setCell ⟨g, q, none⟩ (.slice (some ⟨h, 0, none⟩) (n + 1) (n + 1))) B0 g (fun i => if i = q then h else r i) a b q) := by
            show Tab _ _ _ _ _ _ _
            rw [HN.out]
            exact hT.out.next (by rw [← HM.out]; omega) hag hap.out ho (fun j hj => hys j (Nat.zero_le _) hj)
          obtain ⟨xs, hx⟩ := hT.out.outer
          have hfz := own_frozen hx q
          have hst := own_cell hx (List.getElem?_eq_getElem (show q < xs.length by rw [hx.1, ← HM.out]; omega))
          obtain ⟨old, hold⟩ : ∃ old, old = xs[q]'(by rw [hx.1, ← HM.out]; omega) := ⟨_, rfl⟩
          rw [← hold] at hst
          have hqm : (q : Int) < (m : Int) + 1 := by omega
          have hb5 : Below B0 w (wr.setCell ⟨g, q, none⟩ (.slice (some ⟨h, 0, none⟩) (n + 1) (n + 1))) := hb.setCell (p := ⟨g, q, none⟩) hgB _
          clear hx ho hys hR hT hold hb
          go_wp2_with fail
          go_roundw
          case rel => exact ⟨q, _, by go_num, by omega, hT4, hb5⟩
          case measure => simp [intOf]; try omega
        · rw [show (((p + 1 : Nat) : Int) - 1) = (p : Int) by omega]
          have cR := hR.out.cell (k := p + 1) (Nat.le_refl _) (by rw [← HN.out]; omega)
          obtain ⟨⟨old, hst⟩, hfz⟩ := hR.out.any (k := p) (by rw [← HN.out]; omega)
          have c1 := hT.out.cell (q + 1) (Nat.le_refl _) (by rw [← HM.out]; omega)
          have c2 := hT.out.row (q + 1) (Nat.le_refl _) (by rw [← HM.out]; omega) p (by rw [← HN.out]; omega)
          have c3 := hT.out.row (q + 1) (Nat.le_refl _) (by rw [← HM.out]; omega) (p + 1) (by rw [← HN.out]; omega)
          have hrne := hap.out (q + 1) (Nat.le_refl _) (by rw [← HM.out]; omega)
          have hstep := F_step a b q p (by rw [← HM.out]; omega) (by rw [← HN.out]; omega)
          have hP4 := F_le a b q (p + 1)
          have hQ4 := F_le a b (q + 1) p
          have hD4 := F_le a b (q + 1) (p + 1)
          obtain ⟨ba, oa, hAe, ca1⟩ := strs_cell (k := q) HAS.out (by rw [← HM.out]; omega) (by rw [← HB0.out]; exact hb)
          obtain ⟨bb, ob, hBe, cb1⟩ := strs_cell (k := p) HBS.out (by rw [← HN.out]; omega) (by rw [← HB0.out]; exact hb)
          have hba : ba < w.heap.size := by
            obtain ⟨b', o', ha', hlt', _⟩ := HAS.out.2.resolve_left (by rw [← HM.out]; omega)
            rw [hAe] at ha'
            injection ha' with ha'
            injection ha' with ha'
            rw [ha']
            exact hlt'
          have hbb : bb < w.heap.size := by
            obtain ⟨b', o', ha', hlt', _⟩ := HBS.out.2.resolve_left (by rw [← HN.out]; omega)
            rw [hBe] at ha'
            injection ha' with ha'
            injection ha' with ha'
            rw [ha']
            exact hlt'
          rw [← HB0.out] at hba hbb
          rw [hAe, hBe]
          obtain ⟨P, hP⟩ : ∃ P, P = F a b q (p + 1) := ⟨_, rfl⟩
          obtain ⟨Q, hQ⟩ : ∃ Q, Q = F a b (q + 1) p := ⟨_, rfl⟩
          obtain ⟨E, hE⟩ : ∃ E, E = F a b (q + 1) (p + 1) := ⟨_, rfl⟩
          obtain ⟨Z, hZ⟩ : ∃ Z, Z = F a b q p := ⟨_, rfl⟩
          obtain ⟨rq, hrq⟩ : ∃ rq, rq = r (q + 1) := ⟨_, rfl⟩
          obtain ⟨S, hS⟩ : ∃ S, S = a[q]'(by rw [← HM.out]; omega) := ⟨_, rfl⟩
          obtain ⟨T, hT0⟩ : ∃ T, T = b[p]'(by rw [← HN.out]; omega) := ⟨_, rfl⟩
          rw [← hP] at cR hstep hP4
          rw [← hQ] at c2 hstep hQ4
          rw [← hE] at c3 hstep hD4
          rw [← hZ] at hstep
          rw [← HM.out] at hP4 hQ4 hD4
          rw [← hS] at ca1 hstep
          rw [← hT0] at cb1 hstep
          rw [← hrq] at c1 c2 c3 hrne
          rw [← HN.out] at c1
          have HZ := Lib.hid hZ
          clear hP hQ hE hZ hS hT0 hrq
          have f1 : (p : Int) + 1 < (n : Int) + 1 := by omega
          have f2 : (p : Int) < (n : Int) + 1 := by omega
          have f3 : (q : Int) + 1 < (m : Int) + 1 := by omega
          have f4 : (q : Int) < (m : Int) := by omega
          have f5 : (p : Int) < (n : Int) := by omega
          -- behind the first store
          have k1 : (wr.setCell ⟨h, p, none⟩ (.int .i64 P)).cell? ⟨g, q + 1, none⟩ = some (.slice (some ⟨rq, 0, none⟩) (n + 1) (n + 1)) := (World.cell?_setCell_other _ _ _ _ (fun e => hag (by injection e))).trans c1
          have k2 : (wr.setCell ⟨h, p, none⟩ (.int .i64 P)).cell? ⟨rq, p, none⟩ = some (.int .i64 Q) := (World.cell?_setCell_other _ _ _ _ (fun e => hrne (by injection e))).trans c2
          have k3 : (wr.setCell ⟨h, p, none⟩ (.int .i64 P)).cell? ⟨rq, p + 1, none⟩ = some (.int .i64 E) := (World.cell?_setCell_other _ _ _ _ (fun e => hrne (by injection e))).trans c3
          have k4 : (wr.setCell ⟨h, p, none⟩ (.int .i64 P)).cell? ⟨h, p, none⟩ = some (.int .i64 P) := World.cell?_setCell_same wr _ _ hst
          have k5 : (wr.setCell ⟨h, p, none⟩ (.int .i64 P)).cell? ⟨ba, oa + q, none⟩ = some (.string S) := (World.cell?_setCell_other _ _ _ _ (fun e => by injection e; omega)).trans ca1
          have k6 : (wr.setCell ⟨h, p, none⟩ (.int .i64 P)).cell? ⟨bb, ob + p, none⟩ = some (.string T) := (World.cell?_setCell_other _ _ _ _ (fun e => by injection e; omega)).trans cb1
          have hT1 := Lib.hid (hT.out.store (j := p) hag hap.out (.int .i64 P))
          have hR1 := Lib.hid (hR.out.store (Nat.lt_succ_self p) (by rw [← HN.out]; omega) (.int .i64 P))
          have hb1 : Below B0 w (wr.setCell ⟨h, p, none⟩ (.int .i64 P)) := hb.setCell (p := ⟨h, p, none⟩) hhB _
          clear hT hR
          go_wp2_with fail
          generalize wr.setCell ⟨h, p, none⟩ (.int .i64 P) = W1 at k1 k2 k3 k4 k5 k6 hT1 hR1 hb1 ⊢
          clear hst hfz cR c1 c2 c3 ca1 cb1 hb
          obtain ⟨_, hfz1⟩ := hR1.out.any (k := p) (by rw [← HN.out]; omega)
          have wq : IntKind.i64.wrap ((q : Int) + 1) = (q : Int) + 1 := IntWalk.i64_in _ (by omega)
          have wp : IntKind.i64.wrap ((p : Int) + 1) = (p : Int) + 1 := IntWalk.i64_in _ (by omega)
          have wE : IntKind.i64.wrap ((E : Int) + 1) = (E : Int) + 1 := IntWalk.i64_in _ (by omega)
          have nq : ((q : Int) + 1).toNat = q + 1 := by omega
          have np : ((p : Int) + 1).toNat = p + 1 := by omega
          have zq : (0 : Int) ≤ (q : Int) + 1 := by omega
          have zp : (0 : Int) ≤ (p : Int) + 1 := by omega
          by_cases hPQ : P < Q
          · have g1 : (P : Int) < (Q : Int) := by omega
            go_region
            go_wp2_with fail
            have k1' : (W1.setCell ⟨h, p, none⟩ (.int .i64 Q)).cell? ⟨g, q + 1, none⟩ = some (.slice (some ⟨rq, 0, none⟩) (n + 1) (n + 1)) := (World.cell?_setCell_other _ _ _ _ (fun e => hag (by injection e))).trans k1
            have k2' : (W1.setCell ⟨h, p, none⟩ (.int .i64 Q)).cell? ⟨rq, p, none⟩ = some (.int .i64 Q) := (World.cell?_setCell_other _ _ _ _ (fun e => hrne (by injection e))).trans k2
            have k3' : (W1.setCell ⟨h, p, none⟩ (.int .i64 Q)).cell? ⟨rq, p + 1, none⟩ = some (.int .i64 E) := (World.cell?_setCell_other _ _ _ _ (fun e => hrne (by injection e))).trans k3
            have k4' : (W1.setCell ⟨h, p, none⟩ (.int .i64 Q)).cell? ⟨h, p, none⟩ = some (.int .i64 Q) := World.cell?_setCell_same W1 _ _ k4
            have k5' : (W1.setCell ⟨h, p, none⟩ (.int .i64 Q)).cell? ⟨ba, oa + q, none⟩ = some (.string S) := (World.cell?_setCell_other _ _ _ _ (fun e => by injection e; omega)).trans k5
            have k6' : (W1.setCell ⟨h, p, none⟩ (.int .i64 Q)).cell? ⟨bb, ob + p, none⟩ = some (.string T) := (World.cell?_setCell_other _ _ _ _ (fun e => by injection e; omega)).trans k6
            have hT2 := Lib.hid (hT1.out.store (j := p) hag hap.out (.int .i64 Q))
            have hR2 := Lib.hid (hR1.out.store (Nat.lt_succ_self p) (by rw [← HN.out]; omega) (.int .i64 Q))
            have hb2 : Below B0 w (W1.setCell ⟨h, p, none⟩ (.int .i64 Q)) := hb1.setCell (p := ⟨h, p, none⟩) hhB _
            clear hT1 hR1 hb1 k1 k2 k3 k4 k5 k6 hfz1
            generalize W1.setCell ⟨h, p, none⟩ (.int .i64 Q) = W2 at *
            have k4 := k4'
            obtain ⟨_, hfz2⟩ := hR2.out.any (k := p) (by rw [← HN.out]; omega)
            by_cases he : S = T
            · have e3 : (S.toList == T.toList) = true := by rw [he]; exact beq_self_eq_true _
              rw [if_pos he] at hstep
              clear he
              by_cases hx : Q < E + 1
              · have g2 : (Q : Int) < (E : Int) + 1 := by omega
                have hz : Z = E + 1 := by omega
                clear hstep
                go_region
                go_wp2_with fail
                go_roundw
                case rel => exact ⟨p, by go_num, by omega, Lib.hid (hT2.out.store hag hap.out _).drew1.drew1, Lib.hid (Row.drew1 (Row.drew1 ((hR2.out.store (Nat.lt_succ_self p) (by rw [← HN.out]; omega) _).done (by rw [← HN.out]; omega) (by rw [← HZ.out, show ((Z : Nat) : Int) = (E : Int) + 1 by omega]; exact World.cell?_setCell_same _ _ _ k4)))), (hb2.setCell (p := ⟨h, p, none⟩) hhB _).drew.drew⟩
                case measure => simp [intOf]; try omega
              · have g2 : ¬ (Q : Int) < (E : Int) + 1 := by omega
                have hz : Z = Q := by omega
                clear hstep
                go_region
                go_wp2_with fail
                go_roundw
                case rel => exact ⟨p, by go_num, by omega, Lib.hid hT2.out.drew1.drew1, Lib.hid (Row.drew1 (Row.drew1 (hR2.out.done (by rw [← HN.out]; omega) (by rw [← HZ.out, hz]; exact k4)))), hb2.drew.drew⟩
                case measure => simp [intOf]; try omega
            · have e3 : (S.toList == T.toList) = false := bytes_ne he
              rw [if_neg he] at hstep
              have hz : Z = Q := by omega
              clear hstep he
              go_region
              go_wp2_with fail
              go_roundw
              case rel => exact ⟨p, by go_num, by omega, Lib.hid hT2.out.drew1.drew1, Lib.hid (Row.drew1 (Row.drew1 (hR2.out.done (by rw [← HN.out]; omega) (by rw [← HZ.out, hz]; exact k4)))), hb2.drew.drew⟩
              case measure => simp [intOf]; try omega
          · have g1 : ¬ (P : Int) < (Q : Int) := by omega
            go_region
            go_wp2_with fail
            have hT2 := hT1
            have hR2 := hR1
            have hb2 := hb1
            clear hT1 hR1 hb1 hfz1
            obtain ⟨_, hfz2⟩ := hR2.out.any (k := p) (by rw [← HN.out]; omega)
            by_cases he : S = T
            · have e3 : (S.toList == T.toList) = true := by rw [he]; exact beq_self_eq_true _
              rw [if_pos he] at hstep
              clear he
              by_cases hx : P < E + 1
              · have g2 : (P : Int) < (E : Int) + 1 := by omega
                have hz : Z = E + 1 := by omega
                clear hstep
                go_region
                go_wp2_with fail
                go_roundw
                case rel => exact ⟨p, by go_num, by omega, Lib.hid (hT2.out.store hag hap.out _).drew1.drew1, Lib.hid (Row.drew1 (Row.drew1 ((hR2.out.store (Nat.lt_succ_self p) (by rw [← HN.out]; omega) _).done (by rw [← HN.out]; omega) (by rw [← HZ.out, show ((Z : Nat) : Int) = (E : Int) + 1 by omega]; exact World.cell?_setCell_same _ _ _ k4)))), (hb2.setCell (p := ⟨h, p, none⟩) hhB _).drew.drew⟩
                case measure => simp [intOf]; try omega
              · have g2 : ¬ (P : Int) < (E : Int) + 1 := by omega
                have hz : Z = P := by omega
                clear hstep
                go_region
                go_wp2_with fail
                go_roundw
                case rel => exact ⟨p, by go_num, by omega, Lib.hid hT2.out.drew1.drew1, Lib.hid (Row.drew1 (Row.drew1 (hR2.out.done (by rw [← HN.out]; omega) (by rw [← HZ.out, hz]; exact k4)))), hb2.drew.drew⟩
                case measure => simp [intOf]; try omega
            · have e3 : (S.toList == T.toList) = false := bytes_ne he
              rw [if_neg he] at hstep
              have hz : Z = P := by omega
              clear hstep he
              go_region
              go_wp2_with fail
              go_roundw
              case rel => exact ⟨p, by go_num, by omega, Lib.hid hT2.out.drew1.drew1, Lib.hid (Row.drew1 (Row.drew1 (hR2.out.done (by rw [← HN.out]; omega) (by rw [← HZ.out, hz]; exact k4)))), hb2.drew.drew⟩
              case measure => simp [intOf]; try omega
end Go.Proofs.YtkenmldiojeooaaGreat.Ud

namespace Go.Proofs.YtkenmldiojeooaaGreat.Ud
open Go.RowKit Tx Um Aq
set_option linter.unusedVariables false
def iv (n : Nat) : Value := .int .i64 (n : Int)
theorem iv_one (l : List Nat) : ∀ u ∈ l.map iv, u.oneCell' = true := by
  intro u hu
  obtain ⟨s, _, rfl⟩ := List.mem_map.1 hu
  rfl
def Ints (w : World) (B : Nat) (v : Value) (l : List Nat) : Prop := w.ownsRow B 3 1 v l.length (l.map iv)
theorem Ints.below {w w1 : World} {B : Nat} {v : Value} {l : List Nat} (h : Ints w B v l) (hb : Below w.heap.size w w1) : Ints w1 B v l := by
  refine ⟨h.1, ?_⟩
  rcases h.2 with h0 | ⟨g', cap', cur, hv, hg, hh, r⟩
  · exact .inl h0
  · exact .inr ⟨g', cap', cur, hv, hg, (hb.block g' (Array.getElem?_eq_some_iff.1 hh).1).trans hh, r⟩
theorem own_base {w : World} {B B2 n : Nat} {e : TypeId} {s : Nat} {v : Value} {xs : List Value} (h : w.ownsRow B e s v n xs) (hB : B2 ≤ B) : w.ownsRow B2 e s v n xs := by
  refine ⟨h.1, ?_⟩
  rcases h.2 with h0 | ⟨g, cap, cur, hv, hg, r⟩
  · exact .inl h0
  · exact .inr ⟨g, cap, cur, hv, by omega, r⟩
def IntsTo (l : List Nat) (w : World) (e : Ending) (w' : World) : Prop := ∃ v, e = .returned v ∧ Ints w' w.heap.size v l ∧ Below w.heap.size w w'
def St (a b : List ByteArray) (pre : List Nat) (i j : Nat) : Prop := i ≤ a.length ∧ j ≤ b.length ∧ steps a b = pre ++ steps (a.drop i) (b.drop j) ∧ pre.length ≤ i + j
theorem st_start (a b : List ByteArray) : St a b [] 0 0 := ⟨Nat.zero_le _, Nat.zero_le _, rfl, Nat.zero_le _⟩
theorem st_keep {a b : List ByteArray} {pre : List Nat} {i j : Nat} (h : St a b pre i j) (hi : i < a.length) (hj : j < b.length) (he : a[i] = b[j]) : St a b (pre ++ [0]) (i + 1) (j + 1) := by
  obtain ⟨h1, h2, h3, h4⟩ := h
  refine ⟨hi, hj, ?_, by simp; omega⟩
  rw [h3, List.drop_eq_getElem_cons hi, List.drop_eq_getElem_cons hj, steps_cons, if_pos he]
  simp
theorem st_drop {a b : List ByteArray} {pre : List Nat} {i j : Nat} (h : St a b pre i j) (hi : i < a.length) (hj : j = b.length ∨ ∃ hj : j < b.length, a[i] ≠ b[j] ∧ ¬ F a b (i + 1) j < F a b i (j + 1)) : St a b (pre ++ [1]) (i + 1) j := by
  obtain ⟨h1, h2, h3, h4⟩ := h
  refine ⟨hi, h2, ?_, by simp; omega⟩
  rw [h3]
  rcases hj with rfl | ⟨hj, h5, h6⟩
  · rw [List.drop_length, List.drop_eq_getElem_cons hi, steps_drop]
    simp
  · unfold F at h6
    have e : lcs (a.drop (i + 1)) (b[j] :: b.drop (j + 1)) = lcs (a.drop (i + 1)) (b.drop j) := by rw [← List.drop_eq_getElem_cons hj]
    have e2 : lcs (a[i] :: a.drop (i + 1)) (b.drop (j + 1)) = lcs (a.drop i) (b.drop (j + 1)) := by rw [← List.drop_eq_getElem_cons hi]
    conv => lhs; rw [List.drop_eq_getElem_cons hi, List.drop_eq_getElem_cons hj, steps_cons, if_neg h5, if_neg (by rw [e, e2]; exact h6), ← List.drop_eq_getElem_cons hj]
    simp
theorem st_add {a b : List ByteArray} {pre : List Nat} {i j : Nat} (h : St a b pre i j) (hj : j < b.length) (hi : i = a.length ∨ ∃ hi : i < a.length, a[i] ≠ b[j] ∧ F a b (i + 1) j < F a b i (j + 1)) : St a b (pre ++ [2]) i (j + 1) := by
  obtain ⟨h1, h2, h3, h4⟩ := h
  refine ⟨h1, hj, ?_, by simp; omega⟩
  rw [h3]
  rcases hi with rfl | ⟨hi, h5, h6⟩
  · rw [List.drop_length, List.drop_eq_getElem_cons hj, steps_add]
    simp
  · unfold F at h6
    have e : lcs (a.drop (i + 1)) (b[j] :: b.drop (j + 1)) = lcs (a.drop (i + 1)) (b.drop j) := by rw [← List.drop_eq_getElem_cons hj]
    have e2 : lcs (a[i] :: a.drop (i + 1)) (b.drop (j + 1)) = lcs (a.drop i) (b.drop (j + 1)) := by rw [← List.drop_eq_getElem_cons hi]
    conv => lhs; rw [List.drop_eq_getElem_cons hi, List.drop_eq_getElem_cons hj, steps_cons, if_neg h5, if_pos (by rw [e, e2]; exact h6), ← List.drop_eq_getElem_cons hi]
    simp
theorem st_end {a b : List ByteArray} {pre : List Nat} {i j : Nat} (h : St a b pre i j) (hi : i = a.length) (hj : j = b.length) : steps a b = pre := by
  rw [h.2.2.1, hi, hj, List.drop_length, List.drop_length, steps_nil, List.append_nil]
set_option maxRecDepth 100000 in
set_option maxHeartbeats 8000000 in
theorem steps_any (A B : Option Addr) (ca cb : Nat) (a b : List ByteArray) (w : World) (hm4 : a.length ≤ 400) (hn4 : b.length ≤ 400) (hA : Strs w A a.length a) (hB : Strs w B b.length b) :
    Calls Tryz.prog 118 #[.slice A a.length ca, .slice B b.length cb] w (IntsTo (steps a b) w) := by
  obtain ⟨iI, hI, hI0, hI1, hI2⟩ := info_parts infoInt
  have ct := table_any A B ca cb a b w hm4 hn4 hA hB
  unfold TableTo at ct
  have HAS := Lib.hid hA
  have HBS := Lib.hid hB
  clear hA hB
  have HST := Lib.hid (st_start a b)
  obtain ⟨m, hm⟩ : ∃ m, m = a.length := ⟨_, rfl⟩
  obtain ⟨n, hn⟩ : ∃ n, n = b.length := ⟨_, rfl⟩
  rw [← hm] at hm4 ct ⊢
  rw [← hn] at hn4 ct ⊢
  have HM := Lib.hid hm
  have HN := Lib.hid hn
  clear hm hn
  go_enter Tryz.func118, Tryz.ntmps118
  go_wp2_with fail
  go_at_call 135
  refine ct.mono ?_
  rintro e wt ⟨g, r, rfl, hT, hbt⟩
  have HT := Lib.hid hT
  have HBT := Lib.hid hbt
  clear hT hbt ct
  go_wp2_with fail
  go_loopw [6, 7, 8] (fun v i j wr => ∃ (pre : List Nat) (p q : Nat), i = .int .i64 p ∧ j = .int .i64 q ∧ Hid (St a b pre p q) ∧ Ints wr wt.heap.size v pre ∧ Below wt.heap.size wt wr) (fun _ i j _ => m + n - (intOf i).toNat - (intOf j).toNat)
  case atStart => exact ⟨[], 0, 0, rfl, rfl, HST, World.ownsRow_nil _ _ _ _, Below.refl _ _⟩
  case round =>
    obtain ⟨pre, p, q, rfl, rfl, HS, htx, hb⟩ := hrel
    have hp := HS.out.1
    have hq := HS.out.2.1
    have hpl := HS.out.2.2.2
    rw [← HM.out] at hp
    rw [← HN.out] at hq
    have hsz := hb.size
    clear HST
    by_cases hpm : p < m
    · have e1 : (p : Int) < (m : Int) := by omega
      by_cases hqn : q < n
      · have e2 : (q : Int) < (n : Int) := by omega
        have hBw : Below w.heap.size w wr := HBT.out.trans (hb.mono HBT.out.size)
        obtain ⟨ba, oa, hAe, c1⟩ := strs_cell (k := p) HAS.out (by rw [← HM.out]; omega) hBw
        obtain ⟨bb, ob, hBe, c2⟩ := strs_cell (k := q) HBS.out (by rw [← HN.out]; omega) hBw
        rw [hAe, hBe]
        obtain ⟨S, hS⟩ : ∃ S, S = a[p]'(by rw [← HM.out]; omega) := ⟨_, rfl⟩
        obtain ⟨T, hT0⟩ : ∃ T, T = b[q]'(by rw [← HN.out]; omega) := ⟨_, rfl⟩
        rw [← hS] at c1
        rw [← hT0] at c2
        by_cases he : S = T
        · have e3 : (S.toList == T.toList) = true := by rw [he]; exact beq_self_eq_true _
          have HS2 := Lib.hid (st_keep HS.out (by rw [← HM.out]; omega) (by rw [← HN.out]; omega) (by rw [← hS, ← hT0]; exact he))
          clear hS hT0 he HS
          go_wp2_with fail
          go_region
          have hown : (wr.drewN 1).ownsRow wt.heap.size 3 1 _ pre.length (pre.map iv) := htx
          have hbd : Below wt.heap.size wt (wr.drewN 1) := ⟨hb.os, hb.tape, hb.output, hb.size, hb.block⟩
          have hpl2 : pre.length ≤ 800 := by omega
          have hszd : wt.heap.size ≤ (wr.drewN 1).heap.size := hsz
          have hww : wr.drew = wr.drewN 1 := rfl
          rw [hww]
          generalize wr.drewN 1 = wd at hown hbd hszd ⊢
          clear htx hb hsz hww
          go_wp2_with (at_builtin; refine wpList_append_own _ rfl _ _ 153 rfl wt.heap.size 3 iI (.int .i64 0) 1 8 Tryz.underlying153 hI hI0 hI1 hI2 rfl (by decide) _ _ _ rfl (hown.alloc _) ⟨wd.heap.size, 0, none⟩ 1 1 [iv 0] rfl rfl ?c1 ?c2 ?c3 ?c4 ?c5 ?_)
          case c1 => exact cell_one_new _ _ _
          case c2 => exact iv_one [0]
          case c3 => unfold maxLen; omega
          case c4 => omega
          case c5 => simp; omega
          intro v' w2 hown' hgrow _
          have hb3 := below_step hbd hown hgrow
          have htx2 : Ints w2 wt.heap.size v' (pre ++ [0]) := by
            unfold Ints
            rw [List.length_append, List.map_append]
            exact hown'
          clear hown hown' hgrow hbd
          go_wp2_with fail
          go_roundw
          case rel => exact ⟨pre ++ [0], p + 1, q + 1, by go_num, by go_num, HS2, htx2, hb3⟩
          case measure => simp only [intOf]; omega
        · have e3 : (S.toList == T.toList) = false := bytes_ne he
          have e4 : ((q : Int) == (n : Int)) = false := beq_eq_false_iff_ne.2 (by omega)
          have e5 : ((p : Int) == (m : Int)) = false := beq_eq_false_iff_ne.2 (by omega)
          have hTw := HT.out.below hb
          have d1 := hTw.cell (p + 1) (Nat.zero_le _) (by rw [← HM.out]; omega)
          have d2 := hTw.cell p (Nat.zero_le _) (by rw [← HM.out]; omega)
          have d3 := hTw.row (p + 1) (Nat.zero_le _) (by rw [← HM.out]; omega) q (by rw [← HN.out]; omega)
          have d4 := hTw.row p (Nat.zero_le _) (by rw [← HM.out]; omega) (q + 1) (by rw [← HN.out]; omega)
          have hX4 := F_le a b (p + 1) q
          have hY4 := F_le a b p (q + 1)
          rw [← HN.out] at d1 d2
          rw [← HM.out] at hX4 hY4
          obtain ⟨r1, hr1⟩ : ∃ r1, r1 = r (p + 1) := ⟨_, rfl⟩
          obtain ⟨r2, hr2⟩ : ∃ r2, r2 = r p := ⟨_, rfl⟩
          rw [← hr1] at d1 d3
          rw [← hr2] at d2 d4
          have wq : IntKind.i64.wrap ((q : Int) + 1) = (q : Int) + 1 := IntWalk.i64_in _ (by omega)
          have wp : IntKind.i64.wrap ((p : Int) + 1) = (p : Int) + 1 := IntWalk.i64_in _ (by omega)
          have nq : ((q : Int) + 1).toNat = q + 1 := by omega
          have np : ((p : Int) + 1).toNat = p + 1 := by omega
          have zq : (0 : Int) ≤ (q : Int) + 1 := by omega
          have zp : (0 : Int) ≤ (p : Int) + 1 := by omega
          have f1 : (p : Int) + 1 < (m : Int) + 1 := by omega
          have f2 : (p : Int) < (m : Int) + 1 := by omega
          have f3 : (q : Int) + 1 < (n : Int) + 1 := by omega
          have f4 : (q : Int) < (n : Int) + 1 := by omega
          by_cases hlt : F a b (p + 1) q < F a b p (q + 1)
          · have HS2 := Lib.hid (st_add HS.out (by rw [← HN.out]; omega) (.inr ⟨by rw [← HM.out]; omega, by rw [← hS, ← hT0]; exact he, hlt⟩))
            obtain ⟨X, hX⟩ : ∃ X, X = F a b (p + 1) q := ⟨_, rfl⟩
            obtain ⟨Y, hY⟩ : ∃ Y, Y = F a b p (q + 1) := ⟨_, rfl⟩
            rw [← hX] at d3 hlt hX4
            rw [← hY] at d4 hlt hY4
            have g1 : (X : Int) < (Y : Int) := by omega
            clear hX hY hr1 hr2 hTw hS hT0 he HS
            go_wp2_with fail
            go_region
            go_wp2_with fail
            go_region
            have hown : (wr.drewN 2).ownsRow wt.heap.size 3 1 _ pre.length (pre.map iv) := htx
            have hbd : Below wt.heap.size wt (wr.drewN 2) := ⟨hb.os, hb.tape, hb.output, hb.size, hb.block⟩
            have hpl2 : pre.length ≤ 800 := by omega
            have hszd : wt.heap.size ≤ (wr.drewN 2).heap.size := hsz
            have hww : wr.drew.drew = wr.drewN 2 := rfl
            rw [hww]
            generalize wr.drewN 2 = wd at hown hbd hszd ⊢
            clear htx hb hsz hww
            go_wp2_with (at_builtin; refine wpList_append_own _ rfl _ _ 153 rfl wt.heap.size 3 iI (.int .i64 0) 1 8 Tryz.underlying153 hI hI0 hI1 hI2 rfl (by decide) _ _ _ rfl (hown.alloc _) ⟨wd.heap.size, 0, none⟩ 1 1 [iv 2] rfl rfl ?c1 ?c2 ?c3 ?c4 ?c5 ?_)
            case c1 => exact cell_one_new _ _ _
            case c2 => exact iv_one [2]
            case c3 => unfold maxLen; omega
            case c4 => omega
            case c5 => simp; omega
            intro v' w2 hown' hgrow _
            have hb3 := below_step hbd hown hgrow
            have htx2 : Ints w2 wt.heap.size v' (pre ++ [2]) := by
              unfold Ints
              rw [List.length_append, List.map_append]
              exact hown'
            clear hown hown' hgrow hbd
            go_wp2_with fail
            go_roundw
            case rel => exact ⟨pre ++ [2], p, q + 1, by go_num, by go_num, HS2, htx2, hb3⟩
            case measure => simp only [intOf]; omega
          · have HS2 := Lib.hid (st_drop HS.out (by rw [← HM.out]; omega) (.inr ⟨by rw [← HN.out]; omega, by rw [← hS, ← hT0]; exact he, hlt⟩))
            obtain ⟨X, hX⟩ : ∃ X, X = F a b (p + 1) q := ⟨_, rfl⟩
            obtain ⟨Y, hY⟩ : ∃ Y, Y = F a b p (q + 1) := ⟨_, rfl⟩
            rw [← hX] at d3 hlt hX4
            rw [← hY] at d4 hlt hY4
            have g1 : ¬ (X : Int) < (Y : Int) := by omega
            clear hX hY hr1 hr2 hTw hS hT0 he HS
            go_wp2_with fail
            go_region
            go_wp2_with fail
            go_region
            have hown : (wr.drewN 2).ownsRow wt.heap.size 3 1 _ pre.length (pre.map iv) := htx
            have hbd : Below wt.heap.size wt (wr.drewN 2) := ⟨hb.os, hb.tape, hb.output, hb.size, hb.block⟩
            have hpl2 : pre.length ≤ 800 := by omega
            have hszd : wt.heap.size ≤ (wr.drewN 2).heap.size := hsz
            have hww : wr.drew.drew = wr.drewN 2 := rfl
            rw [hww]
            generalize wr.drewN 2 = wd at hown hbd hszd ⊢
            clear htx hb hsz hww
            go_wp2_with (at_builtin; refine wpList_append_own _ rfl _ _ 153 rfl wt.heap.size 3 iI (.int .i64 0) 1 8 Tryz.underlying153 hI hI0 hI1 hI2 rfl (by decide) _ _ _ rfl (hown.alloc _) ⟨wd.heap.size, 0, none⟩ 1 1 [iv 1] rfl rfl ?c1 ?c2 ?c3 ?c4 ?c5 ?_)
            case c1 => exact cell_one_new _ _ _
            case c2 => exact iv_one [1]
            case c3 => unfold maxLen; omega
            case c4 => omega
            case c5 => simp; omega
            intro v' w2 hown' hgrow _
            have hb3 := below_step hbd hown hgrow
            have htx2 : Ints w2 wt.heap.size v' (pre ++ [1]) := by
              unfold Ints
              rw [List.length_append, List.map_append]
              exact hown'
            clear hown hown' hgrow hbd
            go_wp2_with fail
            go_roundw
            case rel => exact ⟨pre ++ [1], p + 1, q, by go_num, by go_num, HS2, htx2, hb3⟩
            case measure => simp only [intOf]; omega
      · have hqe : q = n := by omega
        have e2 : ¬ (q : Int) < (n : Int) := by omega
        have e4 : ((q : Int) == (n : Int)) = true := beq_iff_eq.2 (by omega)
        have HS2 := Lib.hid (st_drop HS.out (by rw [← HM.out]; omega) (.inl (by rw [← HN.out]; exact hqe)))
        clear HS hqe
        go_wp2_with fail
        go_region
        have hown : (wr.drewN 1).ownsRow wt.heap.size 3 1 _ pre.length (pre.map iv) := htx
        have hbd : Below wt.heap.size wt (wr.drewN 1) := ⟨hb.os, hb.tape, hb.output, hb.size, hb.block⟩
        have hpl2 : pre.length ≤ 800 := by omega
        have hszd : wt.heap.size ≤ (wr.drewN 1).heap.size := hsz
        have hww : wr.drew = wr.drewN 1 := rfl
        rw [hww]
        generalize wr.drewN 1 = wd at hown hbd hszd ⊢
        clear htx hb hsz hww
        go_wp2_with (at_builtin; refine wpList_append_own _ rfl _ _ 153 rfl wt.heap.size 3 iI (.int .i64 0) 1 8 Tryz.underlying153 hI hI0 hI1 hI2 rfl (by decide) _ _ _ rfl (hown.alloc _) ⟨wd.heap.size, 0, none⟩ 1 1 [iv 1] rfl rfl ?c1 ?c2 ?c3 ?c4 ?c5 ?_)
        case c1 => exact cell_one_new _ _ _
        case c2 => exact iv_one [1]
        case c3 => unfold maxLen; omega
        case c4 => omega
        case c5 => simp; omega
        intro v' w2 hown' hgrow _
        have hb3 := below_step hbd hown hgrow
        have htx2 : Ints w2 wt.heap.size v' (pre ++ [1]) := by
          unfold Ints
          rw [List.length_append, List.map_append]
          exact hown'
        clear hown hown' hgrow hbd
        go_wp2_with fail
        go_roundw
        case rel => exact ⟨pre ++ [1], p + 1, q, by go_num, by go_num, HS2, htx2, hb3⟩
        case measure => simp only [intOf]; omega
    · have hpe : p = m := by omega
      have e1 : ¬ (p : Int) < (m : Int) := by omega
      by_cases hqn : q < n
      · have e2 : (q : Int) < (n : Int) := by omega
        have e4 : ((q : Int) == (n : Int)) = false := beq_eq_false_iff_ne.2 (by omega)
        have e5 : ((p : Int) == (m : Int)) = true := beq_iff_eq.2 (by omega)
        have HS2 := Lib.hid (st_add HS.out (by rw [← HN.out]; omega) (.inl (by rw [← HM.out]; exact hpe)))
        clear HS hpe
        go_wp2_with fail
        go_region
        go_wp2_with fail
        go_region
        have hown : (wr.drewN 2).ownsRow wt.heap.size 3 1 _ pre.length (pre.map iv) := htx
        have hbd : Below wt.heap.size wt (wr.drewN 2) := ⟨hb.os, hb.tape, hb.output, hb.size, hb.block⟩
        have hpl2 : pre.length ≤ 800 := by omega
        have hszd : wt.heap.size ≤ (wr.drewN 2).heap.size := hsz
        have hww : wr.drew.drew = wr.drewN 2 := rfl
        rw [hww]
        generalize wr.drewN 2 = wd at hown hbd hszd ⊢
        clear htx hb hsz hww
        go_wp2_with (at_builtin; refine wpList_append_own _ rfl _ _ 153 rfl wt.heap.size 3 iI (.int .i64 0) 1 8 Tryz.underlying153 hI hI0 hI1 hI2 rfl (by decide) _ _ _ rfl (hown.alloc _) ⟨wd.heap.size, 0, none⟩ 1 1 [iv 2] rfl rfl ?c1 ?c2 ?c3 ?c4 ?c5 ?_)
        case c1 => exact cell_one_new _ _ _
        case c2 => exact iv_one [2]
        case c3 => unfold maxLen; omega
        case c4 => omega
        case c5 => simp; omega
        intro v' w2 hown' hgrow _
        have hb3 := below_step hbd hown hgrow
        have htx2 : Ints w2 wt.heap.size v' (pre ++ [2]) := by
          unfold Ints
          rw [List.length_append, List.map_append]
          exact hown'
        clear hown hown' hgrow hbd
        go_wp2_with fail
        go_roundw
        case rel => exact ⟨pre ++ [2], p, q + 1, by go_num, by go_num, HS2, htx2, hb3⟩
        case measure => simp only [intOf]; omega
      · have e2 : ¬ (q : Int) < (n : Int) := by omega
        have HE := Lib.hid (st_end HS.out (by rw [← HM.out]; exact hpe) (by rw [← HN.out]; omega))
        clear HS hpe
        go_wp2_with fail
        go_ret
        have hBw : Below w.heap.size w wr := HBT.out.trans (hb.mono HBT.out.size)
        unfold IntsTo
        rw [HE.out]
        exact ⟨_, rfl, own_base htx HBT.out.size, hBw⟩
end Go.Proofs.YtkenmldiojeooaaGreat.Ud

namespace Go.Proofs.YtkenmldiojeooaaGreat.Ud
open Go.RowKit Tx Um Aq
set_option linter.unusedVariables false
theorem infoEdit : (Tryz.prog.info? 150).map (fun i => (i.zero, i.size, i.bytes)) = some (some (.agg #[.int .i64 0, .int .i64 0]), 2, 16) := by kernel_rfl
theorem infoPair : (Tryz.prog.info? 129).map (fun i => (i.zero, i.size, i.bytes)) = some (some (.agg #[.int .i64 0, .int .i64 0]), 2, 16) := by kernel_rfl
def c2 (x : Nat × Nat) : List Value := [iv x.1, iv x.2]
theorem c2_one (x : Nat × Nat) : ∀ u ∈ c2 x, u.oneCell' = true := by
  intro u hu
  rcases List.mem_cons.1 hu with rfl | hu
  · rfl
  · obtain rfl := List.mem_singleton.1 hu
    rfl
theorem flat2_len (l : List (Nat × Nat)) : (l.flatMap c2).length = l.length * 2 := by
  induction l with
  | nil => rfl
  | cons x l ih => rw [List.flatMap_cons, List.length_append, ih, List.length_cons]; show 2 + _ = _; omega
theorem flat2_get (l : List (Nat × Nat)) (k : Nat) (x : Nat × Nat) (h : l[k]? = some x) : (l.flatMap c2)[k * 2]? = some (iv x.1) ∧ (l.flatMap c2)[k * 2 + 1]? = some (iv x.2) := by
  induction l generalizing k with
  | nil => cases h
  | cons y l ih =>
    rw [List.flatMap_cons]
    cases k with
    | zero =>
      injection h with h
      subst h
      exact ⟨rfl, rfl⟩
    | succ k =>
      obtain ⟨h1, h2⟩ := ih k h
      have e : (c2 y).length = 2 := rfl
      rw [List.getElem?_append_right (by omega), List.getElem?_append_right (by omega), e, show (k + 1) * 2 - 2 = k * 2 by omega, show (k + 1) * 2 + 1 - 2 = k * 2 + 1 by omega]
      exact ⟨h1, h2⟩
def Prs (E : TypeId) (w : World) (B : Nat) (v : Value) (l : List (Nat × Nat)) : Prop := w.ownsRow B E 2 v l.length (l.flatMap c2)
theorem Prs.below {E : TypeId} {w w1 : World} {B : Nat} {v : Value} {l : List (Nat × Nat)} (h : Prs E w B v l) (hb : Below w.heap.size w w1) : Prs E w1 B v l := by
  refine ⟨h.1, ?_⟩
  rcases h.2 with h0 | ⟨g', cap', cur, hv, hg, hh, r⟩
  · exact .inl h0
  · exact .inr ⟨g', cap', cur, hv, hg, (hb.block g' (Array.getElem?_eq_some_iff.1 hh).1).trans hh, r⟩
def PrsR (w : World) (a : Option Addr) (n : Nat) (l : List (Nat × Nat)) : Prop := l.length = n ∧ (n = 0 ∨ ∃ b off, a = some ⟨b, off, none⟩ ∧ b < w.heap.size ∧ ∀ (k : Nat) x, l[k]? = some x → w.cell? ⟨b, off + k * 2, none⟩ = some (iv x.1) ∧ w.cell? ⟨b, off + k * 2 + 1, none⟩ = some (iv x.2))
theorem PrsR.below {w w1 : World} {a : Option Addr} {n : Nat} {l : List (Nat × Nat)} (h : PrsR w a n l) (hb : Below w.heap.size w w1) : PrsR w1 a n l := by
  refine ⟨h.1, ?_⟩
  rcases h.2 with h0 | ⟨b, off, ha, hlt, hc⟩
  · exact .inl h0
  · exact .inr ⟨b, off, ha, Nat.lt_of_lt_of_le hlt hb.size, fun k x hx => ⟨(hb.cell (p := ⟨b, _, none⟩) hlt).trans (hc k x hx).1, (hb.cell (p := ⟨b, _, none⟩) hlt).trans (hc k x hx).2⟩⟩
theorem Prs.form {E : TypeId} {w : World} {B : Nat} {v : Value} {l : List (Nat × Nat)} (h : Prs E w B v l) : ∃ a c, v = .slice a l.length c ∧ PrsR w a l.length l := by
  have hh := h
  rcases h.2 with ⟨rfl, h0⟩ | ⟨g, cap, cur, rfl, hg, hh2, hn, hc, _⟩
  · exact ⟨none, 0, by rw [h0], ⟨rfl, .inl h0⟩⟩
  · refine ⟨some ⟨g, 0, none⟩, cap, rfl, ⟨rfl, .inr ⟨g, 0, rfl, (Array.getElem?_eq_some_iff.1 hh2).1, fun k x hx => ?_⟩⟩⟩
    obtain ⟨h1, h2⟩ := flat2_get l k x hx
    have e1 := hh.cells (g := g) rfl _ _ h1
    have e2 := hh.cells (g := g) rfl _ _ h2
    rw [WideShapes.add_plain] at e1 e2
    exact ⟨e1, e2⟩
theorem cell_two_new (w : World) (u v : Value) (e : TypeId) : ∀ (j : Nat) x, [u, v][j]? = some x → (w.alloc (.cells #[u, v] e)).cell? ((⟨w.heap.size, 0, none⟩ : Addr).add j) = some x := by
  intro j x hj
  rw [WideShapes.add_plain]
  match j, hj with
  | 0, hj => injection hj with hj; subst hj; show (w.alloc _).cell? ⟨w.heap.size, 0, none⟩ = _; go_simp
  | 1, hj => injection hj with hj; subst hj; show (w.alloc _).cell? ⟨w.heap.size, 1, none⟩ = _; go_simp
theorem below_drewN {B : Nat} {a w : World} (h : Below B a w) (n : Nat) : Below B a (w.drewN n) := ⟨h.os, h.tape, h.output, h.size, h.block⟩
theorem run_eql_pair (a b c d : Int) (w : World) : (Op.equalIn 10000 129 (.agg #[.int .i64 a, .int .i64 b]) (.agg #[.int .i64 c, .int .i64 d])).run Tryz.prog w = .ok ((a == c) && (b == d)) w := by
  obtain ⟨iI, hI, _⟩ := info_parts infoInt
  have hu : Tryz.prog.underlying 3 = some (.int .i64) := by kernel_rfl
  have hc : Tryz.prog.cellsOf 3 = 1 := by kernel_rfl
  have hk : Tryz.prog.plainKey 3 = true := by kernel_rfl
  have p0 : ∀ (x y : Int), (part 3 #[.int .i64 x, .int .i64 y] (0 * 1)).run Tryz.prog w = .ok (.int .i64 x) w := fun x y => run_part_plain w hk rfl
  have p1 : ∀ (x y : Int), (part 3 #[.int .i64 x, .int .i64 y] (1 * 1)).run Tryz.prog w = .ok (.int .i64 y) w := fun x y => run_part_plain w hk rfl
  rw [show (10000 : Nat) = 9999 + 1 from rfl, run_equalIn_array w 9999 _ _ (show Tryz.prog.underlying 129 = some (.array 2 3) by kernel_rfl) hI, hc, show List.range 2 = [0, 1] from rfl]
  simp only [Op.eqItems, Sem.run_bind, p0, Result.andThen_ok]
  have q1 : ∀ (x y : Int), (Op.equalIn 9999 3 (.int .i64 x) (.int .i64 y)).run Tryz.prog w = .ok (x == y) w := fun x y => run_equalIn_int w 9998 _ .i64 .i64 x y hu
  rw [q1]
  simp only [Result.andThen_ok]
  cases h1 : a == c
  · simp
  · simp only [Bool.not_true, Bool.false_eq_true, if_false, Sem.run_bind, p1, Result.andThen_ok, q1]
    cases h2 : b == d <;> simp
theorem run_neq_pair (a b c d : Int) (w : World) : (binOp .neq 129 (.agg #[.int .i64 a, .int .i64 b]) (.agg #[.int .i64 c, .int .i64 d])).run Tryz.prog w = .ok (.bool (!((a == c) && (b == d)))) w := by
  rw [run_neq_struct, run_eql_pair]
  rfl
theorem guardPr : Tryz.prog.eqGuardType Tryz.prog.depth 129 = false := by kernel_rfl
end Go.Proofs.YtkenmldiojeooaaGreat.Ud

namespace Go.Proofs.YtkenmldiojeooaaGreat.Ud
open Go.RowKit Tx Um Aq
set_option linter.unusedVariables false
theorem ints_cell {w : World} {B : Nat} {v : Value} {l : List Nat} (h : Ints w B v l) : ∃ a c, v = .slice a l.length c ∧ (l.length = 0 ∨ ∃ g, a = some ⟨g, 0, none⟩ ∧ g < w.heap.size ∧ ∀ (k : Nat) x, l[k]? = some x → w.cell? ⟨g, k, none⟩ = some (.int .i64 (x : Int))) := by
  have hh := h
  rcases h.2 with ⟨rfl, h0⟩ | ⟨g, cap, cur, rfl, hg, hh2, hn, hc, _⟩
  · exact ⟨none, 0, by rw [h0], .inl h0⟩
  · refine ⟨some ⟨g, 0, none⟩, cap, rfl, .inr ⟨g, rfl, (Array.getElem?_eq_some_iff.1 hh2).1, fun k x hx => ?_⟩⟩
    exact own_cell hh (by rw [List.getElem?_map, hx]; rfl)
def PrsTo (E : TypeId) (l : List (Nat × Nat)) (er : Nat) (w : World) (e : Ending) (w' : World) : Prop := ∃ v, e = .returned (.tuple #[v, .int .i64 (er : Int)]) ∧ Prs E w' w.heap.size v l ∧ Below w.heap.size w w'
def lng (a b : List ByteArray) : Bool := decide (400 < a.length) || decide (400 < b.length)
def scr (a b : List ByteArray) : List (Nat × Nat) := if lng a b then [] else runs (steps a b)
def kep (a b : List ByteArray) : List (Nat × Nat) := if lng a b then [] else pairs 0 0 (steps a b)
def err (a b : List ByteArray) : Nat := if lng a b then 4 else 0
end Go.Proofs.YtkenmldiojeooaaGreat.Ud

namespace Go.Proofs.YtkenmldiojeooaaGreat.Ud
open Go.RowKit Tx Um Aq
set_option linter.unusedVariables false
set_option maxRecDepth 100000 in
set_option maxHeartbeats 4000000 in
theorem refKept_any (A B : Option Addr) (ca cb : Nat) (a b : List ByteArray) (w : World) (hA : Strs w A a.length a) (hB : Strs w B b.length b) :
    Calls Tryz.prog 99 #[.slice A a.length ca, .slice B b.length cb] w (PrsTo 129 (kep a b) (err a b) w) := by
  obtain ⟨iE, hI, hI0, hI1, hI2⟩ := info_parts infoPair
  have hsl := (makes a b).lens
  have hle := (makes a b).le
  have hk := kept a b
  have hkl := lcs_le_left a b
  by_cases hm : 400 < a.length
  · have e1 : (400 : Int) < (a.length : Int) := by omega
    have HE : Hid (kep a b = [] ∧ err a b = 4) := by
      show _ ∧ _
      unfold kep err lng
      rw [decide_eq_true hm]
      exact ⟨rfl, rfl⟩
    clear hsl hk hkl hle
    go_enter Tryz.func99, Tryz.ntmps99
    go_wp2_with fail
    go_ret2
    unfold PrsTo
    rw [HE.out.1, HE.out.2]
    exact ⟨_, rfl, World.ownsRow_nil _ _ _ _, Below.refl _ _⟩
  · have e1 : ¬ (400 : Int) < (a.length : Int) := by omega
    by_cases hn : 400 < b.length
    · have e2 : (400 : Int) < (b.length : Int) := by omega
      have HE : Hid (kep a b = [] ∧ err a b = 4) := by
        show _ ∧ _
        unfold kep err lng
        rw [decide_eq_true hn, Bool.or_true]
        exact ⟨rfl, rfl⟩
      clear hsl hk hkl hle
      go_enter Tryz.func99, Tryz.ntmps99
      go_wp2_with fail
      go_ret2
      unfold PrsTo
      rw [HE.out.1, HE.out.2]
      exact ⟨_, rfl, World.ownsRow_nil _ _ _ _, Below.refl _ _⟩
    · have e2 : ¬ (400 : Int) < (b.length : Int) := by omega
      have HE : Hid (kep a b = pairs 0 0 (steps a b) ∧ err a b = 0) := by
        show _ ∧ _
        unfold kep err lng
        rw [decide_eq_false hm, decide_eq_false hn]
        exact ⟨rfl, rfl⟩
      have cs := steps_any A B ca cb a b w (by omega) (by omega) hA hB
      have hs800 : (steps a b).length ≤ 800 := by omega
      obtain ⟨s, hs⟩ : ∃ s, s = steps a b := ⟨_, rfl⟩
      rw [← hs] at cs hs800 HE hle
      have HLE := Lib.hid hle
      obtain ⟨m, hmm⟩ : ∃ m, m = a.length := ⟨_, rfl⟩
      obtain ⟨n, hnn⟩ : ∃ n, n = b.length := ⟨_, rfl⟩
      rw [← hmm] at e1 cs ⊢
      rw [← hnn] at e2 cs ⊢
      clear hs hmm hnn hsl hk hkl hm hn hA hB hle
      unfold IntsTo at cs
      go_enter Tryz.func99, Tryz.ntmps99
      go_wp2_with fail
      go_at_call 118
      refine cs.mono ?_
      rintro e w1 ⟨v, rfl, hv, hb1⟩
      obtain ⟨ad, cc, rfl, hcell⟩ := ints_cell hv
      have HC := Lib.hid hcell
      obtain ⟨L, hL⟩ : ∃ L, L = s.length := ⟨_, rfl⟩
      rw [← hL] at hs800 ⊢
      have HL := Lib.hid hL
      clear hL hcell hv cs
      have hsz1 := hb1.size
      go_wp2_with fail
      go_loopw [7, 8, 9, 10] (fun v i j k wr => ∃ (pre : List (Nat × Nat)) (p q t : Nat), i = .int .i64 p ∧ j = .int .i64 q ∧ k = .int .i64 t ∧ t ≤ L ∧ Hid (PK s t p q pre) ∧ Prs 129 wr w1.heap.size v pre ∧ Below w1.heap.size w1 wr) (fun _ _ _ k _ => L - (intOf k).toNat)
      case atStart => exact ⟨[], 0, 0, 0, rfl, rfl, rfl, Nat.zero_le _, pk_start s, World.ownsRow_nil _ _ _ _, Below.refl _ _⟩
      case round =>
        obtain ⟨pre, p, q, t, rfl, rfl, rfl, ht, HK, htx, hb⟩ := hrel
        have hp := HK.out.2.1
        have hq := HK.out.2.2.1
        have hpl := HK.out.2.2.2
        by_cases hlt : t < L
        · have e3 : (t : Int) < (L : Int) := by omega
          obtain ⟨g, rfl, hg, hc⟩ := HC.out.resolve_left (by rw [← HL.out]; omega)
          obtain ⟨x, hx⟩ : ∃ x, s[t]? = some x := ⟨_, List.getElem?_eq_getElem (by rw [← HL.out]; exact hlt)⟩
          have c1 := (hb.cell (p := ⟨g, t, none⟩) hg).trans (hc t x hx)
          have hx3 := HLE.out x (List.mem_iff_getElem?.2 ⟨t, hx⟩)
          clear hc
          rcases hx3 with rfl | rfl | rfl
          · have HN := Lib.hid (pk_keep HK.out hx)
            have hown : wr.ownsRow w1.heap.size 129 2 _ pre.length (pre.flatMap Ud.c2) := htx
            have hszd : w1.heap.size ≤ wr.heap.size := hb.size
            clear hx HK htx
            go_wp2_with (at_builtin; refine wpList_append_own _ rfl _ _ 126 rfl w1.heap.size 129 iE (.agg #[.int .i64 0, .int .i64 0]) 2 16 Tryz.underlying126 hI hI0 hI1 hI2 rfl (by decide) _ _ _ rfl (hown.alloc _) ⟨wr.heap.size, 0, none⟩ 1 1 (Ud.c2 (p, q)) rfl rfl ?c1 ?c2 ?c3 ?c4 ?c5 ?_)
            case c1 => exact cell_two_new _ _ _ _
            case c2 => exact c2_one (p, q)
            case c3 => unfold maxLen; omega
            case c4 => omega
            case c5 => simp; omega
            intro v' w2 hown' hgrow _
            have hb3 : Below w1.heap.size w1 w2 := (hb.alloc hszd _).grown hgrow (by simp; omega) (fun k hk => (hown.lt k hk).1)
            have htx2 : Prs 129 w2 w1.heap.size v' (pre ++ [(p, q)]) := by
              unfold Prs
              rw [List.length_append, List.flatMap_append]
              exact hown'
            have c3 := (hb3.cell (p := ⟨g, t, none⟩) hg).trans ((hb.cell (p := ⟨g, t, none⟩) hg).symm.trans c1)
            clear hown hown' hgrow hb c1
            go_wp2_with fail
            go_roundw
            case rel => exact ⟨pre ++ [(p, q)], p + 1, q + 1, t + 1, by go_num, by go_num, by go_num, by omega, HN, htx2, hb3⟩
            case measure => simp only [intOf]; omega
          · have HN := Lib.hid (pk_drop HK.out hx)
            clear hx HK
            go_wp2_with fail
            go_roundw
            case rel => exact ⟨pre, p + 1, q, t + 1, by go_num, rfl, by go_num, by omega, HN, htx, hb⟩
            case measure => simp only [intOf]; omega
          · have HN := Lib.hid (pk_add HK.out hx)
            clear hx HK
            go_wp2_with fail
            go_roundw
            case rel => exact ⟨pre, p, q + 1, t + 1, rfl, by go_num, by go_num, by omega, HN, htx, hb⟩
            case measure => simp only [intOf]; omega
        · have e3 : ¬ (t : Int) < (L : Int) := by omega
          have HEND : Hid (kep a b = pre) := by
            show kep a b = pre
            rw [HE.out.1]
            exact pk_end HK.out (by rw [← HL.out]; omega)
          have hB : Below w.heap.size w wr := hb1.trans (hb.mono hsz1)
          clear HK
          go_wp2_with fail
          go_ret2
          unfold PrsTo
          rw [HEND.out, HE.out.2]
          exact ⟨_, rfl, own_base htx hsz1, hB⟩
end Go.Proofs.YtkenmldiojeooaaGreat.Ud

namespace Go.Proofs.YtkenmldiojeooaaGreat.Km
open Um
set_option linter.unusedVariables false
set_option linter.unusedSectionVars false
section
variable {α : Type} [DecidableEq α]
def fin (L : List (Hk α)) : Nat := match L.getLast? with
  | some h => h.at_ + h.old.length
  | none => 0
end
end Go.Proofs.YtkenmldiojeooaaGreat.Km

namespace Go.Proofs.YtkenmldiojeooaaGreat.Kd
open Go.RowKit Tx Um Ud Aq Km
set_option linter.unusedVariables false
def g4 (x : G) : List Value := [iv x.f, iv x.t, iv x.u, iv x.v]
theorem own_put4 {w : World} {base g n cap size : Nat} {e : TypeId} {xs : List Value} (h : w.ownsRow base e size (.slice (some ⟨g, 0, none⟩) n cap) n xs) (k : Nat) (u : Value) :
    (w.setCell ⟨g, k, none⟩ u).ownsRow base e size (.slice (some ⟨g, 0, none⟩) n cap) n (xs.set k u) := by
  refine ⟨by rw [List.length_set]; exact h.1, ?_⟩
  rcases h.2 with ⟨h0, _⟩ | ⟨g', cap', cur, hv, hb, hh, hn, hc, hs, ht⟩
  · cases h0
  · injection hv with hg _ hcap
    injection hg with hg
    injection hg with hg
    subst hg
    subst hcap
    refine .inr ⟨g, cap, cur.setIfInBounds k u, rfl, hb, ?_, hn, hc, by simpa using hs, ?_⟩
    · simp [World.setCell, Array.getElem?_modify, hh]
    · rw [Array.toList_setIfInBounds, List.take_set, ht]
theorem cell_four_new (w : World) (u v x y : Value) (e : TypeId) : ∀ (j : Nat) z, [u, v, x, y][j]? = some z → (w.alloc (.cells #[u, v, x, y] e)).cell? ((⟨w.heap.size, 0, none⟩ : Addr).add j) = some z := by
  intro j z hj
  rw [WideShapes.add_plain]
  match j, hj with
  | 0, hj => injection hj with hj; subst hj; show (w.alloc _).cell? ⟨w.heap.size, 0, none⟩ = _; go_simp
  | 1, hj => injection hj with hj; subst hj; show (w.alloc _).cell? ⟨w.heap.size, 1, none⟩ = _; go_simp
  | 2, hj => injection hj with hj; subst hj; show (w.alloc _).cell? ⟨w.heap.size, 2, none⟩ = _; go_simp
  | 3, hj => injection hj with hj; subst hj; show (w.alloc _).cell? ⟨w.heap.size, 3, none⟩ = _; go_simp
end Go.Proofs.YtkenmldiojeooaaGreat.Kd

namespace Go.Proofs.YtkenmldiojeooaaGreat.Kd
open Go.RowKit Tx Um Ud Aq Km
set_option linter.unusedVariables false
end Go.Proofs.YtkenmldiojeooaaGreat.Kd

namespace Go.Proofs.YtkenmldiojeooaaGreat.Kd
open Go.RowKit Tx Um Ud Aq Km
set_option linter.unusedVariables false
def Rd (w : World) (u : Value) (l : List ByteArray) : Prop := ∃ A c, u = .slice A l.length c ∧ Strs w A l.length l ∧ (A = none → c = 0)
theorem Rd.below {w w1 : World} {u : Value} {l : List ByteArray} (h : Rd w u l) (hb : Below w.heap.size w w1) : Rd w1 u l := by
  obtain ⟨A, c, rfl, h1, h2⟩ := h
  exact ⟨A, c, rfl, h1.below hb, h2⟩
theorem Rd.one {w : World} {u : Value} {l : List ByteArray} (h : Rd w u l) : u.oneCell' = true := by
  obtain ⟨A, c, rfl, _⟩ := h
  rfl
theorem rd_sub {w : World} {A : Option Addr} {c lo hi : Nat} {l : List ByteArray} (h : Strs w A l.length l) (h1 : lo ≤ hi) (h2 : hi ≤ l.length) (hc : l.length ≤ c) (hnil : A = none → c = 0) : Rd w (sliced A lo hi c 1) ((l.take hi).drop lo) := by
  have e : ((l.take hi).drop lo).length = hi - lo := by rw [List.length_drop, List.length_take]; omega
  unfold sliced
  refine ⟨_, c - lo, by rw [e], ?_, fun hz => ?_⟩
  rotate_left
  · cases A with
    | none => rw [hnil rfl]; exact Nat.zero_sub _
    | some ad => split at hz <;> simp at hz
  rw [e]
  refine ⟨e, ?_⟩
  by_cases h0 : hi - lo = 0
  · exact .inl h0
  · obtain ⟨b, off, ha, hb, hcell⟩ := h.2.resolve_left (by omega)
    subst ha
    refine .inr ⟨b, off + lo, ?_, hb, fun k x hx => ?_⟩
    · rw [if_neg (by omega)]
      simp [Addr.add]
    · have hk := (List.getElem?_eq_some_iff.1 hx).1
      rw [List.getElem?_drop, List.getElem?_take, if_pos (by omega)] at hx
      rw [Nat.add_assoc]
      exact hcell (lo + k) x hx
def h3 (x : Int × Value × Value) : List Value := [.int .i64 x.1, x.2.1, x.2.2]
def Is (w : World) : List (Int × Value × Value) → List (Hz ByteArray) → Prop
  | [], [] => True
  | c :: cs, h :: hs => c.1 = h.at_ ∧ Rd w c.2.1 h.old ∧ Rd w c.2.2 h.new ∧ Is w cs hs
  | _, _ => False
theorem Is.below {w w1 : World} (hb : Below w.heap.size w w1) : ∀ {cs : List (Int × Value × Value)} {hs : List (Hz ByteArray)}, Is w cs hs → Is w1 cs hs
  | [], [], _ => trivial
  | _ :: _, _ :: _, h => ⟨h.1, h.2.1.below hb, h.2.2.1.below hb, Is.below hb h.2.2.2⟩
theorem Is.len {w : World} : ∀ {cs : List (Int × Value × Value)} {hs : List (Hz ByteArray)}, Is w cs hs → cs.length = hs.length
  | [], [], _ => rfl
  | _ :: _, _ :: _, h => by rw [List.length_cons, List.length_cons, Is.len h.2.2.2]
theorem Is.snoc {w : World} {c : Int × Value × Value} {x : Hz ByteArray} (h1 : c.1 = x.at_) (h2 : Rd w c.2.1 x.old) (h3 : Rd w c.2.2 x.new) : ∀ {cs : List (Int × Value × Value)} {hs : List (Hz ByteArray)}, Is w cs hs → Is w (cs ++ [c]) (hs ++ [x])
  | [], [], _ => ⟨h1, h2, h3, trivial⟩
  | _ :: _, _ :: _, h => ⟨h.1, h.2.1, h.2.2.1, Is.snoc h1 h2 h3 h.2.2.2⟩
theorem Is.get {w : World} : ∀ {cs : List (Int × Value × Value)} {hs : List (Hz ByteArray)}, Is w cs hs → ∀ (k : Nat) x, hs[k]? = some x → ∃ c, cs[k]? = some c ∧ c.1 = x.at_ ∧ Rd w c.2.1 x.old ∧ Rd w c.2.2 x.new
  | [], [], _ => fun k x hx => by cases hx
  | c :: cs, h :: hs, hi => fun k x hx => by
    cases k with
    | zero =>
      injection hx with hx
      subst hx
      exact ⟨c, rfl, hi.1, hi.2.1, hi.2.2.1⟩
    | succ k => exact Is.get hi.2.2.2 k x hx
def HzR (w : World) (a : Option Addr) (n : Nat) (hs : List (Hz ByteArray)) : Prop := hs.length = n ∧ (n = 0 ∨ ∃ b off, a = some ⟨b, off, none⟩ ∧ b < w.heap.size ∧ ∀ (k : Nat) x, hs[k]? = some x → ∃ uo un,
  w.cell? ⟨b, off + k * 3, none⟩ = some (.int .i64 x.at_) ∧ w.cell? ⟨b, off + k * 3 + 1, none⟩ = some uo ∧ w.cell? ⟨b, off + k * 3 + 2, none⟩ = some un ∧ Rd w uo x.old ∧ Rd w un x.new)
theorem HzR.below {w w1 : World} {a : Option Addr} {n : Nat} {hs : List (Hz ByteArray)} (h : HzR w a n hs) (hb : Below w.heap.size w w1) : HzR w1 a n hs := by
  refine ⟨h.1, ?_⟩
  rcases h.2 with h0 | ⟨b, off, ha, hlt, hc⟩
  · exact .inl h0
  · refine .inr ⟨b, off, ha, Nat.lt_of_lt_of_le hlt hb.size, fun k x hx => ?_⟩
    obtain ⟨uo, un, c0, c1, c2, r1, r2⟩ := hc k x hx
    exact ⟨uo, un, (hb.cell (p := ⟨b, _, none⟩) hlt).trans c0, (hb.cell (p := ⟨b, _, none⟩) hlt).trans c1, (hb.cell (p := ⟨b, _, none⟩) hlt).trans c2, r1.below hb, r2.below hb⟩
theorem cell_three_new (w : World) (u v x : Value) (e : TypeId) : ∀ (j : Nat) z, [u, v, x][j]? = some z → (w.alloc (.cells #[u, v, x] e)).cell? ((⟨w.heap.size, 0, none⟩ : Addr).add j) = some z := by
  intro j z hj
  rw [WideShapes.add_plain]
  match j, hj with
  | 0, hj => injection hj with hj; subst hj; show (w.alloc _).cell? ⟨w.heap.size, 0, none⟩ = _; go_simp
  | 1, hj => injection hj with hj; subst hj; show (w.alloc _).cell? ⟨w.heap.size, 1, none⟩ = _; go_simp
  | 2, hj => injection hj with hj; subst hj; show (w.alloc _).cell? ⟨w.heap.size, 2, none⟩ = _; go_simp
def pc (a b : List ByteArray) (ar : Nat) (g : G) : Hk ByteArray := ⟨g.f - min ar g.f, (a.take (g.t + min ar (a.length - g.t))).drop (g.f - min ar g.f), (b.take (g.v + min ar (a.length - g.t))).drop (g.u - min ar g.f)⟩
end Go.Proofs.YtkenmldiojeooaaGreat.Kd

namespace Go.Proofs.YtkenmldiojeooaaGreat.Ap
open Go.RowKit Tx
set_option linter.unusedVariables false
section
variable {P : Program}
theorem append_two (w : World) (base : Nat) (t ty e : TypeId) (i : TypeInfo) (z : Value) (size bytes : Nat) (ht : P.underlying t = some (.slice e)) (hi : P.info? e = some i) (hz : i.zero = some z)
    (hsize : i.size = size) (hby : i.bytes = bytes) (hzs : z.cells.size = size) (hsp : 0 < size) (hs16 : size ≤ 16)
    (v : Value) (n : Nat) (xs : List Value) (hown : w.ownsRow base e size v n xs)
    (a : Addr) (c : Nat) (us : List Value) (hul : us.length = size) (hnews : ∀ j x, us[j]? = some x → w.cell? (a.add j) = some x) (hone : ∀ x ∈ us, x.oneCell' = true)
    (hn : n + 1 ≤ 57646075230342348) (hbytes : (n + 1) * bytes ≤ 140737488355328) (hbase : base ≤ w.heap.size) :
    ∃ v' w', (Builtin.append_ #[t, t] ty #[v, .slice (some a) 1 c]).run P w = .ok v' w' ∧ w'.ownsRow base e size v' (n + 1) (xs ++ us) ∧
      ((v'.ownBlock = v.ownBlock ∧ w.grownBy w' v.ownBlock) ∨ (v'.ownBlock = some w.heap.size ∧ w.grownBy w' none)) := by
  have hlen : (xs ++ us).length = (n + 1) * size := by rw [List.length_append, hown.1, hul, Nat.add_mul, Nat.one_mul]
  have made : ∀ old, old < n + 1 → (w.drew.alloc (.cells (xs.toArray ++ us.toArray ++ Builtin.zeroCells z.cells (grownCap w (n + 1) old e - (n + 1))) e)).ownsRow base e size (.slice (some ⟨w.heap.size, 0, none⟩) (n + 1) (grownCap w (n + 1) old e)) (n + 1) (xs ++ us) ∧
      w.grownBy (w.drew.alloc (.cells (xs.toArray ++ us.toArray ++ Builtin.zeroCells z.cells (grownCap w (n + 1) old e - (n + 1))) e)) none := by
    intro old _
    have hge := grownCap_ge w (n + 1) old e
    have hcm := grownCap_le_maxLen w (n + 1) old e (by unfold maxLen; omega)
    refine ⟨⟨hlen, .inr ⟨w.heap.size, _, _, rfl, hbase, heap_alloc_new w.drew _, hge, hcm, ?_, ?_⟩⟩, ⟨rfl, rfl, rfl, by simp, fun k hk _ => Below.heap_alloc w.drew _ k hk⟩⟩
    · have h0 := hown.1
      simp only [Array.size_append, List.size_toArray, size_zeroCells, hzs, hul]
      obtain ⟨d, hd⟩ : ∃ d, grownCap w (n + 1) old e = n + 1 + d := ⟨grownCap w (n + 1) old e - (n + 1), by omega⟩
      rw [hd, h0, show n + 1 + d - (n + 1) = d by omega, Nat.add_mul, Nat.add_mul, Nat.one_mul]
    · simp only [Array.toList_append, List.append_assoc]
      rw [← List.append_assoc]
      exact List.take_left' hlen
  rcases hown.2 with ⟨rfl, rfl⟩ | ⟨g, cap, cur, rfl, hbg, hg, hnc, hcm, hcs, htake⟩
  · have hx : xs = [] := List.eq_nil_of_length_eq_zero (by simpa using hown.1)
    subst hx
    have hr := run_append_nil (P := P) w t ty e i z ht hi hz a 1 c us (by rw [hsize, hul, Nat.one_mul]) hnews (by omega) (by omega) (by rw [hby]; have h2 := hbytes; simp only [Nat.zero_add] at h2; omega)
    have hm := made 0 (by omega)
    simp only [Nat.zero_add, List.nil_append, Array.empty_append] at hm ⊢
    exact ⟨_, _, hr, hm.1, .inr ⟨rfl, hm.2⟩⟩
  · by_cases hroom : n + 1 ≤ cap
    · have hle : (n + 1) * size ≤ cap * size := Nat.mul_le_mul_right _ hroom
      have hfit : n * i.size + us.length ≤ cur.size := by rw [hsize, hcs, hul]; rw [Nat.add_mul, Nat.one_mul] at hle; exact hle
      have hr := run_append_room (P := P) w t ty e i ht hi g n cap cur hg a 1 c us (by rw [hsize, hul, Nat.one_mul]) hnews hone hroom hfit
      refine ⟨_, _, hr, ⟨hlen, .inr ⟨g, cap, _, rfl, hbg, setRow_heap w g cur _ e _ hg, hroom, hcm, ?_, ?_⟩⟩, .inl ⟨rfl, ⟨rfl, rfl, rfl, by simp, fun k _ hk => setRow_other w g k _ (fun e => hk (by simp [Value.ownBlock, e]))⟩⟩⟩
      · simp only [List.size_toArray, List.length_append, List.length_take, List.length_drop, Array.length_toList]
        omega
      · rw [hsize, htake]
        exact List.take_left' hlen
    · have hr := run_append_grow (P := P) w t ty e i z ht hi hz ⟨g, 0, none⟩ n cap xs (by rw [hsize]; exact hown.1) (hown.cells (g := g) rfl) a 1 c us (by rw [hsize, hul, Nat.one_mul]) hnews (by omega) (by omega) (growslice_fits (by omega) (by rw [hby]; exact hbytes))
      have hm := made cap (by omega)
      exact ⟨_, _, hr, hm.1, .inr ⟨rfl, hm.2⟩⟩
end
theorem wpList_append_two {P : Program} (w : World) {ops : Array Oper} {rest : List Oper} {o : Oper} {a : Act} {Q : Exit → Act → World → Prop} (hgd : o.guard = none) (s x : Operand) (t : TypeId)
    (ho : o.op = .call { callee := .builtin .append, args := #[s, x], argTypes := #[t, t] })
    (base : Nat) (e : TypeId) (i : TypeInfo) (z : Value) (size bytes : Nat) (ht : P.underlying t = some (.slice e)) (hi : P.info? e = some i) (hz : i.zero = some z)
    (hsize : i.size = size) (hby : i.bytes = bytes) (hzs : z.cells.size = size) (hsp : 0 < size) (hs16 : size ≤ 16)
    (v : Value) (n : Nat) (xs : List Value) (hs : a.eval s = v) (hown : w.ownsRow base e size v n xs)
    (ad : Addr) (c : Nat) (us : List Value) (hx : a.eval x = .slice (some ad) 1 c) (hul : us.length = size) (hnews : ∀ j x, us[j]? = some x → w.cell? (ad.add j) = some x) (hone : ∀ x ∈ us, x.oneCell' = true)
    (hn : n + 1 ≤ 57646075230342348) (hbytes : (n + 1) * bytes ≤ 140737488355328) (hbase : base ≤ w.heap.size)
    (h : ∀ v' w', w'.ownsRow base e size v' (n + 1) (xs ++ us) → ((v'.ownBlock = v.ownBlock ∧ w.grownBy w' v.ownBlock) ∨ (v'.ownBlock = some w.heap.size ∧ w.grownBy w' none)) → wpList P ops Q rest (a.put o.dst v') w') :
    wpList P ops Q (o :: rest) a w := by
  refine wpList_plain hgd fun K hK => ?_
  obtain ⟨v', w', hr, h2, h3⟩ := append_two (P := P) w base t o.type e i z size bytes ht hi hz hsize hby hzs hsp hs16 v n xs hown ad c us hul hnews hone hn hbytes hbase
  unfold Oper.wp execOp
  simp only [ho, resolve, invoke, builtin, Sem.run_bind, Sem.run_pure, Result.andThen_ok, List.map_toArray, List.map_cons, List.map_nil, hs, hx, hr]
  exact hK _ _ (h v' w' h2 h3)
end Go.Proofs.YtkenmldiojeooaaGreat.Ap

namespace Go.Proofs.YtkenmldiojeooaaGreat.Kd
open Go.RowKit Tx Um Ud Aq Km
set_option linter.unusedVariables false
def news (hs : List (Hz ByteArray)) : Nat := (hs.map (fun h => h.new.length)).sum
def Lo (w : World) (B : Nat) (v : Value) (l : List ByteArray) : Prop := w.ownsRow B 9 1 v l.length (l.map sv)
theorem Lo.below {w w1 : World} {B : Nat} {v : Value} {l : List ByteArray} (h : Lo w B v l) (hb : Below w.heap.size w w1) : Lo w1 B v l := by
  refine ⟨h.1, ?_⟩
  rcases h.2 with h0 | ⟨g', cap', cur, hv, hg, hh, r⟩
  · exact .inl h0
  · exact .inr ⟨g', cap', cur, hv, hg, (hb.block g' (Array.getElem?_eq_some_iff.1 hh).1).trans hh, r⟩
theorem Lo.form {w : World} {B : Nat} {v : Value} {l : List ByteArray} (h : Lo w B v l) : ∃ a c, v = .slice a l.length c := by
  rcases h.2 with ⟨rfl, h0⟩ | ⟨g, cap, cur, rfl, _⟩
  · exact ⟨none, 0, by rw [h0]⟩
  · exact ⟨_, cap, rfl⟩
set_option maxRecDepth 100000 in
theorem wp_append_any {w : World} {ops : Array Oper} {rest : List Oper} {o : Oper} {a : Act} {Q : Exit → Act → World → Prop} {v : Value} {l0 l : List ByteArray} {n c : Nat} {A : Option Addr} (hgd : o.guard = none) (s x : Operand)
    (ho : o.op = .call { callee := .builtin .append, args := #[s, x], argTypes := #[59, 59] }) (base : Nat) (hs : a.eval s = v) (hown : Lo w base v l0) (hx : a.eval x = .slice A n c)
    (hl : Strs w A n l) (hnil : A = none → c = 0) (hn : (l0.length + n) * 16 ≤ 140737488355328) (hb : base ≤ w.heap.size)
    (h : ∀ v' w', Lo w' base v' (l0 ++ l) → w.grownBy w' v.ownBlock → wpList Tryz.prog ops Q rest (a.put o.dst v') w') : wpList Tryz.prog ops Q (o :: rest) a w := by
  obtain ⟨i0, hi, hz0, hz1, hz2⟩ := info_parts info9
  have hln := hl.1
  cases A with
  | none =>
    have h0 : n = 0 := by
      rcases hl.2 with h | ⟨_, _, h, _⟩
      · exact h
      · cases h
    subst h0
    obtain rfl := hnil rfl
    obtain rfl : l = [] := List.length_eq_zero_iff.1 hln
    refine wpList_append_own_none hgd s x 59 ho base 9 i0 1 Tryz.underlying59 hi v l0.length (l0.map sv) hs hown hx (h v w ?_ ⟨rfl, rfl, rfl, Nat.le_refl _, fun _ _ _ => rfl⟩)
    rw [List.append_nil]
    exact hown
  | some ad =>
    refine wpList_append_own w hgd s x 59 ho base 9 i0 (.string ⟨#[]⟩) 1 16 Tryz.underlying59 hi hz0 hz1 hz2 rfl (by decide) v l0.length (l0.map sv) hs hown ad n c (l.map sv) hx (by rw [List.length_map, hln, Nat.mul_one]) (fun j u hu => ?_) (sv_one l) (by unfold maxLen; omega) hn hb ?_
    · rw [List.getElem?_map] at hu
      obtain ⟨y, hy, rfl⟩ := Option.map_eq_some_iff.1 hu
      have hj := (List.getElem?_eq_some_iff.1 hy).1
      obtain ⟨b, off, ha, hbl, hc⟩ := hl.2.resolve_left (by omega)
      injection ha with ha
      subst ha
      rw [WideShapes.add_plain]
      exact hc j y hy
    · intro v' w' h1 h2 h3
      refine h v' w' ?_ h2
      unfold Lo
      rw [List.length_append, hln, List.map_append]
      exact h1
end Go.Proofs.YtkenmldiojeooaaGreat.Kd

namespace Go.Proofs.YtkenmldiojeooaaGreat.Ud
open Go.ChangeShapes Go.WideShapes Go.RowKit Tx Um Aq
set_option linter.unusedVariables false
def dst (a b : List ByteArray) : Nat := if lng a b then 0 else Um.dist a b
def Szs (l : List ByteArray) : Prop := ∀ x, x ∈ l → x.size ≤ maxLen
theorem lng_no {a b : List ByteArray} (ha : a.length ≤ 400) (hb : b.length ≤ 400) : lng a b = false := by
  unfold lng
  rw [decide_eq_false (by omega), decide_eq_false (by omega)]
  rfl
theorem scr_no {a b : List ByteArray} (h : lng a b = false) : scr a b = runs (steps a b) := by unfold scr; rw [h]; rfl
theorem kep_no {a b : List ByteArray} (h : lng a b = false) : kep a b = pairs 0 0 (steps a b) := by unfold kep; rw [h]; rfl
theorem err_no {a b : List ByteArray} (h : lng a b = false) : err a b = 0 := by unfold err; rw [h]; rfl
theorem scr_yes {a b : List ByteArray} (h : lng a b = true) : scr a b = [] := by unfold scr; rw [h]; rfl
theorem kep_yes {a b : List ByteArray} (h : lng a b = true) : kep a b = [] := by unfold kep; rw [h]; rfl
theorem err_yes {a b : List ByteArray} (h : lng a b = true) : err a b = 4 := by unfold err; rw [h]; rfl
theorem lng_small {a b : List ByteArray} (h : lng a b = false) : a.length ≤ 400 ∧ b.length ≤ 400 := by
  unfold lng at h
  rw [Bool.or_eq_false_iff] at h
  have h1 := of_decide_eq_false h.1
  have h2 := of_decide_eq_false h.2
  omega
end Go.Proofs.YtkenmldiojeooaaGreat.Ud

namespace Go.Proofs.YtkenmldiojeooaaGreat.Ud
open Go.ChangeShapes Go.WideShapes Go.RowKit Tx Um Aq
set_option linter.unusedVariables false
def Arg (w : World) (A : Option Addr) (n c : Nat) (l : List ByteArray) : Prop := Strs w A n l ∧ (A = none → c = 0) ∧ (n + 1) * 16 ≤ 140737488355328 ∧ Szs l
theorem Arg.below {w w1 : World} {A : Option Addr} {n c : Nat} {l : List ByteArray} (h : Arg w A n c l) (hb : Below w.heap.size w w1) : Arg w1 A n c l := ⟨h.1.below hb, h.2⟩
theorem made0 (w : World) : (w.alloc (.cells #[] 9)).ownsRow w.heap.size 9 1 (.slice (some ⟨w.heap.size, 0, none⟩) 0 0) 0 [] :=
  World.ownsRow_made w #[] 0 (Nat.le_refl _) (Nat.zero_le _) rfl
def SP : ByteArray := ⟨#[115, 112, 97, 114, 101]⟩
structure Cop (w : World) (B g cp : Nat) (l : List ByteArray) : Prop where
  own : w.ownsRow B 9 1 (.slice (some ⟨g, 0, none⟩) (l.length + 1) cp) (l.length + 1) ((l ++ [SP]).map sv)
theorem Cop.below {w w1 : World} {B g cp : Nat} {l : List ByteArray} (h : Cop w B g cp l) (hb : Below w.heap.size w w1) : Cop w1 B g cp l := by
  refine ⟨h.own.1, ?_⟩
  rcases h.own.2 with h0 | ⟨g', cap', cur, hv, hg, hh, r⟩
  · exact .inl h0
  · exact .inr ⟨g', cap', cur, hv, hg, (hb.block g' (Array.getElem?_eq_some_iff.1 hh).1).trans hh, r⟩
theorem Cop.strs {w : World} {B g cp : Nat} {l : List ByteArray} (h : Cop w B g cp l) : Strs w (some ⟨g, 0, none⟩) l.length l := by
  refine ⟨rfl, .inr ⟨g, 0, rfl, (h.own.lt g rfl).2, fun k x hx => ?_⟩⟩
  rw [Nat.zero_add]
  exact own_cell h.own (by rw [List.getElem?_map, List.getElem?_append_left (List.getElem?_eq_some_iff.1 hx).1, hx]; rfl)
theorem Cop.spare {w : World} {B g cp : Nat} {l : List ByteArray} (h : Cop w B g cp l) : w.cell? ⟨g, l.length, none⟩ = some (.string ⟨#[115, 112, 97, 114, 101]⟩) :=
  own_cell h.own (by rw [List.getElem?_map, List.getElem?_append_right (Nat.le_refl _), Nat.sub_self]; rfl)
theorem Cop.cap {w : World} {B g cp : Nat} {l : List ByteArray} (h : Cop w B g cp l) : l.length + 1 ≤ cp ∧ B ≤ g ∧ g < w.heap.size := by
  rcases h.own.2 with ⟨h0, _⟩ | ⟨g', cap', cur, hv, hg, hh, hn, _, _⟩
  · cases h0
  · injection hv with h1 h2 h3
    injection h1 with h1
    injection h1 with h1
    subst h1
    subst h3
    exact ⟨hn, hg, (Array.getElem?_eq_some_iff.1 hh).1⟩
end Go.Proofs.YtkenmldiojeooaaGreat.Ud

namespace Go.Proofs.YtkenmldiojeooaaGreat.Kd
open Go.RowKit Go.ChangeShapes Go.WideShapes Tx Um Ud Aq Km
set_option linter.unusedVariables false
def LoTo (l : List ByteArray) (w : World) (e : Ending) (w' : World) : Prop := ∃ v, e = .returned v ∧ Lo w' w.heap.size v l ∧ Below w.heap.size w w'
theorem first_below {w w1 : World} {o : Obj} (h : (w.alloc o).grownBy w1 (Value.slice (some ⟨w.heap.size, 0, none⟩) 0 0).ownBlock) : Below w.heap.size w w1 :=
  ((Below.refl _ w).alloc (Nat.le_refl _) o).grown h (by simp) (fun k hk => by simp [Value.ownBlock] at hk; omega)
set_option maxRecDepth 100000 in
set_option maxHeartbeats 1000000 in
theorem kclone_any (A : Option Addr) (n c : Nat) (l : List ByteArray) (w : World) (hs : Strs w A n l) (hnil : A = none → c = 0) (hn : n ≤ 8796093022207) :
    Calls Tryz.prog 95 #[.slice A n c] w (LoTo l w) := by
  have q22 : ∀ (w : World) (a : Option Addr) (n c n' c' : Nat), (binOp .eql 59 (.slice a n c) (.slice none n' c')).run Tryz.prog w = .ok (.bool a.isNone) w := fun w a n c n' c' => Lib.run_eql_slice_nil w _ _ a n c n' c' Tryz.underlying59
  cases A with
  | none =>
    have h0 : n = 0 := by
      rcases hs.2 with h | ⟨_, _, h, _⟩
      · exact h
      · cases h
    subst h0
    obtain rfl := hnil rfl
    obtain rfl : l = [] := List.length_eq_zero_iff.1 hs.1
    clear hs hnil
    go_enter Tryz.func95, Tryz.ntmps95
    go_wp2_with fail
    go_ret
    exact ⟨_, rfl, World.ownsRow_nil _ _ _ _, Below.refl _ _⟩
  | some ad =>
    have hown : Lo (w.alloc (.cells #[] 9)) w.heap.size (.slice (some ⟨w.heap.size, 0, none⟩) 0 0) [] := made0 w
    have hs1 := hs.below ((Below.refl _ w).alloc (Nat.le_refl _) (.cells #[] 9))
    have hsz : w.heap.size ≤ (w.alloc (.cells #[] 9)).heap.size := by simp
    have HS := Lib.hid hs1
    clear hs hs1 hnil
    go_enter Tryz.func95, Tryz.ntmps95
    go_wp2_with (at_builtin; refine wp_append_any rfl _ _ rfl w.heap.size rfl hown rfl HS.out (fun e => by cases e) (by show (0 + _) * 16 ≤ _; omega) hsz ?_)
    intro v1 w1 ho1 hg1
    have hb1 := first_below hg1
    clear hown hg1
    go_wp2_with fail
    go_ret
    exact ⟨_, rfl, ho1, hb1⟩
set_option maxRecDepth 100000 in
set_option maxHeartbeats 1000000 in
theorem kequal_any (A B : Option Addr) (ca cb n : Nat) (a l : List ByteArray) (w : World) (hA : Strs w A n a) (hB : Strs w B n l) (hn : n ≤ 4611686018427387903) :
    Calls Tryz.prog 66 #[.slice A n ca, .slice B n cb] w fun e w' => e = .returned (.bool (decide (a = l))) ∧ Below w.heap.size w w' := by
  have hla := hA.1
  have hlb := hB.1
  have HA : Hid (Strs w A a.length a) := by show Strs _ _ _ _; rw [hla]; exact hA
  have HB : Hid (Strs w B l.length l) := by show Strs _ _ _ _; rw [hlb]; exact hB
  have HLA := Lib.hid hla
  have HLB := Lib.hid hlb
  have e0 : ((n : Int) == (n : Int)) = true := beq_self_eq_true _
  clear hA hB hla hlb
  go_enter Tryz.func66, Tryz.ntmps66
  go_wp2_with fail
  go_loopw [13] (fun i wr => ∃ k : Nat, k ≤ n ∧ i = .int .i64 k ∧ Hid (∀ j, (hj : j < k) → a[j]? = l[j]?) ∧ Below w.heap.size w wr) (fun i _ => n - (intOf i).toNat)
  case atStart => exact ⟨0, Nat.zero_le _, rfl, fun j hj => by omega, Below.refl _ _⟩
  case round =>
    obtain ⟨k, hk, rfl, HT, hW⟩ := hrel
    by_cases hlt : k < n
    · have hka : k < a.length := by rw [HLA.out]; exact hlt
      have hkb : k < l.length := by rw [HLB.out]; exact hlt
      obtain ⟨ba, oa, rfl, c1⟩ := strs_cell HA.out hka hW
      obtain ⟨bb, ob, rfl, c2⟩ := strs_cell HB.out hkb hW
      obtain ⟨S, hS⟩ : ∃ S, S = a[k] := ⟨_, rfl⟩
      obtain ⟨T, hT0⟩ : ∃ T, T = l[k] := ⟨_, rfl⟩
      rw [← hS] at c1
      rw [← hT0] at c2
      have hlt1 : (k : Int) < (n : Int) := by omega
      by_cases he : S = T
      · have e2 : (S.toList == T.toList) = true := by rw [he]; exact beq_self_eq_true _
        have HNX : Hid (∀ j, (hj : j < k + 1) → a[j]? = l[j]?) := fun j hj => by
          by_cases e : j = k
          · subst e
            rw [List.getElem?_eq_getElem hka, List.getElem?_eq_getElem hkb, ← hS, ← hT0, he]
          · exact HT.out j (by omega)
        clear hS hT0 he HT hka hkb
        go_wp2_with fail
        go_quiet (fail)
        go_wp2_with fail
        go_roundw
        case rel => exact ⟨k + 1, by omega, by go_num, HNX, below_drewN hW _⟩
        case measure => simp [intOf]; omega
      · have e2 : (S.toList == T.toList) = false := bytes_ne he
        have HE : Hid (decide (a = l) = false) := by
          show _ = _
          apply decide_eq_false
          intro e
          subst e
          exact he (hS.trans hT0.symm)
        clear hS hT0 he HT hka hkb
        go_wp2_with fail
        go_quiet (fail)
        go_wp2_with fail
        go_ret
        exact ⟨by rw [HE.out]; rfl, below_drewN hW _⟩
    · have hkn : k = n := by omega
      have HE : Hid (decide (a = l) = true) := by
        show _ = _
        apply decide_eq_true
        apply List.ext_getElem?
        intro j
        by_cases hj : j < n
        · exact HT.out j (by omega)
        · rw [List.getElem?_eq_none (by rw [HLA.out]; omega), List.getElem?_eq_none (by rw [HLB.out]; omega)]
      clear HT hkn
      go_wp2_with fail
      go_ret
      exact ⟨by rw [HE.out]; rfl, hW⟩
theorem rd_room {w : World} {A : Option Addr} {c lo hi : Nat} {l : List ByteArray} (h : Strs w A l.length l) (h1 : lo ≤ hi) (h2 : hi ≤ l.length) (hc : l.length ≤ c) (hnil : A = none → c = 0) :
    ∃ A', sliced A lo hi c 1 = .slice A' (hi - lo) (c - lo) ∧ Strs w A' (hi - lo) ((l.take hi).drop lo) ∧ (A' = none → c - lo = 0) := by
  obtain ⟨A', c', e, h3, h4⟩ := rd_sub h h1 h2 hc hnil
  have hl : ((l.take hi).drop lo).length = hi - lo := by rw [List.length_drop, List.length_take]; omega
  rw [hl] at h3
  have e2 := e
  unfold sliced at e2
  injection e2 with e3 e4 e5
  refine ⟨A', by rw [e, hl, e5], h3, fun hz => ?_⟩
  rw [e5]
  exact h4 hz
end Go.Proofs.YtkenmldiojeooaaGreat.Kd

namespace Go.Proofs.YtkenmldiojeooaaGreat.Mg
open Go.RowKit Go.ChangeShapes Go.WideShapes Tx Um Ud Aq Km Kd Lm Ln
set_option linter.unusedVariables false
theorem infoC : (Tryz.prog.info? 76).map (fun i => (i.zero, i.size, i.bytes)) = some (some (.agg #[.bool false, .slice none 0 0, .slice none 0 0, .slice none 0 0]), 4, 80) := by kernel_rfl
abbrev Cc := Bool × Value × Value × Value
def h4 (x : Cc) : List Value := [.bool x.1, x.2.1, x.2.2.1, x.2.2.2]
theorem flat5_len (l : List Cc) : (l.flatMap h4).length = l.length * 4 := by
  induction l with
  | nil => rfl
  | cons x l ih => rw [List.flatMap_cons, List.length_append, ih, List.length_cons]; show 4 + _ = _; omega
theorem flat5_get (l : List Cc) (k : Nat) (x : Cc) (h : l[k]? = some x) : (l.flatMap h4)[k * 4]? = some (.bool x.1) ∧ (l.flatMap h4)[k * 4 + 1]? = some x.2.1 ∧ (l.flatMap h4)[k * 4 + 2]? = some x.2.2.1 ∧ (l.flatMap h4)[k * 4 + 3]? = some x.2.2.2 := by
  induction l generalizing k with
  | nil => cases h
  | cons y l ih =>
    rw [List.flatMap_cons]
    cases k with
    | zero =>
      injection h with h
      subst h
      exact ⟨rfl, rfl, rfl, rfl⟩
    | succ k =>
      obtain ⟨k1, k2, k3, k4⟩ := ih k h
      have e : (h4 y).length = 4 := rfl
      rw [List.getElem?_append_right (by omega), List.getElem?_append_right (by omega), List.getElem?_append_right (by omega), List.getElem?_append_right (by omega), e, show (k + 1) * 4 - 4 = k * 4 by omega, show (k + 1) * 4 + 1 - 4 = k * 4 + 1 by omega, show (k + 1) * 4 + 2 - 4 = k * 4 + 2 by omega, show (k + 1) * 4 + 3 - 4 = k * 4 + 3 by omega]
      exact ⟨k1, k2, k3, k4⟩
def Cs (w : World) (B : Nat) (v : Value) (cs : List Cc) : Prop := w.ownsRow B 76 4 v cs.length (cs.flatMap h4)
theorem Cs.below {w w1 : World} {B : Nat} {v : Value} {cs : List Cc} (h : Cs w B v cs) (hb : Below w.heap.size w w1) : Cs w1 B v cs := by
  refine ⟨h.1, ?_⟩
  rcases h.2 with h0 | ⟨g', cap', cur, hv, hg, hh, r⟩
  · exact .inl h0
  · exact .inr ⟨g', cap', cur, hv, hg, (hb.block g' (Array.getElem?_eq_some_iff.1 hh).1).trans hh, r⟩
theorem cs_nil (w : World) (B : Nat) : Cs w B (.slice none 0 0) [] := World.ownsRow_nil _ _ _ _
def IsC (w : World) : List Cc → List (Ck ByteArray) → Prop
  | [], [] => True
  | c :: cs, h :: hs => c.1 = h.st ∧ Rd w c.2.1 h.b ∧ Rd w c.2.2.1 h.l ∧ Rd w c.2.2.2 h.r ∧ IsC w cs hs
  | _, _ => False
theorem IsC.below {w w1 : World} (hb : Below w.heap.size w w1) : ∀ {cs : List Cc} {hs : List (Ck ByteArray)}, IsC w cs hs → IsC w1 cs hs
  | [], [], _ => trivial
  | _ :: _, _ :: _, h => ⟨h.1, h.2.1.below hb, h.2.2.1.below hb, h.2.2.2.1.below hb, IsC.below hb h.2.2.2.2⟩
theorem IsC.len {w : World} : ∀ {cs : List Cc} {hs : List (Ck ByteArray)}, IsC w cs hs → cs.length = hs.length
  | [], [], _ => rfl
  | _ :: _, _ :: _, h => by rw [List.length_cons, List.length_cons, IsC.len h.2.2.2.2]
theorem IsC.get {w : World} : ∀ {cs : List Cc} {hs : List (Ck ByteArray)}, IsC w cs hs → ∀ (k : Nat) x, hs[k]? = some x → ∃ c, cs[k]? = some c ∧ c.1 = x.st ∧ Rd w c.2.1 x.b ∧ Rd w c.2.2.1 x.l ∧ Rd w c.2.2.2 x.r
  | [], [], _ => fun k x hx => by cases hx
  | c :: cs, h :: hs, hi => fun k x hx => by
    cases k with
    | zero =>
      injection hx with hx
      subst hx
      exact ⟨c, rfl, hi.1, hi.2.1, hi.2.2.1, hi.2.2.2.1⟩
    | succ k => exact IsC.get hi.2.2.2.2 k x hx
def CkR (w : World) (a : Option Addr) (n : Nat) (hs : List (Ck ByteArray)) : Prop := hs.length = n ∧ (n = 0 ∨ ∃ b off, a = some ⟨b, off, none⟩ ∧ b < w.heap.size ∧ ∀ (k : Nat) x, hs[k]? = some x → ∃ ub ul ur,
  w.cell? ⟨b, off + k * 4, none⟩ = some (.bool x.st) ∧ w.cell? ⟨b, off + k * 4 + 1, none⟩ = some ub ∧ w.cell? ⟨b, off + k * 4 + 2, none⟩ = some ul ∧ w.cell? ⟨b, off + k * 4 + 3, none⟩ = some ur ∧ Rd w ub x.b ∧ Rd w ul x.l ∧ Rd w ur x.r)
theorem CkR.below {w w1 : World} {a : Option Addr} {n : Nat} {hs : List (Ck ByteArray)} (h : CkR w a n hs) (hb : Below w.heap.size w w1) : CkR w1 a n hs := by
  refine ⟨h.1, ?_⟩
  rcases h.2 with h0 | ⟨b, off, ha, hlt, hc⟩
  · exact .inl h0
  · refine .inr ⟨b, off, ha, Nat.lt_of_lt_of_le hlt hb.size, fun k x hx => ?_⟩
    obtain ⟨ub, ul, ur, c0, c1, c2, c3, r1, r2, r3⟩ := hc k x hx
    exact ⟨ub, ul, ur, (hb.cell (p := ⟨b, _, none⟩) hlt).trans c0, (hb.cell (p := ⟨b, _, none⟩) hlt).trans c1, (hb.cell (p := ⟨b, _, none⟩) hlt).trans c2, (hb.cell (p := ⟨b, _, none⟩) hlt).trans c3, r1.below hb, r2.below hb, r3.below hb⟩
theorem Cs.form {w : World} {B : Nat} {v : Value} {cs : List Cc} {hs : List (Ck ByteArray)} (h : Cs w B v cs) (hi : IsC w cs hs) : ∃ a c, v = .slice a hs.length c ∧ CkR w a hs.length hs := by
  have hh := h
  have hl := hi.len
  rcases h.2 with ⟨rfl, h0⟩ | ⟨g, cap, cur, rfl, hg, hh2, hn, hc, _⟩
  · exact ⟨none, 0, by rw [← hl, h0], rfl, .inl (by omega)⟩
  · refine ⟨some ⟨g, 0, none⟩, cap, by rw [hl], rfl, .inr ⟨g, 0, rfl, (Array.getElem?_eq_some_iff.1 hh2).1, fun k x hx => ?_⟩⟩
    obtain ⟨c, hck, k1, k2, k3, k4⟩ := hi.get k x hx
    obtain ⟨h1, h2, h3, h4'⟩ := flat5_get cs k c hck
    have e1 := hh.cells (g := g) rfl _ _ h1
    have e2 := hh.cells (g := g) rfl _ _ h2
    have e3 := hh.cells (g := g) rfl _ _ h3
    have e4 := hh.cells (g := g) rfl _ _ h4'
    rw [WideShapes.add_plain] at e1 e2 e3 e4
    rw [k1] at e1
    exact ⟨_, _, _, e1, e2, e3, e4, k2, k3, k4⟩
def vals3 (cs : List Cc) : List Value := cs.flatMap fun c => [c.2.1, c.2.2.1, c.2.2.2]
structure OwnC (w : World) (B : Nat) (cs : List Cc) (hs : List (Ck ByteArray)) : Prop where
  each : ∀ (k : Nat) c h, cs[k]? = some c → hs[k]? = some h → Lo w B c.2.1 h.b ∧ Lo w B c.2.2.1 h.l ∧ Lo w B c.2.2.2 h.r
  far : ∀ (i j : Nat) u v g, (vals3 cs)[i]? = some u → (vals3 cs)[j]? = some v → i ≠ j → u.ownBlock = some g → v.ownBlock ≠ some g
theorem OwnC.nil (w : World) (B : Nat) : OwnC w B [] [] := ⟨(fun k c x h1 _ => by cases h1), (fun i j u v g h1 _ _ => by cases h1)⟩
def chs (s t u : ByteArray) : List (Ck ByteArray) := if err3 s t u = 0 then pcs3 s t u else []
def ChTo (hs : List (Ck ByteArray)) (er : Nat) (w : World) (e : Ending) (w' : World) : Prop := ∃ v cs, e = .returned (.tuple #[v, .int .i64 (er : Int)]) ∧ Cs w' w.heap.size v cs ∧ IsC w' cs hs ∧ OwnC w' w.heap.size cs hs ∧ Below w.heap.size w w'
def mtx (s t u : ByteArray) : ByteArray := if err3 s t u = 0 then txs (pcs3 s t u) else ⟨#[]⟩
def mcf (s t u : ByteArray) : Nat := if err3 s t u = 0 then cfs (pcs3 s t u) else 0
def MgTo (s t u : ByteArray) (w : World) (e : Ending) (w' : World) : Prop := e = .returned (.tuple #[.string (mtx s t u), .int .i64 (mcf s t u : Nat), .int .i64 (err3 s t u : Nat)]) ∧ Below w.heap.size w w'
end Go.Proofs.YtkenmldiojeooaaGreat.Mg

namespace Go.Proofs.YtkenmldiojeooaaGreat.Rg
open Go.RowKit
set_option linter.unusedVariables false
def Only (R : Act → World → Prop) : Exit → Act → World → Prop
  | .normal, a, w => R a w
  | _, _, _ => False
theorem wp_only {P : Program} {c : Code} {Q : Exit → Act → World → Prop} {R : Act → World → Prop} {a : Act} {w : World} (hR : ∀ a w, R a w → Q .normal a w) (h : c.wp P (Only R) a w) : c.wp P Q a w :=
  Code.wp_mono (fun e a w h => by cases e <;> first | exact hR _ _ h | exact (h : False).elim) h
def regOps (n : Nat) : Code → Option (Array Oper)
  | .region id ops _ => if id = n then some ops else none
  | .seq a b => (match regOps n a with | some x => some x | none => regOps n b)
  | .cond _ a b => (match regOps n a with | some x => some x | none => regOps n b)
  | .block _ a => regOps n a
  | .loop a => regOps n a
  | .scope a => regOps n a
  | .rangeFunc _ _ a b => (match regOps n a with | some x => some x | none => regOps n b)
  | _ => none
def opsOf (f : Func) (n : Nat) : Array Oper := match f.body with | some c => (regOps n c).getD #[] | none => #[]
def opOf (ops : Array Oper) (i : Nat) : Oper := (ops[i]?).getD default
section
variable {P : Program} {ops : Array Oper} {R : Act → World → Prop} {S : World → Prop}
theorem opOf_some {i : Nat} (h : decide (i < ops.size) = true) : ops[i]? = some (opOf ops i) := by
  have h := of_decide_eq_true h
  rw [opOf, Array.getElem?_eq_getElem h]
  rfl
theorem take (i : Nat) (d : Option Tmp) (v : Value) {fuel : Nat} {listed : Array Bool} {a : Act} {w : World} (hs : Region.noSelect ops = true)
    (hi : decide (i < ops.size) = true) (hd : (opOf ops i).dst = d) (hf : Region.free .any ops listed i = true) (hr : (Region.ready .any ops listed).contains i = true)
    (hw : Region.wanted (opOf ops i) (yielded ops a.tmps) = true) (hS : S w)
    (hy : ∀ w, S w → (execOp a.eval (opOf ops i)).run P w = .ok (.value v) w)
    (h : wpAnyH P .any ops (Only R) S fuel (listed.setIfInBounds i true) (a.put d v) w) : wpAnyH P .any ops (Only R) S (fuel + 1) listed a w := by
  subst hd
  exact wpAnyH_take (opOf_some hi) hs hf hr (fun _ _ _ h => h) (Or.inl ⟨hw, hy⟩) hS h
theorem skip (i : Nat) (d : Option Tmp) {fuel : Nat} {listed : Array Bool} {a : Act} {w : World} (hs : Region.noSelect ops = true)
    (hi : decide (i < ops.size) = true) (hd : (opOf ops i).dst = d) (hf : Region.free .any ops listed i = true) (hr : (Region.ready .any ops listed).contains i = true)
    (hw : Region.wanted (opOf ops i) (yielded ops a.tmps) = false) (hS : S w)
    (h : wpAnyH P .any ops (Only R) S fuel (listed.setIfInBounds i true) (a.put d undef) w) : wpAnyH P .any ops (Only R) S (fuel + 1) listed a w := by
  subst hd
  exact wpAnyH_take (opOf_some hi) hs hf hr (fun _ _ _ h => h) (Or.inr ⟨hw, rfl⟩) hS h
theorem enters {f : FuncId} {fn : Func} (hf : P.funcs[f]? = some fn) (hn : (fn.name == "runtime.NumGoroutine") = false) (hb : fn.body.isNone = false) (args : Array Value) (w : World) : (callFunc f args).run P w = .ok (.enter f args) w := by
  have h1 : fn.name ≠ "runtime.NumGoroutine" := by simpa using hn
  have h2 : fn.body ≠ none := fun h => by rw [h] at hb; cases hb
  simp [callFunc, hf, h1, h2]
theorem call (i : Nat) (d : Option Tmp) (f : FuncId) (args : Array Value) {fn : Func} {xs : Array Operand} {ats : Array TypeId} {fuel : Nat} {listed : Array Bool} {a : Act} {w : World}
    (hi : decide (i < ops.size) = true) (hd : (opOf ops i).dst = d) (hr : Region.ready .any ops listed = [i])
    (hw : Region.wanted (opOf ops i) (yielded ops a.tmps) = true) (ho : (opOf ops i).op = .call { callee := .value (.func f), args := xs, argTypes := ats })
    (hf : P.funcs[f]? = some fn) (hn : (fn.name == "runtime.NumGoroutine") = false) (hb : fn.body.isNone = false) (hx : xs.map a.eval = args)
    (h : Calls P f args w fun e w' => ∃ v, e = .returned v ∧ S w' ∧ (S w' → wpAnyH P .any ops (Only R) S fuel (listed.setIfInBounds i true) (a.put d v) w')) :
    wpAnyH P .any ops (Only R) S (fuel + 1) listed a w := by
  subst hd
  refine wpAnyH_all hr (by simp) fun j hj => ?_
  obtain rfl : j = i := by simpa using hj
  unfold wpOp
  rw [opOf_some hi]
  simp only [hw, if_true]
  refine .inl ?_
  have he : execOp a.eval (opOf ops j) = callFunc f args := by
    rw [← hx]
    generalize opOf ops j = o at ho
    obtain ⟨dst, op, ty, pos, after, guard⟩ := o
    subst ho
    have := execOp_call_go a dst f xs ats ty pos after guard
    simpa using this
  unfold Oper.wp
  rw [he, enters hf hn hb]
  refine Calls.mono h fun e w' hh => ?_
  obtain ⟨v, rfl, hS, hh⟩ := hh
  exact ⟨hS, hh hS⟩
theorem done {fuel : Nat} {listed : Array Bool} {a : Act} {w : World} (hr : Region.ready .any ops listed = []) (h : R a w) : wpAnyH P .any ops (Only R) S fuel listed a w :=
  wpAnyH_done hr h fuel
theorem y_move {o : Oper} {a : Act} {x : Operand} {v : Value} (ho : o.op = .move x ∨ o.op = .assign x) (hv : a.eval x = v) : ∀ w, S w → (execOp a.eval o).run P w = .ok (.value v) w := by
  intro w _
  obtain ⟨dst, op, ty, pos, after, guard⟩ := o
  rcases ho with ho | ho <;> (simp only at ho; subst ho; rw [← hv]; rfl)
theorem y_bin {o : Oper} {a : Act} {b : BinOp} {T R' : TypeId} {x y : Operand} {vx vy v : Value} (ho : o.op = .binOp b T x y R') (hx : a.eval x = vx) (hy : a.eval y = vy)
    (hv : ∀ w, S w → (do eqGuard b T x y vx vy; binOp b T vx vy : Sem Value).run P w = .ok v w) : ∀ w, S w → (execOp a.eval o).run P w = .ok (.value v) w := by
  intro w hw
  obtain ⟨dst, op, ty, pos, after, guard⟩ := o
  simp only at ho
  subst ho
  have := hv w hw
  simp only [execOp, hx, hy]
  simp only [Sem.run_bind] at this ⊢
  rw [this]
  rfl
theorem y_un {o : Oper} {a : Act} {b : UnOp} {T : TypeId} {x : Operand} {vx v : Value} (ho : o.op = .unOp b T x) (hx : a.eval x = vx)
    (hv : ∀ w, S w → (Op.unary b vx).run P w = .ok v w) : ∀ w, S w → (execOp a.eval o).run P w = .ok (.value v) w := by
  intro w hw
  obtain ⟨dst, op, ty, pos, after, guard⟩ := o
  simp only at ho
  subst ho
  have := hv w hw
  simp only [execOp, hx, Sem.run_bind]
  rw [this]
  rfl
theorem y_at {o : Oper} {a : Act} {T : TypeId} {x y : Operand} {vx vy v : Value} (ho : o.op = .indexAddr T x y) (hx : a.eval x = vx) (hy : a.eval y = vy)
    (hv : ∀ w, S w → (Instr.indexAt T vx vy).run P w = .ok v w) : ∀ w, S w → (execOp a.eval o).run P w = .ok (.value v) w := by
  intro w hw
  obtain ⟨dst, op, ty, pos, after, guard⟩ := o
  simp only at ho
  subst ho
  have := hv w hw
  simp only [execOp, hx, hy, Sem.run_bind]
  rw [this]
  rfl
theorem y_load {o : Oper} {a : Act} {T : TypeId} {x : Operand} {vx v : Value} (ho : o.op = .load T x) (hx : a.eval x = vx)
    (hv : ∀ w, S w → (Instr.loadAt T vx).run P w = .ok v w) : ∀ w, S w → (execOp a.eval o).run P w = .ok (.value v) w := by
  intro w hw
  obtain ⟨dst, op, ty, pos, after, guard⟩ := o
  simp only at ho
  subst ho
  have := hv w hw
  simp only [execOp, hx, Sem.run_bind]
  rw [this]
  rfl
theorem y_pick {o : Oper} {a : Act} {c x y : Operand} {b : Bool} {v : Value} (ho : o.op = .pick c x y) (hc : a.eval c = .bool b) (hv : (if b then a.eval x else a.eval y) = v) :
    ∀ w, S w → (execOp a.eval o).run P w = .ok (.value v) w := by
  intro w hw
  obtain ⟨dst, op, ty, pos, after, guard⟩ := o
  simp only at ho
  subst ho
  rw [← hv]
  simp only [execOp, hc]
  rfl
theorem y_field {o : Oper} {a : Act} {T k : Nat} {x : Operand} {vx v : Value} (ho : o.op = .fieldAddr T x k) (hx : a.eval x = vx)
    (hv : ∀ w, S w → (Instr.fieldAt T vx k).run P w = .ok v w) : ∀ w, S w → (execOp a.eval o).run P w = .ok (.value v) w := by
  intro w hw
  obtain ⟨dst, op, ty, pos, after, guard⟩ := o
  simp only at ho
  subst ho
  have := hv w hw
  simp only [execOp, hx, Sem.run_bind]
  rw [this]
  rfl
theorem store (i : Nat) {T : TypeId} {x y : Operand} {vx vy : Value} {w1 : World} {fuel : Nat} {listed : Array Bool} {a : Act} {w : World}
    (hi : decide (i < ops.size) = true) (hd : (opOf ops i).dst = none) (hr : Region.ready .any ops listed = [i])
    (hw : Region.wanted (opOf ops i) (yielded ops a.tmps) = true) (ho : (opOf ops i).op = .store T x y) (hx : a.eval x = vx) (hy : a.eval y = vy)
    (hv : (Instr.storeAt T vx vy).run P w = .ok () w1) (hS : S w1)
    (h : S w1 → wpAnyH P .any ops (Only R) S fuel (listed.setIfInBounds i true) a w1) :
    wpAnyH P .any ops (Only R) S (fuel + 1) listed a w := by
  refine wpAnyH_all hr (by simp) fun j hj => ?_
  obtain rfl : j = i := by simpa using hj
  unfold wpOp
  rw [opOf_some hi]
  simp only [hw, if_true]
  refine .inl ?_
  have he : (execOp a.eval (opOf ops j)).run P w = .ok .skip w1 := by
    generalize opOf ops j = o at ho
    obtain ⟨dst, op, ty, pos, after, guard⟩ := o
    simp only at ho
    subst ho
    simp only [execOp, hx, hy, Sem.run_bind]
    rw [hv]
    rfl
  unfold Oper.wp
  rw [he, Oper.upon_skip, hd]
  exact ⟨hS, h hS⟩
theorem op_call (i : Nat) (d : Option Tmp) (f : FuncId) (args : Array Value) {fn : Func} {xs : Array Operand} {ats : Array TypeId} {fuel : Nat} {listed : Array Bool} {a : Act} {w : World}
    (hi : decide (i < ops.size) = true) (hd : (opOf ops i).dst = d)
    (hw : Region.wanted (opOf ops i) (yielded ops a.tmps) = true) (ho : (opOf ops i).op = .call { callee := .value (.func f), args := xs, argTypes := ats })
    (hf : P.funcs[f]? = some fn) (hn : (fn.name == "runtime.NumGoroutine") = false) (hb : fn.body.isNone = false) (hx : xs.map a.eval = args)
    (h : Calls P f args w fun e w' => ∃ v, e = .returned v ∧ S w' ∧ (S w' → wpAnyH P .any ops (Only R) S fuel (listed.setIfInBounds i true) (a.put d v) w')) :
    wpOp P ops (Only R) i (fun a' w' => S w' ∧ wpAnyH P .any ops (Only R) S fuel (listed.setIfInBounds i true) a' w') a w := by
  subst hd
  unfold wpOp
  rw [opOf_some hi]
  simp only [hw, if_true]
  refine .inl ?_
  have he : execOp a.eval (opOf ops i) = callFunc f args := by
    rw [← hx]
    generalize opOf ops i = o at ho
    obtain ⟨dst, op, ty, pos, after, guard⟩ := o
    subst ho
    have := execOp_call_go a dst f xs ats ty pos after guard
    simpa using this
  unfold Oper.wp
  rw [he, enters hf hn hb]
  refine Calls.mono h fun e w' hh => ?_
  obtain ⟨v, rfl, hS, hh⟩ := hh
  exact ⟨hS, hh hS⟩
theorem op_alloc (i : Nat) (d : Option Tmp) {T : TypeId} {v : Value} {w1 : World} {fuel : Nat} {listed : Array Bool} {a : Act} {w : World}
    (hi : decide (i < ops.size) = true) (hd : (opOf ops i).dst = d)
    (hw : Region.wanted (opOf ops i) (yielded ops a.tmps) = true) (ho : (opOf ops i).op = .alloc T)
    (hv : (Instr.alloc T true (.tuple #[])).run P w = .ok v w1) (hS : S w1)
    (h : S w1 → wpAnyH P .any ops (Only R) S fuel (listed.setIfInBounds i true) (a.put d v) w1) :
    wpOp P ops (Only R) i (fun a' w' => S w' ∧ wpAnyH P .any ops (Only R) S fuel (listed.setIfInBounds i true) a' w') a w := by
  subst hd
  unfold wpOp
  rw [opOf_some hi]
  simp only [hw, if_true]
  refine .inl ?_
  have he : (execOp a.eval (opOf ops i)).run P w = .ok (.value v) w1 := by
    generalize opOf ops i = o at ho
    obtain ⟨dst, op, ty, pos, after, guard⟩ := o
    simp only at ho
    subst ho
    simp only [execOp, Sem.run_bind]
    rw [hv]
    rfl
  unfold Oper.wp
  rw [he, Oper.upon_value]
  exact ⟨hS, h hS⟩
theorem one {i : Nat} {fuel : Nat} {listed : Array Bool} {a : Act} {w : World} (hr : Region.ready .any ops listed = [i])
    (h : wpOp P ops (Only R) i (fun a' w' => S w' ∧ wpAnyH P .any ops (Only R) S fuel (listed.setIfInBounds i true) a' w') a w) : wpAnyH P .any ops (Only R) S (fuel + 1) listed a w :=
  wpAnyH_all hr (by simp) fun j hj => by obtain rfl : j = i := by simpa using hj
                                         exact h
theorem two {i j : Nat} {fuel : Nat} {listed : Array Bool} {a : Act} {w : World} (hr : Region.ready .any ops listed = [i, j])
    (h1 : wpOp P ops (Only R) i (fun a' w' => S w' ∧ wpAnyH P .any ops (Only R) S fuel (listed.setIfInBounds i true) a' w') a w)
    (h2 : wpOp P ops (Only R) j (fun a' w' => S w' ∧ wpAnyH P .any ops (Only R) S fuel (listed.setIfInBounds j true) a' w') a w) : wpAnyH P .any ops (Only R) S (fuel + 1) listed a w :=
  wpAnyH_all hr (by simp) fun k hk => by
    rcases (by simpa using hk : k = i ∨ k = j) with rfl | rfl
    · exact h1
    · exact h2
end
end Go.Proofs.YtkenmldiojeooaaGreat.Rg

namespace Go.Proofs.YtkenmldiojeooaaGreat.Rg
open Go.RowKit
set_option linter.unusedVariables false
section
variable {P : Program} {S : World → Prop}
end
section
variable {P : Program} {ops : Array Oper} {R : Act → World → Prop} {S : World → Prop}
theorem bld (i : Nat) (d : Option Tmp) {T : TypeId} {len : Nat} {parts : Array (Nat × Operand)} {vs : Array (Nat × Value)} {v : Value} {w1 : World} {fuel : Nat} {listed : Array Bool} {a : Act} {w : World}
    (hi : decide (i < ops.size) = true) (hd : (opOf ops i).dst = d) (hr : Region.ready .any ops listed = [i])
    (hw : Region.wanted (opOf ops i) (yielded ops a.tmps) = true) (ho : (opOf ops i).op = .buildSlice T len parts) (hx : (parts.map fun (i, x) => (i, a.eval x)) = vs)
    (hv : (Instr.buildSlice T len vs).run P w = .ok v w1) (hS : S w1)
    (h : S w1 → wpAnyH P .any ops (Only R) S fuel (listed.setIfInBounds i true) (a.put d v) w1) : wpAnyH P .any ops (Only R) S (fuel + 1) listed a w := by
  refine one hr ?_
  subst hd
  unfold wpOp
  rw [opOf_some hi]
  simp only [hw, if_true]
  refine .inl ?_
  have he : (execOp a.eval (opOf ops i)).run P w = .ok (.value v) w1 := by
    generalize opOf ops i = o at ho
    obtain ⟨dst, op, ty, pos, after, guard⟩ := o
    simp only at ho
    subst ho
    simp only [execOp, Sem.run_bind]
    rw [hx, hv]
    rfl
  unfold Oper.wp
  rw [he, Oper.upon_value]
  exact ⟨hS, h hS⟩
end
end Go.Proofs.YtkenmldiojeooaaGreat.Rg

namespace Go.Proofs.YtkenmldiojeooaaGreat.Rg
open Go.RowKit
set_option linter.unusedVariables false
set_option linter.unusedSimpArgs false
set_option linter.unnecessarySimpa false
section
variable {P : Program} {ops : Array Oper} {R : Act → World → Prop} {S : World → Prop}
theorem app1 (i : Nat) (d : Option Tmp) {T : TypeId} {x y : Operand} {vx vy : Value} {fuel : Nat} {listed : Array Bool} {a : Act} {w : World}
    (hi : decide (i < ops.size) = true) (hd : (opOf ops i).dst = d) (hr : Region.ready .any ops listed = [i])
    (hw : Region.wanted (opOf ops i) (yielded ops a.tmps) = true) (ho : (opOf ops i).op = .call { callee := .builtin .append, args := #[x, y], argTypes := #[T, T] }) (hx : a.eval x = vx) (hy : a.eval y = vy)
    (h : ∀ ty, ∃ v w1, (Builtin.append_ #[T, T] ty #[vx, vy]).run P w = .ok v w1 ∧ S w1 ∧ (S w1 → wpAnyH P .any ops (Only R) S fuel (listed.setIfInBounds i true) (a.put d v) w1)) :
    wpAnyH P .any ops (Only R) S (fuel + 1) listed a w := by
  refine one hr ?_
  subst hd
  unfold wpOp
  rw [opOf_some hi]
  simp only [hw, if_true]
  refine .inl ?_
  obtain ⟨v, w1, hrun, hS, hk⟩ := h (opOf ops i).type
  generalize opOf ops i = o at ho hrun hk ⊢
  obtain ⟨dst, op, ty, pos, after, guard⟩ := o
  simp only at ho hrun hk ⊢
  subst ho
  unfold Oper.wp
  simp only [execOp, resolve, invoke, builtin, Sem.run_bind, Sem.run_pure, Result.andThen_ok, List.map_toArray, List.map_cons, List.map_nil, hx, hy, hrun]
  exact ⟨hS, hk hS⟩
theorem op_bld (i : Nat) (d : Option Tmp) {T : TypeId} {len : Nat} {parts : Array (Nat × Operand)} {vs : Array (Nat × Value)} {v : Value} {w1 : World} {fuel : Nat} {listed : Array Bool} {a : Act} {w : World}
    (hi : decide (i < ops.size) = true) (hd : (opOf ops i).dst = d)
    (hw : Region.wanted (opOf ops i) (yielded ops a.tmps) = true) (ho : (opOf ops i).op = .buildSlice T len parts) (hx : (parts.map fun (i, x) => (i, a.eval x)) = vs)
    (hv : (Instr.buildSlice T len vs).run P w = .ok v w1) (hS : S w1)
    (h : S w1 → wpAnyH P .any ops (Only R) S fuel (listed.setIfInBounds i true) (a.put d v) w1) :
    wpOp P ops (Only R) i (fun a' w' => S w' ∧ wpAnyH P .any ops (Only R) S fuel (listed.setIfInBounds i true) a' w') a w := by
  subst hd
  unfold wpOp
  rw [opOf_some hi]
  simp only [hw, if_true]
  refine .inl ?_
  have he : (execOp a.eval (opOf ops i)).run P w = .ok (.value v) w1 := by
    generalize opOf ops i = o at ho
    obtain ⟨dst, op, ty, pos, after, guard⟩ := o
    simp only at ho
    subst ho
    simp only [execOp, Sem.run_bind]
    rw [hx, hv]
    rfl
  unfold Oper.wp
  rw [he, Oper.upon_value]
  exact ⟨hS, h hS⟩
end
end Go.Proofs.YtkenmldiojeooaaGreat.Rg

namespace Go.Proofs.YtkenmldiojeooaaGreat.Rg
open Go.RowKit
set_option linter.unusedVariables false
section
variable {P : Program} {S : World → Prop}
theorem y_build {o : Oper} {a : Act} {T : TypeId} {parts : Array (Nat × Operand)} {vs : Array (Nat × Value)} {v : Value} (ho : o.op = .build T parts) (hx : (parts.map fun (i, x) => (i, a.eval x)) = vs)
    (hv : ∀ w, S w → (Instr.build T vs).run P w = .ok v w) : ∀ w, S w → (execOp a.eval o).run P w = .ok (.value v) w := by
  intro w hw
  obtain ⟨dst, op, ty, pos, after, guard⟩ := o
  simp only at ho
  subst ho
  have := hv w hw
  simp only [execOp, Sem.run_bind]
  rw [hx, this]
  rfl
theorem y_sl2 {o : Oper} {a : Act} {T : TypeId} {x l h : Operand} {vx vl vh v : Value} (ho : o.op = .slice T x (some l) (some h) none) (hx : a.eval x = vx) (hl : a.eval l = vl) (hh : a.eval h = vh)
    (hv : ∀ w, S w → (Instr.sliceAt T vx (some vl) (some vh) none).run P w = .ok v w) : ∀ w, S w → (execOp a.eval o).run P w = .ok (.value v) w := by
  intro w hw
  obtain ⟨dst, op, ty, pos, after, guard⟩ := o
  simp only at ho
  subst ho
  have := hv w hw
  simp only [execOp, hx, hl, hh, Option.map_some, Option.map_none, Sem.run_bind]
  rw [this]
  rfl
end
end Go.Proofs.YtkenmldiojeooaaGreat.Rg
namespace Go.Proofs.YtkenmldiojeooaaGreat.Mg
open Go.RowKit Tx
set_option linter.unusedVariables false
set_option maxRecDepth 100000 in
set_option maxHeartbeats 4000000 in
theorem stableReg (ops : Array Oper) (hops : ops = (Rg.opsOf Tryz.f72 11)) (id : Nat) (gx ox gy oy nx ny cx cy i k p q s : Nat) (vL : Value) {u0 u1 u2 u3 u4 u5 u6 u8 u10 u14 u15 u16 u17 u18 u19 u20 u21 u22 u23 u24 u25 u26 u27 u28 u29 u30 u31 u32 u33 u34 u35 u36 u37 u38 u39 u40 u41 u42 u43 u44 u45 u46 u47 u48 u49 u50 u51 u52 u53 u54 u55 u56 u57 u58 u59 u60 u61 u62 u63 u64 u65 u66 u67 u68 : Value} (w : World) (hi : (i : Int) < (nx : Int)) (hk : (k : Int) < (ny : Int)) (X : World → Prop) (Z : Value → World → Prop)
    (hX : ∀ W, X W → W.cell? ⟨gx, ox + i * 2, none⟩ = some (.int .i64 (p : Int)) ∧ W.cell? ⟨gx, ox + i * 2 + 1, none⟩ = some (.int .i64 (q : Int)) ∧ W.cell? ⟨gy, oy + k * 2 + 1, none⟩ = some (.int .i64 (s : Int))) (hw : X w.drew)
    (hX2 : X (w.drew.alloc (.cells #[.int .i64 (p : Int), .int .i64 (q : Int), .int .i64 (s : Int)] 103)))
    (hE : ∀ ty, ∃ v8 w8, (Builtin.append_ #[109, 109] ty #[vL, .slice (some ⟨w.heap.size, 0, none⟩) 1 1]).run Tryz.prog (w.drew.alloc (.cells #[.int .i64 (p : Int), .int .i64 (q : Int), .int .i64 (s : Int)] 103)) = .ok v8 w8 ∧ X w8 ∧ Z v8 w8) :
    (Code.region id ops true).wp Tryz.prog (Rg.Only fun a' w' => ∃ v8 : Value, a' = ⟨#[u0, u1, u2, u3, u4, u5, u6, (.slice (some ⟨gx, ox, none⟩) nx cx), u8, (.slice (some ⟨gy, oy, none⟩) ny cy), u10, v8, (.int .i64 (i : Int)), (.int .i64 (k : Int)), u14, u15, u16, u17, u18, u19, u20, u21, u22, u23, u24, u25, u26, u27, u28, u29, u30, u31, u32, u33, u34, u35, u36, u37, u38, u39, u40, u41, u42, u43, u44, u45, u46, u47, u48, vL, (.slice (some ⟨gx, ox, none⟩) nx cx), (.int .i64 (i : Int)), (.pointer (some ⟨gx, ox + i * 2, none⟩)), (.pointer (some ⟨gx, ox + i * 2, none⟩)), (.int .i64 (p : Int)), (.slice (some ⟨gx, ox, none⟩) nx cx), (.int .i64 (i : Int)), (.pointer (some ⟨gx, ox + i * 2, none⟩)), (.pointer (some ⟨gx, ox + i * 2 + 1, none⟩)), (.int .i64 (q : Int)), (.slice (some ⟨gy, oy, none⟩) ny cy), (.int .i64 (k : Int)), (.pointer (some ⟨gy, oy + k * 2, none⟩)), (.pointer (some ⟨gy, oy + k * 2 + 1, none⟩)), (.int .i64 (s : Int)), (.agg #[.int .i64 (p : Int), .int .i64 (q : Int), .int .i64 (s : Int)]), (.slice (some ⟨w.heap.size, 0, none⟩) 1 1), v8, u68], []⟩ ∧ Z v8 w') ⟨#[u0, u1, u2, u3, u4, u5, u6, (.slice (some ⟨gx, ox, none⟩) nx cx), u8, (.slice (some ⟨gy, oy, none⟩) ny cy), u10, vL, (.int .i64 (i : Int)), (.int .i64 (k : Int)), u14, u15, u16, u17, u18, u19, u20, u21, u22, u23, u24, u25, u26, u27, u28, u29, u30, u31, u32, u33, u34, u35, u36, u37, u38, u39, u40, u41, u42, u43, u44, u45, u46, u47, u48, u49, u50, u51, u52, u53, u54, u55, u56, u57, u58, u59, u60, u61, u62, u63, u64, u65, u66, u67, u68], []⟩ w := by
  subst hops
  have hNS : Region.noSelect (Rg.opsOf Tryz.f72 11) = true := by kernel_rfl
  refine wp_region_held_drew (S := X) (by kernel_rfl) hw (fun hHeld => ?_)
  rw [show (Rg.opsOf Tryz.f72 11).size = 20 by kernel_rfl]
  refine Rg.take (ops := (Rg.opsOf Tryz.f72 11)) 0 (some 49) (vL) hNS (by kernel_rfl) (by kernel_rfl) (by kernel_rfl) (by kernel_rfl) (by kernel_rfl) hHeld (Rg.y_move (x := (Operand.tmp 11)) (Or.inl (by kernel_rfl)) (by kernel_rfl)) ?_
  refine Rg.take (ops := (Rg.opsOf Tryz.f72 11)) 1 (some 50) ((.slice (some ⟨gx, ox, none⟩) nx cx)) hNS (by kernel_rfl) (by kernel_rfl) (by kernel_rfl) (by kernel_rfl) (by kernel_rfl) hHeld (Rg.y_move (x := (Operand.tmp 7)) (Or.inl (by kernel_rfl)) (by kernel_rfl)) ?_
  refine Rg.take (ops := (Rg.opsOf Tryz.f72 11)) 2 (some 51) ((.int .i64 (i : Int))) hNS (by kernel_rfl) (by kernel_rfl) (by kernel_rfl) (by kernel_rfl) (by kernel_rfl) hHeld (Rg.y_move (x := (Operand.tmp 12)) (Or.inl (by kernel_rfl)) (by kernel_rfl)) ?_
  refine Rg.take (ops := (Rg.opsOf Tryz.f72 11)) 3 (some 52) ((.pointer (some ⟨gx, ox + i * 2, none⟩))) hNS (by kernel_rfl) (by kernel_rfl) (by kernel_rfl) (by kernel_rfl) (by kernel_rfl) hHeld (Rg.y_at (T := 126) (x := (Operand.tmp 50)) (y := (Operand.tmp 51)) (vx := (.slice (some ⟨gx, ox, none⟩) nx cx)) (vy := (.int .i64 (i : Int))) (by kernel_rfl) (by kernel_rfl) (by kernel_rfl) ?_) ?_
  · (intro W hSw; clear hSw hHeld; go_simp)
  refine Rg.take (ops := (Rg.opsOf Tryz.f72 11)) 4 (some 53) ((.pointer (some ⟨gx, ox + i * 2, none⟩))) hNS (by kernel_rfl) (by kernel_rfl) (by kernel_rfl) (by kernel_rfl) (by kernel_rfl) hHeld (Rg.y_at (T := 129) (x := (Operand.tmp 52)) (y := (Operand.const (Value.int IntKind.i64 0))) (vx := (.pointer (some ⟨gx, ox + i * 2, none⟩))) (vy := (Value.int IntKind.i64 0)) (by kernel_rfl) (by kernel_rfl) (by kernel_rfl) ?_) ?_
  · (intro W hSw; clear hSw hHeld; go_simp)
  refine Rg.take (ops := (Rg.opsOf Tryz.f72 11)) 5 (some 54) ((.int .i64 (p : Int))) hNS (by kernel_rfl) (by kernel_rfl) (by kernel_rfl) (by kernel_rfl) (by kernel_rfl) hHeld (Rg.y_load (T := 3) (x := (Operand.tmp 53)) (vx := (.pointer (some ⟨gx, ox + i * 2, none⟩))) (by kernel_rfl) (by kernel_rfl) ?_) ?_
  · (intro W hSw; obtain ⟨s0, s1, s2⟩ := hX _ hSw; clear hSw hHeld; go_simp)
  refine Rg.take (ops := (Rg.opsOf Tryz.f72 11)) 6 (some 55) ((.slice (some ⟨gx, ox, none⟩) nx cx)) hNS (by kernel_rfl) (by kernel_rfl) (by kernel_rfl) (by kernel_rfl) (by kernel_rfl) hHeld (Rg.y_move (x := (Operand.tmp 7)) (Or.inl (by kernel_rfl)) (by kernel_rfl)) ?_
  refine Rg.take (ops := (Rg.opsOf Tryz.f72 11)) 7 (some 56) ((.int .i64 (i : Int))) hNS (by kernel_rfl) (by kernel_rfl) (by kernel_rfl) (by kernel_rfl) (by kernel_rfl) hHeld (Rg.y_move (x := (Operand.tmp 12)) (Or.inl (by kernel_rfl)) (by kernel_rfl)) ?_
  refine Rg.take (ops := (Rg.opsOf Tryz.f72 11)) 8 (some 57) ((.pointer (some ⟨gx, ox + i * 2, none⟩))) hNS (by kernel_rfl) (by kernel_rfl) (by kernel_rfl) (by kernel_rfl) (by kernel_rfl) hHeld (Rg.y_at (T := 126) (x := (Operand.tmp 55)) (y := (Operand.tmp 56)) (vx := (.slice (some ⟨gx, ox, none⟩) nx cx)) (vy := (.int .i64 (i : Int))) (by kernel_rfl) (by kernel_rfl) (by kernel_rfl) ?_) ?_
  · (intro W hSw; clear hSw hHeld; go_simp)
  refine Rg.take (ops := (Rg.opsOf Tryz.f72 11)) 9 (some 58) ((.pointer (some ⟨gx, ox + i * 2 + 1, none⟩))) hNS (by kernel_rfl) (by kernel_rfl) (by kernel_rfl) (by kernel_rfl) (by kernel_rfl) hHeld (Rg.y_at (T := 129) (x := (Operand.tmp 57)) (y := (Operand.const (Value.int IntKind.i64 1))) (vx := (.pointer (some ⟨gx, ox + i * 2, none⟩))) (vy := (Value.int IntKind.i64 1)) (by kernel_rfl) (by kernel_rfl) (by kernel_rfl) ?_) ?_
  · (intro W hSw; clear hSw hHeld; go_simp)
  refine Rg.take (ops := (Rg.opsOf Tryz.f72 11)) 10 (some 59) ((.int .i64 (q : Int))) hNS (by kernel_rfl) (by kernel_rfl) (by kernel_rfl) (by kernel_rfl) (by kernel_rfl) hHeld (Rg.y_load (T := 3) (x := (Operand.tmp 58)) (vx := (.pointer (some ⟨gx, ox + i * 2 + 1, none⟩))) (by kernel_rfl) (by kernel_rfl) ?_) ?_
  · (intro W hSw; obtain ⟨s0, s1, s2⟩ := hX _ hSw; clear hSw hHeld; go_simp)
  refine Rg.take (ops := (Rg.opsOf Tryz.f72 11)) 11 (some 60) ((.slice (some ⟨gy, oy, none⟩) ny cy)) hNS (by kernel_rfl) (by kernel_rfl) (by kernel_rfl) (by kernel_rfl) (by kernel_rfl) hHeld (Rg.y_move (x := (Operand.tmp 9)) (Or.inl (by kernel_rfl)) (by kernel_rfl)) ?_
  refine Rg.take (ops := (Rg.opsOf Tryz.f72 11)) 12 (some 61) ((.int .i64 (k : Int))) hNS (by kernel_rfl) (by kernel_rfl) (by kernel_rfl) (by kernel_rfl) (by kernel_rfl) hHeld (Rg.y_move (x := (Operand.tmp 13)) (Or.inl (by kernel_rfl)) (by kernel_rfl)) ?_
  refine Rg.take (ops := (Rg.opsOf Tryz.f72 11)) 13 (some 62) ((.pointer (some ⟨gy, oy + k * 2, none⟩))) hNS (by kernel_rfl) (by kernel_rfl) (by kernel_rfl) (by kernel_rfl) (by kernel_rfl) hHeld (Rg.y_at (T := 126) (x := (Operand.tmp 60)) (y := (Operand.tmp 61)) (vx := (.slice (some ⟨gy, oy, none⟩) ny cy)) (vy := (.int .i64 (k : Int))) (by kernel_rfl) (by kernel_rfl) (by kernel_rfl) ?_) ?_
  · (intro W hSw; clear hSw hHeld; go_simp)
  refine Rg.take (ops := (Rg.opsOf Tryz.f72 11)) 14 (some 63) ((.pointer (some ⟨gy, oy + k * 2 + 1, none⟩))) hNS (by kernel_rfl) (by kernel_rfl) (by kernel_rfl) (by kernel_rfl) (by kernel_rfl) hHeld (Rg.y_at (T := 129) (x := (Operand.tmp 62)) (y := (Operand.const (Value.int IntKind.i64 1))) (vx := (.pointer (some ⟨gy, oy + k * 2, none⟩))) (vy := (Value.int IntKind.i64 1)) (by kernel_rfl) (by kernel_rfl) (by kernel_rfl) ?_) ?_
  · (intro W hSw; clear hSw hHeld; go_simp)
  refine Rg.take (ops := (Rg.opsOf Tryz.f72 11)) 15 (some 64) ((.int .i64 (s : Int))) hNS (by kernel_rfl) (by kernel_rfl) (by kernel_rfl) (by kernel_rfl) (by kernel_rfl) hHeld (Rg.y_load (T := 3) (x := (Operand.tmp 63)) (vx := (.pointer (some ⟨gy, oy + k * 2 + 1, none⟩))) (by kernel_rfl) (by kernel_rfl) ?_) ?_
  · (intro W hSw; obtain ⟨s0, s1, s2⟩ := hX _ hSw; clear hSw hHeld; go_simp)
  refine Rg.take (ops := (Rg.opsOf Tryz.f72 11)) 16 (some 65) ((.agg #[.int .i64 (p : Int), .int .i64 (q : Int), .int .i64 (s : Int)])) hNS (by kernel_rfl) (by kernel_rfl) (by kernel_rfl) (by kernel_rfl) (by kernel_rfl) hHeld (Rg.y_build (T := 103) (parts := #[(0, Operand.tmp 54), (1, Operand.tmp 59), (2, Operand.tmp 64)]) (vs := #[(0, (.int .i64 (p : Int))), (1, (.int .i64 (q : Int))), (2, (.int .i64 (s : Int)))]) (by kernel_rfl) (by kernel_rfl) ?_) ?_
  · (intro W hSw; clear hSw hHeld; go_simp)
  refine Rg.bld (ops := (Rg.opsOf Tryz.f72 11)) 17 (some 66) (T := 109) (len := 1) (parts := #[(0, Operand.tmp 65)]) (vs := #[(0, (.agg #[.int .i64 (p : Int), .int .i64 (q : Int), .int .i64 (s : Int)]))]) (v := (.slice (some ⟨w.heap.size, 0, none⟩) 1 1)) (w1 := w.drew.alloc (.cells #[.int .i64 (p : Int), .int .i64 (q : Int), .int .i64 (s : Int)] 103)) (by kernel_rfl) (by kernel_rfl) (by kernel_rfl) (by kernel_rfl) (by kernel_rfl) (by kernel_rfl) ?_ (hX2) (fun hHeld => ?_)
  · (clear hHeld hE; go_simp)
  refine Rg.app1 (ops := (Rg.opsOf Tryz.f72 11)) 18 (some 67) (T := 109) (x := (Operand.tmp 49)) (y := (Operand.tmp 66)) (vx := vL) (vy := (.slice (some ⟨w.heap.size, 0, none⟩) 1 1)) (by kernel_rfl) (by kernel_rfl) (by kernel_rfl) (by kernel_rfl) (by kernel_rfl) (by kernel_rfl) (by kernel_rfl) ?_
  intro ty
  obtain ⟨v8, w8, e8, h8, h9⟩ := hE ty
  refine ⟨v8, w8, e8, h8, fun hHeld => ?_⟩
  refine Rg.take (ops := (Rg.opsOf Tryz.f72 11)) 19 (some 11) (v8) hNS (by kernel_rfl) (by kernel_rfl) (by kernel_rfl) (by kernel_rfl) (by kernel_rfl) hHeld (Rg.y_move (x := (Operand.tmp 67)) (Or.inr (by kernel_rfl)) (by kernel_rfl)) ?_
  refine Rg.done (ops := (Rg.opsOf Tryz.f72 11)) (by kernel_rfl) ?_
  exact ⟨v8, by kernel_rfl, h9⟩
end Go.Proofs.YtkenmldiojeooaaGreat.Mg
