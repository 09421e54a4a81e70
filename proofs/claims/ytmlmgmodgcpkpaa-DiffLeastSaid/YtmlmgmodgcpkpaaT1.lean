/- Texts of this seat, one behind the other. -/
import Derived.Test.YtmlmgmodgcpkpaaRows
import Derived.WalkKit
import Derived.WalkLawsBesides
import Derived.WalkSpells
import Derived.LoopTactic
import Derived.Lib.Hide
import Derived.Deep.AppendLies
import Derived.Deep.QuietTactic
import Derived.BigQuiet
import Derived.Maps.AppendAt
import Derived.OwnWalk
import Derived.Shelf.RegionOpenPlain
import Derived.Laws.StructEq
import Derived.WalkSmall
import Derived.ChangeKeysEq
import Derived.SliceStrings
import Derived.SizedLaws
import Derived.Laws.AppendOwnNone
import Derived.Maps.OwnSet
import Derived.Carry
import Derived.Laws.Rows
import Derived.Laws.NewBlocks
namespace Go.Proofs.Ytmlmgmodgcpkpaa.Tx
open Go.RowKit
set_option linter.unusedVariables false
theorem info9 : (Try.prog.info? 9).map (fun i => (i.zero, i.size, i.bytes)) = some (some (.string ⟨#[]⟩), 1, 16) := by kernel_rfl
theorem below_call {w w1 w2 : World} (h : Below w.heap.size w w1) (h2 : Below w1.heap.size w1 w2) : Below w.heap.size w w2 := h.trans (h2.mono h.size)
theorem below_step {w wr w1 : World} {e : TypeId} {size n : Nat} {v : Value} {xs : List Value} {o : Obj} (hb : Below w.heap.size w wr) (hown : wr.ownsRow w.heap.size e size v n xs) (hg : (wr.alloc o).grownBy w1 v.ownBlock) : Below w.heap.size w w1 :=
  (hb.alloc hb.size o).grown hg (by have := hb.size; simp; omega) (fun k hk => (hown.lt k hk).1)
def tb (l : List UInt8) : ByteArray := ⟨l.toArray⟩
theorem bytes_ne {a b : ByteArray} (h : a ≠ b) : (a.toList == b.toList) = false := by
  rw [ByteArray.toList_eq, ByteArray.toList_eq]
  apply Bool.eq_false_iff.2
  intro hc
  exact h (ByteArray.ext (Array.toList_inj.1 (eq_of_beq hc)))
def sv (s : ByteArray) : Value := .string s
theorem sv_one (l : List ByteArray) : ∀ u ∈ l.map sv, u.oneCell' = true := by
  intro u hu
  obtain ⟨s, _, rfl⟩ := List.mem_map.1 hu
  rfl
def Texts (w : World) (B : Nat) (v : Value) (l : List ByteArray) : Prop := w.ownsRow B 9 1 v l.length (l.map sv)
theorem Texts.below {w w1 : World} {B : Nat} {v : Value} {l : List ByteArray} (h : Texts w B v l) (hb : Below w.heap.size w w1) : Texts w1 B v l := by
  refine ⟨h.1, ?_⟩
  rcases h.2 with h0 | ⟨g', cap', cur, hv, hg, hh, r⟩
  · exact .inl h0
  · exact .inr ⟨g', cap', cur, hv, hg, (hb.block g' (Array.getElem?_eq_some_iff.1 hh).1).trans hh, r⟩
def Strs (w : World) (a : Option Addr) (n : Nat) (l : List ByteArray) : Prop := l.length = n ∧ (n = 0 ∨ ∃ b off, a = some ⟨b, off, none⟩ ∧ b < w.heap.size ∧ ∀ k x, l[k]? = some x → w.cell? ⟨b, off + k, none⟩ = some (.string x))
theorem Strs.below {w w1 : World} {a : Option Addr} {n : Nat} {l : List ByteArray} (h : Strs w a n l) (hb : Below w.heap.size w w1) : Strs w1 a n l := by
  refine ⟨h.1, ?_⟩
  rcases h.2 with h0 | ⟨b, off, ha, hlt, hc⟩
  · exact .inl h0
  · exact .inr ⟨b, off, ha, Nat.lt_of_lt_of_le hlt hb.size, fun k x hx => (hb.cell (p := ⟨b, off + k, none⟩) hlt).trans (hc k x hx)⟩
theorem Texts.form {w : World} {B : Nat} {v : Value} {l : List ByteArray} (h : Texts w B v l) : ∃ a c, v = .slice a l.length c ∧ Strs w a l.length l ∧ l.length ≤ c ∧ c ≤ maxLen := by
  have hh := h
  rcases h.2 with ⟨rfl, h0⟩ | ⟨g, cap, cur, rfl, hg, hh2, hn, hc, _⟩
  · exact ⟨none, 0, by rw [h0], ⟨rfl, .inl h0⟩, by omega, Nat.zero_le _⟩
  · refine ⟨some ⟨g, 0, none⟩, cap, rfl, ⟨rfl, .inr ⟨g, 0, rfl, (Array.getElem?_eq_some_iff.1 hh2).1, fun k x hx => ?_⟩⟩, hn, hc⟩
    have := hh.cells (g := g) rfl k (sv x) (by rw [List.getElem?_map, hx]; rfl)
    rw [← WideShapes.add_plain]
    exact this
end Go.Proofs.Ytmlmgmodgcpkpaa.Tx

namespace Go.Proofs.Ytmlmgmodgcpkpaa.Um
set_option linter.unusedVariables false
inductive Makes {α : Type} : List α → List α → List Nat → Prop
  | nil : Makes [] [] []
  | keep (x : α) {a b : List α} {s : List Nat} (h : Makes a b s) : Makes (x :: a) (x :: b) (0 :: s)
  | drop (x : α) {a b : List α} {s : List Nat} (h : Makes a b s) : Makes (x :: a) b (1 :: s)
  | add (y : α) {a b : List α} {s : List Nat} (h : Makes a b s) : Makes a (y :: b) (2 :: s)
theorem Makes.lens {α : Type} {a b : List α} {s : List Nat} (h : Makes a b s) : s.count 0 + s.count 1 = a.length ∧ s.count 0 + s.count 2 = b.length ∧ s.length = s.count 0 + s.count 1 + s.count 2 := by
  induction h with
  | nil => simp
  | keep x h ih => simp; omega
  | drop x h ih => simp; omega
  | add y h ih => simp; omega
section
variable {α : Type} [DecidableEq α]
def lcs : List α → List α → Nat
  | [], _ => 0
  | _ :: _, [] => 0
  | x :: a, y :: b => if x = y then max (max (lcs (x :: a) b) (lcs a (y :: b))) (lcs a b + 1) else max (lcs (x :: a) b) (lcs a (y :: b))
termination_by a b => a.length + b.length
theorem lcs_nil (b : List α) : lcs [] b = 0 := by rw [lcs]
theorem lcs_nil2 (a : List α) : lcs a [] = 0 := by cases a <;> rw [lcs]
theorem lcs_cons (x y : α) (a b : List α) : lcs (x :: a) (y :: b) = if x = y then max (max (lcs (x :: a) b) (lcs a (y :: b))) (lcs a b + 1) else max (lcs (x :: a) b) (lcs a (y :: b)) := by rw [lcs]
theorem lcs_most (s : List α) : ∀ (n : Nat) (a b : List α), a.length + b.length ≤ n → s.Sublist a → s.Sublist b → s.length ≤ lcs a b := by
  intro n
  induction n generalizing s with
  | zero =>
    intro a b h h1 h2
    obtain rfl : a = [] := List.length_eq_zero_iff.1 (by omega)
    rw [List.sublist_nil.1 h1]
    exact Nat.zero_le _
  | succ n ih =>
    intro a b h h1 h2
    cases a with
    | nil => rw [List.sublist_nil.1 h1]; exact Nat.zero_le _
    | cons x a =>
      cases b with
      | nil => rw [List.sublist_nil.1 h2]; exact Nat.zero_le _
      | cons y b =>
        simp only [List.length_cons] at h
        rw [lcs_cons]
        have k1 : s.Sublist (x :: a) → s.Sublist b → s.length ≤ lcs (x :: a) b := fun p q => ih s _ _ (by simp only [List.length_cons]; omega) p q
        have k2 : s.Sublist a → s.Sublist (y :: b) → s.length ≤ lcs a (y :: b) := fun p q => ih s _ _ (by simp only [List.length_cons]; omega) p q
        cases h1 with
        | cons _ h1 =>
          have := k2 h1 h2
          split <;> omega
        | cons_cons _ h1 =>
          rename_i s'
          cases h2 with
          | cons _ h2 =>
            have := k1 (h1.cons_cons _) h2
            split <;> omega
          | cons_cons _ h2 =>
            have := ih s' a b (by omega) h1 h2
            rw [if_pos rfl, List.length_cons]
            omega
theorem lcs_there : ∀ (n : Nat) (a b : List α), a.length + b.length ≤ n → ∃ s : List α, s.Sublist a ∧ s.Sublist b ∧ s.length = lcs a b := by
  intro n
  induction n with
  | zero =>
    intro a b h
    obtain rfl : a = [] := List.length_eq_zero_iff.1 (by omega)
    exact ⟨[], List.nil_sublist _, List.nil_sublist _, by rw [lcs_nil]; rfl⟩
  | succ n ih =>
    intro a b h
    cases a with
    | nil => exact ⟨[], List.nil_sublist _, List.nil_sublist _, by rw [lcs_nil]; rfl⟩
    | cons x a =>
      cases b with
      | nil => exact ⟨[], List.nil_sublist _, List.nil_sublist _, by rw [lcs_nil2]; rfl⟩
      | cons y b =>
        simp only [List.length_cons] at h
        obtain ⟨s1, a1, b1, e1⟩ := ih (x :: a) b (by simp only [List.length_cons]; omega)
        obtain ⟨s2, a2, b2, e2⟩ := ih a (y :: b) (by simp only [List.length_cons]; omega)
        obtain ⟨s3, a3, b3, e3⟩ := ih a b (by omega)
        have big : ∃ s : List α, s.Sublist (x :: a) ∧ s.Sublist (y :: b) ∧ s.length = max (lcs (x :: a) b) (lcs a (y :: b)) := by
          by_cases hm : lcs (x :: a) b ≤ lcs a (y :: b)
          · exact ⟨s2, a2.cons _, b2, by omega⟩
          · exact ⟨s1, a1, b1.cons _, by omega⟩
        rw [lcs_cons]
        by_cases hxy : x = y
        · subst hxy
          rw [if_pos rfl]
          by_cases hm : max (lcs (x :: a) b) (lcs a (x :: b)) ≤ lcs a b + 1
          · exact ⟨x :: s3, a3.cons_cons _, b3.cons_cons _, by rw [List.length_cons]; omega⟩
          · obtain ⟨s, p, q, e⟩ := big
            exact ⟨s, p, q, by omega⟩
        · rw [if_neg hxy]
          exact big
theorem most {s a b : List α} (h1 : s.Sublist a) (h2 : s.Sublist b) : s.length ≤ lcs a b := lcs_most s _ a b (Nat.le_refl _) h1 h2
theorem there (a b : List α) : ∃ s : List α, s.Sublist a ∧ s.Sublist b ∧ s.length = lcs a b := lcs_there _ a b (Nat.le_refl _)
theorem lcs_le_left (a b : List α) : lcs a b ≤ a.length := by
  obtain ⟨s, h1, h2, h3⟩ := there a b
  rw [← h3]; exact h1.length_le
theorem lcs_le_right (a b : List α) : lcs a b ≤ b.length := by
  obtain ⟨s, h1, h2, h3⟩ := there a b
  rw [← h3]; exact h2.length_le
theorem lcs_comm (a b : List α) : lcs a b = lcs b a := by
  obtain ⟨s, h1, h2, h3⟩ := there a b
  obtain ⟨t, k1, k2, k3⟩ := there b a
  have := most h2 h1
  have := most k2 k1
  omega
theorem lcs_reverse (a b : List α) : lcs a.reverse b.reverse = lcs a b := by
  obtain ⟨s, h1, h2, h3⟩ := there a b
  obtain ⟨t, k1, k2, k3⟩ := there a.reverse b.reverse
  have x1 := most (List.reverse_sublist.2 h1) (List.reverse_sublist.2 h2)
  have x2 := most (List.reverse_sublist.1 (by rw [List.reverse_reverse]; exact k1) : t.reverse.Sublist a) (List.reverse_sublist.1 (by rw [List.reverse_reverse]; exact k2) : t.reverse.Sublist b)
  rw [List.length_reverse] at x1 x2
  omega
theorem lcs_head (x : α) (a b : List α) : lcs (x :: a) (x :: b) = lcs a b + 1 := by
  have h1 : lcs a b + 1 ≤ lcs (x :: a) (x :: b) := by
    obtain ⟨s, h1, h2, h3⟩ := there a b
    have := most (h1.cons_cons x) (h2.cons_cons x)
    rw [List.length_cons] at this
    omega
  have h2 : lcs (x :: a) (x :: b) ≤ lcs a b + 1 := by
    obtain ⟨s, h1, h2, h3⟩ := there (x :: a) (x :: b)
    have k1 : s.tail.Sublist a := by
      cases h1 with
      | cons _ h => exact (List.tail_sublist s).trans h
      | cons_cons _ h => exact h
    have k2 : s.tail.Sublist b := by
      cases h2 with
      | cons _ h => exact (List.tail_sublist s).trans h
      | cons_cons _ h => exact h
    have := most k1 k2
    rw [List.length_tail] at this
    omega
  omega
theorem lcs_other (x y : α) (a b : List α) (h : x ≠ y) : lcs (x :: a) (y :: b) = max (lcs (x :: a) b) (lcs a (y :: b)) := by rw [lcs_cons, if_neg h]
theorem lcs_ahead (c a b : List α) : lcs (c ++ a) (c ++ b) = c.length + lcs a b := by
  induction c with
  | nil => simp
  | cons x c ih => rw [List.cons_append, List.cons_append, lcs_head, ih, List.length_cons]; omega
theorem lcs_behind (a b c : List α) : lcs (a ++ c) (b ++ c) = c.length + lcs a b := by
  rw [← lcs_reverse (a ++ c), List.reverse_append, List.reverse_append, lcs_ahead, List.length_reverse, lcs_reverse]
theorem lcs_self (a : List α) : lcs a a = a.length := by
  have := most (List.Sublist.refl a) (List.Sublist.refl a)
  have := lcs_le_left a a
  omega
theorem lcs_full (a b : List α) (h1 : lcs a b = a.length) (h2 : lcs a b = b.length) : a = b := by
  obtain ⟨s, k1, k2, k3⟩ := there a b
  rw [← k1.eq_of_length (by omega), ← k2.eq_of_length (by omega)]
def steps : List α → List α → List Nat
  | [], [] => []
  | _ :: a, [] => 1 :: steps a []
  | [], _ :: b => 2 :: steps [] b
  | x :: a, y :: b => if x = y then 0 :: steps a b else if lcs a (y :: b) < lcs (x :: a) b then 2 :: steps (x :: a) b else 1 :: steps a (y :: b)
termination_by a b => a.length + b.length
theorem steps_nil : steps ([] : List α) [] = [] := by rw [steps]
theorem steps_drop (x : α) (a : List α) : steps (x :: a) [] = 1 :: steps a [] := by rw [steps]
theorem steps_add (y : α) (b : List α) : steps [] (y :: b) = 2 :: steps [] b := by rw [steps]
theorem steps_cons (x y : α) (a b : List α) : steps (x :: a) (y :: b) = if x = y then 0 :: steps a b else if lcs a (y :: b) < lcs (x :: a) b then 2 :: steps (x :: a) b else 1 :: steps a (y :: b) := by rw [steps]
theorem steps_make : ∀ (n : Nat) (a b : List α), a.length + b.length ≤ n → Makes a b (steps a b) := by
  intro n
  induction n with
  | zero =>
    intro a b h
    obtain rfl : a = [] := List.length_eq_zero_iff.1 (by omega)
    obtain rfl : b = [] := List.length_eq_zero_iff.1 (by omega)
    rw [steps_nil]; exact .nil
  | succ n ih =>
    intro a b h
    cases a with
    | nil =>
      cases b with
      | nil => rw [steps_nil]; exact .nil
      | cons y b => rw [steps_add]; exact .add y (ih _ _ (by simp only [List.length_cons, List.length_nil] at h ⊢; omega))
    | cons x a =>
      cases b with
      | nil => rw [steps_drop]; exact .drop x (ih _ _ (by simp only [List.length_cons, List.length_nil] at h ⊢; omega))
      | cons y b =>
        simp only [List.length_cons] at h
        rw [steps_cons]
        by_cases hxy : x = y
        · subst hxy
          rw [if_pos rfl]
          exact .keep x (ih _ _ (by omega))
        · rw [if_neg hxy]
          split
          · exact .add y (ih _ _ (by simp only [List.length_cons]; omega))
          · exact .drop x (ih _ _ (by simp only [List.length_cons]; omega))
theorem makes (a b : List α) : Makes a b (steps a b) := steps_make _ a b (Nat.le_refl _)
theorem steps_kept : ∀ (n : Nat) (a b : List α), a.length + b.length ≤ n → (steps a b).count 0 = lcs a b := by
  intro n
  induction n with
  | zero =>
    intro a b h
    obtain rfl : a = [] := List.length_eq_zero_iff.1 (by omega)
    obtain rfl : b = [] := List.length_eq_zero_iff.1 (by omega)
    rw [steps_nil, lcs_nil]; rfl
  | succ n ih =>
    intro a b h
    cases a with
    | nil =>
      cases b with
      | nil => rw [steps_nil, lcs_nil]; rfl
      | cons y b =>
        rw [steps_add, List.count_cons_of_ne (by decide), ih _ _ (by simp only [List.length_cons, List.length_nil] at h ⊢; omega), lcs_nil, lcs_nil]
    | cons x a =>
      cases b with
      | nil => rw [steps_drop, List.count_cons_of_ne (by decide), ih _ _ (by simp only [List.length_cons, List.length_nil] at h ⊢; omega), lcs_nil2, lcs_nil2]
      | cons y b =>
        simp only [List.length_cons] at h
        rw [steps_cons]
        by_cases hxy : x = y
        · subst hxy
          rw [if_pos rfl, List.count_cons_self, ih _ _ (by omega), lcs_head]
        · rw [if_neg hxy, lcs_other _ _ _ _ hxy]
          split
          · rw [List.count_cons_of_ne (by decide), ih _ _ (by simp only [List.length_cons]; omega)]
            omega
          · rw [List.count_cons_of_ne (by decide), ih _ _ (by simp only [List.length_cons]; omega)]
            omega
theorem kept (a b : List α) : (steps a b).count 0 = lcs a b := steps_kept _ a b (Nat.le_refl _)
def dist (a b : List α) : Nat := (steps a b).count 1 + (steps a b).count 2
theorem dist_eq (a b : List α) : dist a b + 2 * lcs a b = a.length + b.length := by
  have h := (makes a b).lens
  have k := kept a b
  unfold dist
  omega
theorem dist_comm (a b : List α) : dist a b = dist b a := by
  have h1 := dist_eq a b
  have h2 := dist_eq b a
  have := lcs_comm a b
  omega
theorem dist_self (a : List α) : dist a a = 0 := by
  have h1 := dist_eq a a
  have := lcs_self a
  omega
theorem dist_ahead (c a b : List α) : dist (c ++ a) (c ++ b) = dist a b := by
  have h1 := dist_eq (c ++ a) (c ++ b)
  have h2 := dist_eq a b
  rw [lcs_ahead] at h1
  simp only [List.length_append] at h1
  omega
theorem dist_behind (a b c : List α) : dist (a ++ c) (b ++ c) = dist a b := by
  have h1 := dist_eq (a ++ c) (b ++ c)
  have h2 := dist_eq a b
  rw [lcs_behind] at h1
  simp only [List.length_append] at h1
  omega
theorem dist_zero (a b : List α) : dist a b = 0 ↔ a = b := by
  constructor
  · intro h
    have h1 := dist_eq a b
    have h2 := lcs_le_left a b
    have h3 := lcs_le_right a b
    exact lcs_full a b (by omega) (by omega)
  · rintro rfl; exact dist_self a
def pairs : Nat → Nat → List Nat → List (Nat × Nat)
  | _, _, [] => []
  | i, j, 0 :: s => (i, j) :: pairs (i + 1) (j + 1) s
  | i, j, 1 :: s => pairs (i + 1) j s
  | i, j, _ :: s => pairs i (j + 1) s
theorem pairs_len (s : List Nat) : ∀ i j, (pairs i j s).length = s.count 0 := by
  induction s with
  | nil => intro i j; rfl
  | cons x s ih =>
    intro i j
    match x with
    | 0 => rw [pairs, List.length_cons, ih, List.count_cons_self]
    | 1 => rw [pairs, ih, List.count_cons_of_ne (by decide)]
    | k + 2 => rw [pairs, ih, List.count_cons_of_ne (by simp)]; all_goals simp
theorem rising_most (a b : List α) (l : List (Nat × Nat)) : ∀ (i j : Nat), (∀ x, x ∈ l → i ≤ x.1 ∧ j ≤ x.2) → l.Pairwise (fun x y => x.1 < y.1 ∧ x.2 < y.2) → (∀ x, x ∈ l → a[x.1]?.isSome ∧ a[x.1]? = b[x.2]?) → l.length ≤ lcs (a.drop i) (b.drop j) := by
  induction l with
  | nil => intro i j _ _ _; exact Nat.zero_le _
  | cons p l ih =>
    intro i j h1 h2 h3
    obtain ⟨k1, k2⟩ := h1 p (by simp)
    obtain ⟨q1, q2⟩ := List.pairwise_cons.1 h2
    obtain ⟨e1, e2⟩ := h3 p (by simp)
    have hr := ih (p.1 + 1) (p.2 + 1) (fun x hx => by have := q1 x hx; omega) q2 (fun x hx => h3 x (by simp [hx]))
    obtain ⟨u, hu⟩ := Option.isSome_iff_exists.1 e1
    obtain ⟨g1, g2⟩ := List.getElem?_eq_some_iff.1 hu
    rw [hu] at e2
    obtain ⟨g3, g4⟩ := List.getElem?_eq_some_iff.1 e2.symm
    obtain ⟨s, s1, s2, s3⟩ := there (a.drop (p.1 + 1)) (b.drop (p.2 + 1))
    have t1 : (u :: s).Sublist (a.drop i) := by
      have h : (a.drop p.1).Sublist (a.drop i) := by
        rw [show p.1 = i + (p.1 - i) by omega, ← List.drop_drop]
        exact List.drop_sublist _ _
      refine List.Sublist.trans ?_ h
      rw [List.drop_eq_getElem_cons g1, g2]
      exact s1.cons_cons _
    have t2 : (u :: s).Sublist (b.drop j) := by
      have h : (b.drop p.2).Sublist (b.drop j) := by
        rw [show p.2 = j + (p.2 - j) by omega, ← List.drop_drop]
        exact List.drop_sublist _ _
      refine List.Sublist.trans ?_ h
      rw [List.drop_eq_getElem_cons g3, g4]
      exact s2.cons_cons _
    have := most t1 t2
    rw [List.length_cons] at this ⊢
    omega
def runs : List Nat → List (Nat × Nat)
  | [] => []
  | x :: s => match runs s with
    | [] => [(x, 1)]
    | (y, n) :: r => if x = y then (y, n + 1) :: r else (x, 1) :: (y, n) :: r
end
end Go.Proofs.Ytmlmgmodgcpkpaa.Um

namespace Go.Proofs.Ytmlmgmodgcpkpaa.Tx
open Go.RowKit
set_option linter.unusedVariables false
theorem below_drewN {B : Nat} {a w : World} (h : Below B a w) (n : Nat) : Below B a (w.drewN n) := ⟨h.os, h.tape, h.output, h.size, h.block⟩
set_option maxRecDepth 100000 in
set_option maxHeartbeats 1000000 in
theorem same_true (a b : Option Addr) (n ca cb : Nat) (l : List ByteArray) (w : World) (hn : n ≤ 9223372036854775807) (ha : Strs w a n l) (hb : Strs w b n l) :
    Calls Try.prog 15 #[.slice a n ca, .slice b n cb] w fun e w' => e = .returned (.bool true) ∧ Below w.heap.size w w' := by
  by_cases h0 : n = 0
  · subst h0
    clear ha hb
    go_enter Try.func15, Try.ntmps15
    go_wp2_with fail
    go_loop [5] (fun i => i = .int .i64 0) (fun _ => 0)
    case atStart => exact rfl
    case round =>
      obtain rfl := hrel
      go_wp2_with fail
      go_ret
      exact ⟨rfl, Below.refl _ _⟩
  · obtain ⟨hl, ha⟩ := ha
    obtain ⟨ba, oa, rfl, hba, hca⟩ := ha.resolve_left h0
    obtain ⟨bb, ob, rfl, hbb, hcb⟩ := hb.2.resolve_left h0
    have HA := Lib.hid hca
    have HB := Lib.hid hcb
    clear hca hcb ha hb h0
    go_enter Try.func15, Try.ntmps15
    go_wp2_with fail
    go_loopw [5] (fun i wr => ∃ k : Nat, k ≤ n ∧ i = .int .i64 k ∧ Below w.heap.size w wr) (fun i _ => n - (intOf i).toNat)
    case atStart => exact ⟨0, Nat.zero_le _, rfl, Below.refl _ _⟩
    case round =>
      obtain ⟨k, hk, rfl, hB⟩ := hrel
      by_cases hlt : k < n
      · have c1 := (hB.cell (p := ⟨ba, oa + k, none⟩) hba).trans (HA.out k l[k] (List.getElem?_eq_getElem (by omega)))
        have c2 := (hB.cell (p := ⟨bb, ob + k, none⟩) hbb).trans (HB.out k l[k] (List.getElem?_eq_getElem (by omega)))
        obtain ⟨S, hS⟩ : ∃ S, S = l[k] := ⟨_, rfl⟩
        rw [← hS] at c1 c2
        clear hS hl
        have hlt1 : (k : Int) < (n : Int) := by omega
        go_wp2_with fail
        go_quiet (fail)
        go_wp2_with fail
        go_roundw
        case rel => exact ⟨k + 1, by omega, by go_num, below_drewN hB _⟩
        case measure => simp [intOf]; omega
      · go_wp2_with fail
        go_ret
        exact ⟨rfl, hB⟩
end Go.Proofs.Ytmlmgmodgcpkpaa.Tx

namespace Go.Proofs.Ytmlmgmodgcpkpaa.Aq
open Go.RowKit Tx
set_option linter.unusedVariables false
section
variable {P : Program}
theorem append_two (w : World) (base : Nat) (t ty e : TypeId) (i : TypeInfo) (z : Value) (bytes : Nat) (ht : P.underlying t = some (.slice e)) (hi : P.info? e = some i) (hz : i.zero = some z)
    (hsize : i.size = 1) (hby : i.bytes = bytes) (hzs : z.cells.size = 1)
    (v : Value) (n : Nat) (xs : List Value) (hown : w.ownsRow base e 1 v n xs)
    (a : Addr) (c : Nat) (u : Value) (hu : w.cell? a = some u) (h1 : u.oneCell' = true)
    (hn : n + 1 ≤ 1152921504606846976) (hbytes : (n + 1) * bytes ≤ 140737488355328) (hbase : base ≤ w.heap.size) :
    ∃ v' w', (Builtin.append_ #[t, t] ty #[v, .slice (some a) 1 c]).run P w = .ok v' w' ∧ w'.ownsRow base e 1 v' (n + 1) (xs ++ [u]) ∧
      ((v'.ownBlock = v.ownBlock ∧ w.grownBy w' v.ownBlock) ∨ (v'.ownBlock = some w.heap.size ∧ w.grownBy w' none)) := by
  have hnews : ∀ j x, [u][j]? = some x → w.cell? (a.add j) = some x := by
    intro j x hj
    match j, hj with
    | 0, hj =>
      simp at hj
      subst hj
      simpa [Addr.add] using hu
  have hone : ∀ x ∈ [u], x.oneCell' = true := by intro x hx; simp at hx; subst hx; exact h1
  have hlen : (xs ++ [u]).length = (n + 1) * 1 := by rw [List.length_append, hown.1]; simp
  have made : ∀ old, old < n + 1 → (w.drew.alloc (.cells (xs.toArray ++ [u].toArray ++ Builtin.zeroCells z.cells (grownCap w (n + 1) old e - (n + 1))) e)).ownsRow base e 1 (.slice (some ⟨w.heap.size, 0, none⟩) (n + 1) (grownCap w (n + 1) old e)) (n + 1) (xs ++ [u]) ∧
      w.grownBy (w.drew.alloc (.cells (xs.toArray ++ [u].toArray ++ Builtin.zeroCells z.cells (grownCap w (n + 1) old e - (n + 1))) e)) none := by
    intro old _
    have hge := grownCap_ge w (n + 1) old e
    have hcm := grownCap_le_maxLen w (n + 1) old e (by unfold maxLen; omega)
    refine ⟨⟨hlen, .inr ⟨w.heap.size, _, _, rfl, hbase, heap_alloc_new w.drew _, hge, hcm, ?_, ?_⟩⟩, ⟨rfl, rfl, rfl, by simp, fun k hk _ => Below.heap_alloc w.drew _ k hk⟩⟩
    · have h0 := hown.1
      simp only [Array.size_append, List.size_toArray, size_zeroCells, hzs, List.length_singleton]
      omega
    · simp only [Array.toList_append, List.append_assoc]
      rw [← List.append_assoc]
      exact List.take_left' hlen
  rcases hown.2 with ⟨rfl, rfl⟩ | ⟨g, cap, cur, rfl, hbg, hg, hnc, hcm, hcs, htake⟩
  · have hx : xs = [] := List.eq_nil_of_length_eq_zero (by simpa using hown.1)
    subst hx
    have hr := run_append_nil (P := P) w t ty e i z ht hi hz a 1 c [u] (by rw [hsize]; rfl) hnews (by omega) (by omega) (by rw [hby]; have h2 := hbytes; simp only [Nat.zero_add] at h2; omega)
    have hm := made 0 (by omega)
    simp only [Nat.zero_add, List.nil_append, Array.empty_append] at hm ⊢
    exact ⟨_, _, hr, hm.1, .inr ⟨rfl, hm.2⟩⟩
  · by_cases hroom : n + 1 ≤ cap
    · have hfit : n * i.size + [u].length ≤ cur.size := by rw [hsize, hcs]; simp; omega
      have hr := run_append_room (P := P) w t ty e i ht hi g n cap cur hg a 1 c [u] (by rw [hsize]; rfl) hnews hone hroom hfit
      refine ⟨_, _, hr, ⟨hlen, .inr ⟨g, cap, _, rfl, hbg, setRow_heap w g cur _ e _ hg, hroom, hcm, ?_, ?_⟩⟩, .inl ⟨rfl, ⟨rfl, rfl, rfl, by simp, fun k _ hk => setRow_other w g k _ (fun e => hk (by simp [Value.ownBlock, e]))⟩⟩⟩
      · simp only [List.size_toArray, List.length_append, List.length_take, List.length_drop, Array.length_toList, hsize, List.length_singleton]
        simp only [hsize, List.length_singleton] at hfit
        omega
      · rw [hsize, htake]
        exact List.take_left' hlen
    · have hr := run_append_grow (P := P) w t ty e i z ht hi hz ⟨g, 0, none⟩ n cap xs (by rw [hsize]; exact hown.1) (hown.cells (g := g) rfl) a 1 c [u] (by rw [hsize]; rfl) hnews (by omega) (by omega) (growslice_fits (by omega) (by rw [hby]; exact hbytes))
      have hm := made cap (by omega)
      exact ⟨_, _, hr, hm.1, .inr ⟨rfl, hm.2⟩⟩
end
theorem wpList_append_two {P : Program} (w : World) {ops : Array Oper} {rest : List Oper} {o : Oper} {a : Act} {Q : Exit → Act → World → Prop} (hgd : o.guard = none) (s x : Operand) (t : TypeId)
    (ho : o.op = .call { callee := .builtin .append, args := #[s, x], argTypes := #[t, t] })
    (base : Nat) (e : TypeId) (i : TypeInfo) (z : Value) (bytes : Nat) (ht : P.underlying t = some (.slice e)) (hi : P.info? e = some i) (hz : i.zero = some z)
    (hsize : i.size = 1) (hby : i.bytes = bytes) (hzs : z.cells.size = 1)
    (v : Value) (n : Nat) (xs : List Value) (hs : a.eval s = v) (hown : w.ownsRow base e 1 v n xs)
    (ad : Addr) (c : Nat) (u : Value) (hx : a.eval x = .slice (some ad) 1 c) (hu : w.cell? ad = some u) (h1 : u.oneCell' = true)
    (hn : n + 1 ≤ 1152921504606846976) (hbytes : (n + 1) * bytes ≤ 140737488355328) (hbase : base ≤ w.heap.size)
    (h : ∀ v' w', w'.ownsRow base e 1 v' (n + 1) (xs ++ [u]) → ((v'.ownBlock = v.ownBlock ∧ w.grownBy w' v.ownBlock) ∨ (v'.ownBlock = some w.heap.size ∧ w.grownBy w' none)) → wpList P ops Q rest (a.put o.dst v') w') :
    wpList P ops Q (o :: rest) a w := by
  refine wpList_plain hgd fun K hK => ?_
  obtain ⟨v', w', hr, h2, h3⟩ := append_two (P := P) w base t o.type e i z bytes ht hi hz hsize hby hzs v n xs hown ad c u hu h1 hn hbytes hbase
  unfold Oper.wp execOp
  simp only [ho, resolve, invoke, builtin, Sem.run_bind, Sem.run_pure, Result.andThen_ok, List.map_toArray, List.map_cons, List.map_nil, hs, hx, hr]
  exact hK _ _ (h v' w' h2 h3)
theorem own_frozen {w : World} {base g n cap : Nat} {e : TypeId} {xs : List Value} (h : w.ownsRow base e 1 (.slice (some ⟨g, 0, none⟩) n cap) n xs) (k : Nat) : w.frozen? ⟨g, k, none⟩ = false := by
  rcases h.2 with ⟨h0, _⟩ | ⟨g', cap', cur, hv, _, hh, _⟩
  · cases h0
  · injection hv with hg
    injection hg with hg
    injection hg with hg
    subst hg
    simp [World.frozen?, hh]
theorem own_cell {w : World} {base g n cap : Nat} {e : TypeId} {xs : List Value} (h : w.ownsRow base e 1 (.slice (some ⟨g, 0, none⟩) n cap) n xs) {k : Nat} {u : Value} (hk : xs[k]? = some u) : w.cell? ⟨g, k, none⟩ = some u := by
  have := h.cells (g := g) rfl k u hk
  rwa [WideShapes.add_plain, Nat.zero_add] at this
theorem own_store {w : World} {base g n cap : Nat} {e : TypeId} {xs : List Value} (h : w.ownsRow base e 1 (.slice (some ⟨g, 0, none⟩) n cap) n xs) {k : Nat} (hk : k < n) (u : Value) :
    (w.setCell ⟨g, k, none⟩ u).ownsRow base e 1 (.slice (some ⟨g, 0, none⟩) n cap) n (xs.set k u) := by
  refine ⟨by rw [List.length_set]; exact h.1, ?_⟩
  rcases h.2 with ⟨h0, _⟩ | ⟨g', cap', cur, hv, hb, hh, hn, hc, hs, ht⟩
  · cases h0
  · injection hv with hg _ hcap
    injection hg with hg
    injection hg with hg
    subst hg
    subst hcap
    refine .inr ⟨g, cap, cur.setIfInBounds k u, rfl, hb, ?_, hn, hc, by simpa using hs, ?_⟩
    · simp [World.setCell, Array.getElem?_modify, hh]
    · rw [Array.toList_setIfInBounds, List.take_set, ht]
end Go.Proofs.Ytmlmgmodgcpkpaa.Aq

namespace Go.Proofs.Ytmlmgmodgcpkpaa.Ud
open Go.RowKit Tx Um Aq
set_option linter.unusedVariables false
theorem infoInt : (Try.prog.info? 3).map (fun i => (i.zero, i.size, i.bytes)) = some (some (.int .i64 0), 1, 8) := by kernel_rfl
theorem infoInts : (Try.prog.info? 45).map (fun i => (i.zero, i.size, i.bytes)) = some (some (.slice none 0 0), 1, 24) := by kernel_rfl
def F (a b : List ByteArray) (i j : Nat) : Nat := lcs (a.drop i) (b.drop j)
theorem F_end (a b : List ByteArray) (j : Nat) : F a b a.length j = 0 := by rw [F, List.drop_length, lcs_nil]
theorem F_end2 (a b : List ByteArray) (i : Nat) : F a b i b.length = 0 := by rw [F, List.drop_length, lcs_nil2]
theorem F_le (a b : List ByteArray) (i j : Nat) : F a b i j ≤ a.length := by
  have := lcs_le_left (a.drop i) (b.drop j)
  rw [List.length_drop] at this
  unfold F
  omega
theorem F_step (a b : List ByteArray) (i j : Nat) (hi : i < a.length) (hj : j < b.length) : F a b i j = if a[i] = b[j] then max (max (F a b i (j + 1)) (F a b (i + 1) j)) (F a b (i + 1) (j + 1) + 1) else max (F a b i (j + 1)) (F a b (i + 1) j) := by
  unfold F
  conv => lhs; rw [List.drop_eq_getElem_cons hi, List.drop_eq_getElem_cons hj, lcs_cons, ← List.drop_eq_getElem_cons hi, ← List.drop_eq_getElem_cons hj]
structure Tab (w : World) (B g : Nat) (r : Nat → Nat) (a b : List ByteArray) (k : Nat) : Prop where
  outer : ∃ xs, w.ownsRow B 45 1 (.slice (some ⟨g, 0, none⟩) (a.length + 1) (a.length + 1)) (a.length + 1) xs
  cell : ∀ i, k ≤ i → i ≤ a.length → w.cell? ⟨g, i, none⟩ = some (.slice (some ⟨r i, 0, none⟩) (b.length + 1) (b.length + 1))
  row : ∀ i, k ≤ i → i ≤ a.length → ∀ j, j ≤ b.length → w.cell? ⟨r i, j, none⟩ = some (.int .i64 (F a b i j : Nat))
  apart : ∀ i, k ≤ i → i ≤ a.length → r i ≠ g ∧ r i < w.heap.size
theorem Tab.glt {w : World} {B g k : Nat} {r : Nat → Nat} {a b : List ByteArray} (h : Tab w B g r a b k) : B ≤ g ∧ g < w.heap.size := by
  obtain ⟨xs, h1⟩ := h.outer
  exact h1.lt g rfl
theorem cell_keep {w w1 : World} {g k : Nat} {u : Value} (h : w.cell? ⟨g, k, none⟩ = some u) (hk : w1.heap[g]? = w.heap[g]?) : w1.cell? ⟨g, k, none⟩ = some u := (World.cell?_of_block (a := ⟨g, k, none⟩) hk).trans h
theorem own_stay {w w1 : World} {base n : Nat} {e : TypeId} {v : Value} {xs : List Value} (h : w.ownsRow base e 1 v n xs) (hk : ∀ q, v.ownBlock = some q → w1.heap[q]? = w.heap[q]?) : w1.ownsRow base e 1 v n xs := by
  refine ⟨h.1, ?_⟩
  rcases h.2 with h0 | ⟨g, cap, cur, rfl, hb, hh, r⟩
  · exact .inl h0
  · exact .inr ⟨g, cap, cur, rfl, hb, (hk g rfl).trans hh, r⟩
theorem Tab.kept {w w1 : World} {B g k : Nat} {r : Nat → Nat} {a b : List ByteArray} (h : Tab w B g r a b k) (hg : w1.heap[g]? = w.heap[g]?) (hr : ∀ i, k ≤ i → i ≤ a.length → w1.heap[r i]? = w.heap[r i]?) (hs : w.heap.size ≤ w1.heap.size) : Tab w1 B g r a b k := by
  obtain ⟨xs, h1⟩ := h.outer
  exact ⟨⟨xs, own_stay h1 (fun q hq => by simp only [Value.ownBlock, Option.some.injEq] at hq; subst hq; exact hg)⟩, fun i h2 h3 => cell_keep (h.cell i h2 h3) hg, fun i h2 h3 j hj => cell_keep (h.row i h2 h3 j hj) (hr i h2 h3), fun i h2 h3 => ⟨(h.apart i h2 h3).1, Nat.lt_of_lt_of_le (h.apart i h2 h3).2 hs⟩⟩
theorem Tab.below {w w1 : World} {B g k : Nat} {r : Nat → Nat} {a b : List ByteArray} (h : Tab w B g r a b k) (hb : Below w.heap.size w w1) : Tab w1 B g r a b k :=
  h.kept (hb.block _ h.glt.2) (fun i h2 h3 => hb.block _ (h.apart i h2 h3).2) hb.size
theorem Tab.store {w : World} {B g k h j : Nat} {r : Nat → Nat} {a b : List ByteArray} (ht : Tab w B g r a b k) (hg : h ≠ g) (hr : ∀ i, k ≤ i → i ≤ a.length → h ≠ r i) (u : Value) : Tab (w.setCell ⟨h, j, none⟩ u) B g r a b k :=
  ht.kept (Below.heap_setCell w ⟨h, j, none⟩ u g (fun e => hg e.symm)) (fun i h2 h3 => Below.heap_setCell w ⟨h, j, none⟩ u (r i) (fun e => hr i h2 h3 e.symm)) (by simp [World.setCell])
theorem Tab.next {w : World} {B g k h : Nat} {r : Nat → Nat} {a b : List ByteArray} {ys : List Value} (ht : Tab w B g r a b (k + 1)) (hk : k ≤ a.length) (hg : h ≠ g) (hr : ∀ i, k + 1 ≤ i → i ≤ a.length → h ≠ r i)
    (hown : w.ownsRow B 3 1 (.slice (some ⟨h, 0, none⟩) (b.length + 1) (b.length + 1)) (b.length + 1) ys) (hys : ∀ j, j ≤ b.length → ys[j]? = some (.int .i64 (F a b k j : Nat))) :
    Tab (w.setCell ⟨g, k, none⟩ (.slice (some ⟨h, 0, none⟩) (b.length + 1) (b.length + 1))) B g (fun i => if i = k then h else r i) a b k := by
  obtain ⟨xs, h1⟩ := ht.outer
  have hh : h < w.heap.size := (hown.lt h rfl).2
  have e1 : ∀ q, q ≠ g → (w.setCell ⟨g, k, none⟩ (.slice (some ⟨h, 0, none⟩) (b.length + 1) (b.length + 1))).heap[q]? = w.heap[q]? := fun q hq => Below.heap_setCell w ⟨g, k, none⟩ _ q hq
  have hst := own_store h1 (show k < a.length + 1 by omega) (.slice (some ⟨h, 0, none⟩) (b.length + 1) (b.length + 1))
  refine ⟨⟨_, hst⟩, fun i h2 h3 => ?_, fun i h2 h3 j hj => ?_, fun i h2 h3 => ?_⟩
  · by_cases e : i = k
    · subst e
      rw [if_pos rfl]
      exact own_cell hst (List.getElem?_set_self (by rw [h1.1]; omega))
    · rw [if_neg e]
      have := ht.cell i (by omega) h3
      rw [World.cell?_setCell_other _ _ _ _ (fun e2 => e (by injection e2 with _ e3; exact e3.symm))]
      exact this
  · by_cases e : i = k
    · subst e
      rw [if_pos rfl]
      exact cell_keep (own_cell hown (hys j hj)) (e1 h hg)
    · rw [if_neg e]
      exact cell_keep (ht.row i (by omega) h3 j hj) (e1 _ (ht.apart i (by omega) h3).1)
  · have hs : (w.setCell ⟨g, k, none⟩ (.slice (some ⟨h, 0, none⟩) (b.length + 1) (b.length + 1))).heap.size = w.heap.size := by simp [World.setCell]
    rw [hs]
    by_cases e : i = k
    · rw [if_pos e]; exact ⟨hg, hh⟩
    · rw [if_neg e]; exact ht.apart i (by omega) h3
theorem made_zero (n : Nat) (z : Value) : (madeCells #[z] n).toList = List.replicate n z := by
  apply List.ext_getElem?
  intro k
  unfold madeCells
  simp only [List.getElem?_replicate]
  by_cases h : k < n
  · rw [if_pos h]
    simp [List.getElem?_range h, Nat.mod_one]
  · rw [if_neg h]
    simp
    omega
theorem Tab.first {w : World} {B g h : Nat} {a b : List ByteArray} {xs : List Value} (hg : h ≠ g) (ho : w.ownsRow B 45 1 (.slice (some ⟨g, 0, none⟩) (a.length + 1) (a.length + 1)) (a.length + 1) xs)
    (hown : w.ownsRow B 3 1 (.slice (some ⟨h, 0, none⟩) (b.length + 1) (b.length + 1)) (b.length + 1) (List.replicate (b.length + 1) (.int .i64 0))) :
    Tab (w.setCell ⟨g, a.length, none⟩ (.slice (some ⟨h, 0, none⟩) (b.length + 1) (b.length + 1))) B g (fun _ => h) a b a.length := by
  have ht : Tab w B g (fun _ => h) a b (a.length + 1) := ⟨⟨xs, ho⟩, fun i h2 h3 => by omega, fun i h2 h3 => by omega, fun i h2 h3 => by omega⟩
  have hn := ht.next (Nat.le_refl _) hg (fun i h2 h3 => by omega) hown (fun j hj => by rw [List.getElem?_replicate, if_pos (by omega), F_end]; rfl)
  have e : (fun i => if i = a.length then h else h) = fun _ : Nat => h := by funext i; split <;> rfl
  rw [e] at hn
  exact hn
def Row (w : World) (B h : Nat) (a b : List ByteArray) (i j : Nat) : Prop := ∃ ys, w.ownsRow B 3 1 (.slice (some ⟨h, 0, none⟩) (b.length + 1) (b.length + 1)) (b.length + 1) ys ∧ ∀ k, j ≤ k → k ≤ b.length → ys[k]? = some (.int .i64 (F a b i k : Nat))
theorem Row.start {w : World} {B h : Nat} {a b : List ByteArray} {i : Nat} (hown : w.ownsRow B 3 1 (.slice (some ⟨h, 0, none⟩) (b.length + 1) (b.length + 1)) (b.length + 1) (List.replicate (b.length + 1) (.int .i64 0))) : Row w B h a b i b.length := by
  refine ⟨_, hown, fun k h1 h2 => ?_⟩
  obtain rfl : k = b.length := by omega
  rw [List.getElem?_replicate, if_pos (by omega), F_end2]
  rfl
theorem Row.cell {w : World} {B h : Nat} {a b : List ByteArray} {i j k : Nat} (hr : Row w B h a b i j) (h1 : j ≤ k) (h2 : k ≤ b.length) : w.cell? ⟨h, k, none⟩ = some (.int .i64 (F a b i k : Nat)) := by
  obtain ⟨ys, h3, h4⟩ := hr
  exact own_cell h3 (h4 k h1 h2)
theorem Row.any {w : World} {B h : Nat} {a b : List ByteArray} {i j k : Nat} (hr : Row w B h a b i j) (h2 : k ≤ b.length) : (∃ u, w.cell? ⟨h, k, none⟩ = some u) ∧ w.frozen? ⟨h, k, none⟩ = false := by
  obtain ⟨ys, h3, h4⟩ := hr
  have : k < ys.length := by rw [h3.1]; omega
  exact ⟨⟨ys[k], own_cell h3 (List.getElem?_eq_getElem this)⟩, own_frozen h3 k⟩
theorem Row.store {w : World} {B h : Nat} {a b : List ByteArray} {i j k : Nat} (hr : Row w B h a b i j) (hk : k < j) (h2 : k ≤ b.length) (u : Value) : Row (w.setCell ⟨h, k, none⟩ u) B h a b i j := by
  obtain ⟨ys, h3, h4⟩ := hr
  refine ⟨_, own_store h3 (show k < b.length + 1 by omega) u, fun q h5 h6 => ?_⟩
  rw [List.getElem?_set_ne (by omega)]
  exact h4 q h5 h6
theorem Row.done {w : World} {B h : Nat} {a b : List ByteArray} {i j : Nat} (hr : Row w B h a b i (j + 1)) (h2 : j ≤ b.length) (hc : w.cell? ⟨h, j, none⟩ = some (.int .i64 (F a b i j : Nat))) : Row w B h a b i j := by
  obtain ⟨ys, h3, h4⟩ := hr
  refine ⟨ys, h3, fun k h5 h6 => ?_⟩
  by_cases e : k = j
  · subst e
    have hk : k < ys.length := by rw [h3.1]; omega
    have := own_cell h3 (List.getElem?_eq_getElem hk)
    rw [hc] at this
    injection this with this
    rw [List.getElem?_eq_getElem hk, this]
  · exact h4 k (by omega) h6
theorem Row.lt {w : World} {B h : Nat} {a b : List ByteArray} {i j : Nat} (hr : Row w B h a b i j) : B ≤ h ∧ h < w.heap.size := by
  obtain ⟨ys, h3, h4⟩ := hr
  exact h3.lt h rfl
theorem Row.drew {w : World} {B h : Nat} {a b : List ByteArray} {i j : Nat} (hr : Row w B h a b i j) (n : Nat) : Row (w.drewN n) B h a b i j := hr
theorem Tab.drew {w : World} {B g k : Nat} {r : Nat → Nat} {a b : List ByteArray} (h : Tab w B g r a b k) (n : Nat) : Tab (w.drewN n) B g r a b k := ⟨h.outer, h.cell, h.row, h.apart⟩
theorem Row.drew1 {w : World} {B h : Nat} {a b : List ByteArray} {i j : Nat} (hr : Row w B h a b i j) : Row w.drew B h a b i j := hr
theorem Tab.drew1 {w : World} {B g k : Nat} {r : Nat → Nat} {a b : List ByteArray} (h : Tab w B g r a b k) : Tab w.drew B g r a b k := ⟨h.outer, h.cell, h.row, h.apart⟩
end Go.Proofs.Ytmlmgmodgcpkpaa.Ud

namespace Go.Proofs.Ytmlmgmodgcpkpaa.Ud
open Go.RowKit Tx Um Aq
set_option linter.unusedVariables false
def TableTo (a b : List ByteArray) (w : World) (e : Ending) (w' : World) : Prop := ∃ g r, e = .returned (.slice (some ⟨g, 0, none⟩) (a.length + 1) (a.length + 1)) ∧ Tab w' w.heap.size g r a b 0 ∧ Below w.heap.size w w'
theorem strs_cell {w w1 : World} {A : Option Addr} {l : List ByteArray} {k : Nat} (h : Strs w A l.length l) (hk : k < l.length) (hb : Below w.heap.size w w1) : ∃ b off, A = some ⟨b, off, none⟩ ∧ w1.cell? ⟨b, off + k, none⟩ = some (.string (l[k]'hk)) := by
  obtain ⟨b, off, ha, hlt, hc⟩ := h.2.resolve_left (by omega)
  exact ⟨b, off, ha, (hb.cell (p := ⟨b, off + k, none⟩) hlt).trans (hc k _ (List.getElem?_eq_getElem hk))⟩
set_option maxRecDepth 100000 in
set_option maxHeartbeats 8000000 in
theorem table_any (A B : Option Addr) (ca cb : Nat) (a b : List ByteArray) (w : World) (hm4 : a.length ≤ 400) (hn4 : b.length ≤ 400) (hA : Strs w A a.length a) (hB : Strs w B b.length b) :
    Calls Try.prog 23 #[.slice A a.length ca, .slice B b.length cb] w (TableTo a b w) := by
  obtain ⟨iI, hI, hI0, hI1, hI2⟩ := info_parts infoInt
  obtain ⟨iS, hS, hS0, hS1, hS2⟩ := info_parts infoInts
  have HAS := Lib.hid hA
  have HBS := Lib.hid hB
  clear hA hB
  obtain ⟨m, hm⟩ : ∃ m, m = a.length := ⟨_, rfl⟩
  obtain ⟨n, hn⟩ : ∃ n, n = b.length := ⟨_, rfl⟩
  rw [← hm] at hm4 ⊢
  rw [← hn] at hn4 ⊢
  have HM := Lib.hid hm
  have HN := Lib.hid hn
  clear hm hn
  go_enter Try.func23, Try.ntmps23
  go_wp2_with (at_make; refine wpList_make_full _ rfl _ _ _ rfl w.heap.size 45 iS (.slice none 0 0) 1 Try.underlying48 hS hS0 hS1 _ _ _ _ (m + 1) rfl rfl rfl rfl (by rw [hS2]; omega) (by unfold maxLen; omega) (Nat.le_refl _) ?_)
  intro w1 hown1 hgrow1
  have hB1 : Below w.heap.size w w1 := (Below.refl _ w).grown hgrow1 (Nat.le_refl _) (fun k hk => by cases hk)
  have hsz1 := hB1.size
  obtain ⟨B0, hB0⟩ : ∃ B0, B0 = w.heap.size := ⟨_, rfl⟩
  obtain ⟨g, hg⟩ : ∃ g, g = w.heap.size := ⟨_, rfl⟩
  have hglt : g < w1.heap.size := by rw [hg]; exact (hown1.lt _ rfl).2
  rw [← hg] at hown1 ⊢
  have hgB : B0 ≤ g := by omega
  have hown1 : w1.ownsRow B0 45 1 (.slice (some ⟨g, 0, none⟩) (m + 1) (m + 1)) (m + 1) (madeCells #[.slice none 0 0] (m + 1)).toList := by rw [hB0, ← hg]; exact hown1
  rw [made_zero] at hown1
  rw [← hB0] at hsz1 hB1
  have HB0 := Lib.hid hB0
  clear hg hgrow1 hB0
  go_wp2_with (at_make; refine wpList_make_full _ rfl _ _ _ rfl B0 3 iI (.int .i64 0) 1 Try.underlying45 hI hI0 hI1 _ _ _ _ (n + 1) rfl rfl rfl rfl (by rw [hI2]; omega) (by unfold maxLen; omega) hsz1 ?_)
  intro w2 hown2 hgrow2
  have hB2 : Below B0 w w2 := hB1.grown hgrow2 hsz1 (fun k hk => by cases hk)
  have ho1 : w2.ownsRow B0 45 1 (.slice (some ⟨g, 0, none⟩) (m + 1) (m + 1)) (m + 1) (List.replicate (m + 1) (.slice none 0 0)) := own_stay hown1 (fun q hq => by simp only [Value.ownBlock, Option.some.injEq] at hq; subst hq; exact hgrow2.block _ hglt (by simp))
  obtain ⟨h, hh⟩ : ∃ h, h = w1.heap.size := ⟨_, rfl⟩
  rw [← hh] at hown2 ⊢
  have hne : h ≠ g := by omega
  have ho2 : w2.ownsRow B0 3 1 (.slice (some ⟨h, 0, none⟩) (n + 1) (n + 1)) (n + 1) (List.replicate (n + 1) (.int .i64 0)) := by rw [← made_zero]; simpa using hown2
  have hfz := own_frozen ho1 m
  have hst := own_cell ho1 (k := m) (u := .slice none 0 0) (by rw [List.getElem?_replicate, if_pos (by omega)])
  have HT : Hid (Tab (w2.setCell ⟨g, m, none⟩ (.slice (some ⟨h, 0, none⟩) (n + 1) (n + 1))) B0 g (fun _ => h) a b m) := by
    show Tab _ _ _ _ _ _ _
    rw [HM.out, HN.out] at *
    exact Tab.first hne ho1 ho2
  have hB3 : Below B0 w (w2.setCell ⟨g, m, none⟩ (.slice (some ⟨h, 0, none⟩) (n + 1) (n + 1))) := hB2.setCell (p := ⟨g, m, none⟩) hgB _
  have e1 : (m : Int) < (m : Int) + 1 := by omega
  clear hown1 hown2 ho1 ho2 hgrow2 hh hB1 hB2 hglt hsz1
  go_wp2_with fail
  go_loopw [6, 7, 8] (fun i _ _ wr => ∃ (k : Nat) (r : Nat → Nat), i = .int .i64 ((k : Int) - 1) ∧ k ≤ m ∧ Hid (Tab wr B0 g r a b k) ∧ Below B0 w wr) (fun i _ _ _ => (intOf i + 1).toNat)
  case atStart => exact ⟨m, _, rfl, Nat.le_refl _, HT, hB3⟩
  case round =>
    obtain ⟨k, r, rfl, hk, hT, hb⟩ := hrel
    clear HT hB3 hfz hst
    rcases k with _ | q
    · have e2 : ¬ (0 : Int) ≤ ((0 : Nat) : Int) - 1 := by omega
      go_wp2_with fail
      go_ret
      unfold TableTo
      rw [← HB0.out, ← HM.out]
      exact ⟨g, r, rfl, hT.out, hb⟩
    · rw [show (((q + 1 : Nat) : Int) - 1) = (q : Int) by omega]
      have hsz := hb.size
      have hszB : B0 ≤ wr.heap.size := by have := HB0.out; omega
      go_wp2_with (at_make; refine wpList_make_full _ rfl _ _ _ rfl B0 3 iI (.int .i64 0) 1 Try.underlying45 hI hI0 hI1 _ _ _ _ (n + 1) rfl rfl rfl rfl (by rw [hI2]; omega) (by unfold maxLen; omega) hszB ?_)
      intro w3 hown3 hgrow3
      have hb3 : Below B0 w w3 := hb.grown hgrow3 hszB (fun k hk => by cases hk)
      have hbr : Below wr.heap.size wr w3 := (Below.refl _ wr).grown hgrow3 (Nat.le_refl _) (fun k hk => by cases hk)
      have hT3 := Lib.hid (hT.out.below hbr)
      have hap : Hid (∀ i, q + 1 ≤ i → i ≤ a.length → wr.heap.size ≠ r i) := fun i h2 h3 => by have := (hT.out.apart i h2 h3).2; omega
      have hag : wr.heap.size ≠ g := by have := hT.out.glt.2; omega
      obtain ⟨h, hh⟩ : ∃ h, h = wr.heap.size := ⟨_, rfl⟩
      rw [← hh] at hown3 hap hag ⊢
      have hhB : B0 ≤ h := by omega
      have ho3 : w3.ownsRow B0 3 1 (.slice (some ⟨h, 0, none⟩) (n + 1) (n + 1)) (n + 1) (List.replicate (n + 1) (.int .i64 0)) := by rw [← made_zero]; simpa using hown3
      have hR3 : Hid (Row w3 B0 h a b q n) := by
        show Row _ _ _ _ _ _ _
        rw [HN.out] at *
        exact Row.start ho3
      clear hown3 hgrow3 hbr hT ho3 hb hsz hszB hh
      go_wp2_with fail
      go_loopw [8] (fun j wx => ∃ k : Nat, j = .int .i64 ((k : Int) - 1) ∧ k ≤ n ∧ Hid (Tab wx B0 g r a b (q + 1)) ∧ Hid (Row wx B0 h a b q k) ∧ Below B0 w wx) (fun j _ => (intOf j + 1).toNat)
      case atStart => exact ⟨n, rfl, Nat.le_refl _, hT3, hR3, hb3⟩
      case round =>
        obtain ⟨k, rfl, hkn, hT, hR, hb⟩ := hrel
        clear hT3 hR3 hb3
        rcases k with _ | p
        · have e2 : ¬ (0 : Int) ≤ ((0 : Nat) : Int) - 1 := by omega
          obtain ⟨ys, ho, hys⟩ := hR.out
          have hT4 : Hid (Tab (wr.setCell ⟨g, q, none⟩ (.slice (some ⟨h, 0, none⟩) (n + 1) (n + 1))) B0 g (fun i => if i = q then h else r i) a b q) := by
            show Tab _ _ _ _ _ _ _
            rw [HN.out]
            exact hT.out.next (by rw [← HM.out]; omega) hag hap.out ho (fun j hj => hys j (Nat.zero_le _) hj)
          obtain ⟨xs, hx⟩ := hT.out.outer
          have hfz := own_frozen hx q
          have hst := own_cell hx (List.getElem?_eq_getElem (show q < xs.length by rw [hx.1, ← HM.out]; omega))
          obtain ⟨old, hold⟩ : ∃ old, old = xs[q]'(by rw [hx.1, ← HM.out]; omega) := ⟨_, rfl⟩
          rw [← hold] at hst
          have hqm : (q : Int) < (m : Int) + 1 := by omega
          have hb5 : Below B0 w (wr.setCell ⟨g, q, none⟩ (.slice (some ⟨h, 0, none⟩) (n + 1) (n + 1))) := hb.setCell (p := ⟨g, q, none⟩) hgB _
          clear hx ho hys hR hT hold hb
          go_wp2_with fail
          go_roundw
          case rel => exact ⟨q, _, by go_num, by omega, hT4, hb5⟩
          case measure => simp [intOf]; try omega
        · rw [show (((p + 1 : Nat) : Int) - 1) = (p : Int) by omega]
          have cR := hR.out.cell (k := p + 1) (Nat.le_refl _) (by rw [← HN.out]; omega)
          obtain ⟨⟨old, hst⟩, hfz⟩ := hR.out.any (k := p) (by rw [← HN.out]; omega)
          have c1 := hT.out.cell (q + 1) (Nat.le_refl _) (by rw [← HM.out]; omega)
          have c2 := hT.out.row (q + 1) (Nat.le_refl _) (by rw [← HM.out]; omega) p (by rw [← HN.out]; omega)
          have c3 := hT.out.row (q + 1) (Nat.le_refl _) (by rw [← HM.out]; omega) (p + 1) (by rw [← HN.out]; omega)
          have hrne := hap.out (q + 1) (Nat.le_refl _) (by rw [← HM.out]; omega)
          have hstep := F_step a b q p (by rw [← HM.out]; omega) (by rw [← HN.out]; omega)
          have hP4 := F_le a b q (p + 1)
          have hQ4 := F_le a b (q + 1) p
          have hD4 := F_le a b (q + 1) (p + 1)
          obtain ⟨ba, oa, hAe, ca1⟩ := strs_cell (k := q) HAS.out (by rw [← HM.out]; omega) (by rw [← HB0.out]; exact hb)
          obtain ⟨bb, ob, hBe, cb1⟩ := strs_cell (k := p) HBS.out (by rw [← HN.out]; omega) (by rw [← HB0.out]; exact hb)
          have hba : ba < w.heap.size := by
            obtain ⟨b', o', ha', hlt', _⟩ := HAS.out.2.resolve_left (by rw [← HM.out]; omega)
            rw [hAe] at ha'
            injection ha' with ha'
            injection ha' with ha'
            rw [ha']
            exact hlt'
          have hbb : bb < w.heap.size := by
            obtain ⟨b', o', ha', hlt', _⟩ := HBS.out.2.resolve_left (by rw [← HN.out]; omega)
            rw [hBe] at ha'
            injection ha' with ha'
            injection ha' with ha'
            rw [ha']
            exact hlt'
          rw [← HB0.out] at hba hbb
          rw [hAe, hBe]
          obtain ⟨P, hP⟩ : ∃ P, P = F a b q (p + 1) := ⟨_, rfl⟩
          obtain ⟨Q, hQ⟩ : ∃ Q, Q = F a b (q + 1) p := ⟨_, rfl⟩
          obtain ⟨E, hE⟩ : ∃ E, E = F a b (q + 1) (p + 1) := ⟨_, rfl⟩
          obtain ⟨Z, hZ⟩ : ∃ Z, Z = F a b q p := ⟨_, rfl⟩
          obtain ⟨rq, hrq⟩ : ∃ rq, rq = r (q + 1) := ⟨_, rfl⟩
          obtain ⟨S, hS⟩ : ∃ S, S = a[q]'(by rw [← HM.out]; omega) := ⟨_, rfl⟩
          obtain ⟨T, hT0⟩ : ∃ T, T = b[p]'(by rw [← HN.out]; omega) := ⟨_, rfl⟩
          rw [← hP] at cR hstep hP4
          rw [← hQ] at c2 hstep hQ4
          rw [← hE] at c3 hstep hD4
          rw [← hZ] at hstep
          rw [← HM.out] at hP4 hQ4 hD4
          rw [← hS] at ca1 hstep
          rw [← hT0] at cb1 hstep
          rw [← hrq] at c1 c2 c3 hrne
          rw [← HN.out] at c1
          have HZ := Lib.hid hZ
          clear hP hQ hE hZ hS hT0 hrq
          have f1 : (p : Int) + 1 < (n : Int) + 1 := by omega
          have f2 : (p : Int) < (n : Int) + 1 := by omega
          have f3 : (q : Int) + 1 < (m : Int) + 1 := by omega
          have f4 : (q : Int) < (m : Int) := by omega
          have f5 : (p : Int) < (n : Int) := by omega
          -- behind the first store
          have k1 : (wr.setCell ⟨h, p, none⟩ (.int .i64 P)).cell? ⟨g, q + 1, none⟩ = some (.slice (some ⟨rq, 0, none⟩) (n + 1) (n + 1)) := (World.cell?_setCell_other _ _ _ _ (fun e => hag (by injection e))).trans c1
          have k2 : (wr.setCell ⟨h, p, none⟩ (.int .i64 P)).cell? ⟨rq, p, none⟩ = some (.int .i64 Q) := (World.cell?_setCell_other _ _ _ _ (fun e => hrne (by injection e))).trans c2
          have k3 : (wr.setCell ⟨h, p, none⟩ (.int .i64 P)).cell? ⟨rq, p + 1, none⟩ = some (.int .i64 E) := (World.cell?_setCell_other _ _ _ _ (fun e => hrne (by injection e))).trans c3
          have k4 : (wr.setCell ⟨h, p, none⟩ (.int .i64 P)).cell? ⟨h, p, none⟩ = some (.int .i64 P) := World.cell?_setCell_same wr _ _ hst
          have k5 : (wr.setCell ⟨h, p, none⟩ (.int .i64 P)).cell? ⟨ba, oa + q, none⟩ = some (.string S) := (World.cell?_setCell_other _ _ _ _ (fun e => by injection e; omega)).trans ca1
          have k6 : (wr.setCell ⟨h, p, none⟩ (.int .i64 P)).cell? ⟨bb, ob + p, none⟩ = some (.string T) := (World.cell?_setCell_other _ _ _ _ (fun e => by injection e; omega)).trans cb1
          have hT1 := Lib.hid (hT.out.store (j := p) hag hap.out (.int .i64 P))
          have hR1 := Lib.hid (hR.out.store (Nat.lt_succ_self p) (by rw [← HN.out]; omega) (.int .i64 P))
          have hb1 : Below B0 w (wr.setCell ⟨h, p, none⟩ (.int .i64 P)) := hb.setCell (p := ⟨h, p, none⟩) hhB _
          clear hT hR
          go_wp2_with fail
          generalize wr.setCell ⟨h, p, none⟩ (.int .i64 P) = W1 at k1 k2 k3 k4 k5 k6 hT1 hR1 hb1 ⊢
          clear hst hfz cR c1 c2 c3 ca1 cb1 hb
          obtain ⟨_, hfz1⟩ := hR1.out.any (k := p) (by rw [← HN.out]; omega)
          have wq : IntKind.i64.wrap ((q : Int) + 1) = (q : Int) + 1 := IntWalk.i64_in _ (by omega)
          have wp : IntKind.i64.wrap ((p : Int) + 1) = (p : Int) + 1 := IntWalk.i64_in _ (by omega)
          have wE : IntKind.i64.wrap ((E : Int) + 1) = (E : Int) + 1 := IntWalk.i64_in _ (by omega)
          have nq : ((q : Int) + 1).toNat = q + 1 := by omega
          have np : ((p : Int) + 1).toNat = p + 1 := by omega
          have zq : (0 : Int) ≤ (q : Int) + 1 := by omega
          have zp : (0 : Int) ≤ (p : Int) + 1 := by omega
          by_cases hPQ : P < Q
          · have g1 : (P : Int) < (Q : Int) := by omega
            go_region
            go_wp2_with fail
            have k1' : (W1.setCell ⟨h, p, none⟩ (.int .i64 Q)).cell? ⟨g, q + 1, none⟩ = some (.slice (some ⟨rq, 0, none⟩) (n + 1) (n + 1)) := (World.cell?_setCell_other _ _ _ _ (fun e => hag (by injection e))).trans k1
            have k2' : (W1.setCell ⟨h, p, none⟩ (.int .i64 Q)).cell? ⟨rq, p, none⟩ = some (.int .i64 Q) := (World.cell?_setCell_other _ _ _ _ (fun e => hrne (by injection e))).trans k2
            have k3' : (W1.setCell ⟨h, p, none⟩ (.int .i64 Q)).cell? ⟨rq, p + 1, none⟩ = some (.int .i64 E) := (World.cell?_setCell_other _ _ _ _ (fun e => hrne (by injection e))).trans k3
            have k4' : (W1.setCell ⟨h, p, none⟩ (.int .i64 Q)).cell? ⟨h, p, none⟩ = some (.int .i64 Q) := World.cell?_setCell_same W1 _ _ k4
            have k5' : (W1.setCell ⟨h, p, none⟩ (.int .i64 Q)).cell? ⟨ba, oa + q, none⟩ = some (.string S) := (World.cell?_setCell_other _ _ _ _ (fun e => by injection e; omega)).trans k5
            have k6' : (W1.setCell ⟨h, p, none⟩ (.int .i64 Q)).cell? ⟨bb, ob + p, none⟩ = some (.string T) := (World.cell?_setCell_other _ _ _ _ (fun e => by injection e; omega)).trans k6
            have hT2 := Lib.hid (hT1.out.store (j := p) hag hap.out (.int .i64 Q))
            have hR2 := Lib.hid (hR1.out.store (Nat.lt_succ_self p) (by rw [← HN.out]; omega) (.int .i64 Q))
            have hb2 : Below B0 w (W1.setCell ⟨h, p, none⟩ (.int .i64 Q)) := hb1.setCell (p := ⟨h, p, none⟩) hhB _
            clear hT1 hR1 hb1 k1 k2 k3 k4 k5 k6 hfz1
            generalize W1.setCell ⟨h, p, none⟩ (.int .i64 Q) = W2 at *
            have k4 := k4'
            obtain ⟨_, hfz2⟩ := hR2.out.any (k := p) (by rw [← HN.out]; omega)
            by_cases he : S = T
            · have e3 : (S.toList == T.toList) = true := by rw [he]; exact beq_self_eq_true _
              rw [if_pos he] at hstep
              clear he
              by_cases hx : Q < E + 1
              · have g2 : (Q : Int) < (E : Int) + 1 := by omega
                have hz : Z = E + 1 := by omega
                clear hstep
                go_region
                go_wp2_with fail
                go_roundw
                case rel => exact ⟨p, by go_num, by omega, Lib.hid (hT2.out.store hag hap.out _).drew1.drew1, Lib.hid (Row.drew1 (Row.drew1 ((hR2.out.store (Nat.lt_succ_self p) (by rw [← HN.out]; omega) _).done (by rw [← HN.out]; omega) (by rw [← HZ.out, show ((Z : Nat) : Int) = (E : Int) + 1 by omega]; exact World.cell?_setCell_same _ _ _ k4)))), (hb2.setCell (p := ⟨h, p, none⟩) hhB _).drew.drew⟩
                case measure => simp [intOf]; try omega
              · have g2 : ¬ (Q : Int) < (E : Int) + 1 := by omega
                have hz : Z = Q := by omega
                clear hstep
                go_region
                go_wp2_with fail
                go_roundw
                case rel => exact ⟨p, by go_num, by omega, Lib.hid hT2.out.drew1.drew1, Lib.hid (Row.drew1 (Row.drew1 (hR2.out.done (by rw [← HN.out]; omega) (by rw [← HZ.out, hz]; exact k4)))), hb2.drew.drew⟩
                case measure => simp [intOf]; try omega
            · have e3 : (S.toList == T.toList) = false := bytes_ne he
              rw [if_neg he] at hstep
              have hz : Z = Q := by omega
              clear hstep he
              go_region
              go_wp2_with fail
              go_roundw
              case rel => exact ⟨p, by go_num, by omega, Lib.hid hT2.out.drew1.drew1, Lib.hid (Row.drew1 (Row.drew1 (hR2.out.done (by rw [← HN.out]; omega) (by rw [← HZ.out, hz]; exact k4)))), hb2.drew.drew⟩
              case measure => simp [intOf]; try omega
          · have g1 : ¬ (P : Int) < (Q : Int) := by omega
            go_region
            go_wp2_with fail
            have hT2 := hT1
            have hR2 := hR1
            have hb2 := hb1
            clear hT1 hR1 hb1 hfz1
            obtain ⟨_, hfz2⟩ := hR2.out.any (k := p) (by rw [← HN.out]; omega)
            by_cases he : S = T
            · have e3 : (S.toList == T.toList) = true := by rw [he]; exact beq_self_eq_true _
              rw [if_pos he] at hstep
              clear he
              by_cases hx : P < E + 1
              · have g2 : (P : Int) < (E : Int) + 1 := by omega
                have hz : Z = E + 1 := by omega
                clear hstep
                go_region
                go_wp2_with fail
                go_roundw
                case rel => exact ⟨p, by go_num, by omega, Lib.hid (hT2.out.store hag hap.out _).drew1.drew1, Lib.hid (Row.drew1 (Row.drew1 ((hR2.out.store (Nat.lt_succ_self p) (by rw [← HN.out]; omega) _).done (by rw [← HN.out]; omega) (by rw [← HZ.out, show ((Z : Nat) : Int) = (E : Int) + 1 by omega]; exact World.cell?_setCell_same _ _ _ k4)))), (hb2.setCell (p := ⟨h, p, none⟩) hhB _).drew.drew⟩
                case measure => simp [intOf]; try omega
              · have g2 : ¬ (P : Int) < (E : Int) + 1 := by omega
                have hz : Z = P := by omega
                clear hstep
                go_region
                go_wp2_with fail
                go_roundw
                case rel => exact ⟨p, by go_num, by omega, Lib.hid hT2.out.drew1.drew1, Lib.hid (Row.drew1 (Row.drew1 (hR2.out.done (by rw [← HN.out]; omega) (by rw [← HZ.out, hz]; exact k4)))), hb2.drew.drew⟩
                case measure => simp [intOf]; try omega
            · have e3 : (S.toList == T.toList) = false := bytes_ne he
              rw [if_neg he] at hstep
              have hz : Z = P := by omega
              clear hstep he
              go_region
              go_wp2_with fail
              go_roundw
              case rel => exact ⟨p, by go_num, by omega, Lib.hid hT2.out.drew1.drew1, Lib.hid (Row.drew1 (Row.drew1 (hR2.out.done (by rw [← HN.out]; omega) (by rw [← HZ.out, hz]; exact k4)))), hb2.drew.drew⟩
              case measure => simp [intOf]; try omega
end Go.Proofs.Ytmlmgmodgcpkpaa.Ud

namespace Go.Proofs.Ytmlmgmodgcpkpaa.Ud
open Go.RowKit Tx Um Aq
set_option linter.unusedVariables false
def iv (n : Nat) : Value := .int .i64 (n : Int)
theorem iv_one (l : List Nat) : ∀ u ∈ l.map iv, u.oneCell' = true := by
  intro u hu
  obtain ⟨s, _, rfl⟩ := List.mem_map.1 hu
  rfl
def Ints (w : World) (B : Nat) (v : Value) (l : List Nat) : Prop := w.ownsRow B 3 1 v l.length (l.map iv)
theorem Ints.below {w w1 : World} {B : Nat} {v : Value} {l : List Nat} (h : Ints w B v l) (hb : Below w.heap.size w w1) : Ints w1 B v l := by
  refine ⟨h.1, ?_⟩
  rcases h.2 with h0 | ⟨g', cap', cur, hv, hg, hh, r⟩
  · exact .inl h0
  · exact .inr ⟨g', cap', cur, hv, hg, (hb.block g' (Array.getElem?_eq_some_iff.1 hh).1).trans hh, r⟩
theorem own_base {w : World} {B B2 n : Nat} {e : TypeId} {s : Nat} {v : Value} {xs : List Value} (h : w.ownsRow B e s v n xs) (hB : B2 ≤ B) : w.ownsRow B2 e s v n xs := by
  refine ⟨h.1, ?_⟩
  rcases h.2 with h0 | ⟨g, cap, cur, hv, hg, r⟩
  · exact .inl h0
  · exact .inr ⟨g, cap, cur, hv, by omega, r⟩
def IntsTo (l : List Nat) (w : World) (e : Ending) (w' : World) : Prop := ∃ v, e = .returned v ∧ Ints w' w.heap.size v l ∧ Below w.heap.size w w'
def St (a b : List ByteArray) (pre : List Nat) (i j : Nat) : Prop := i ≤ a.length ∧ j ≤ b.length ∧ steps a b = pre ++ steps (a.drop i) (b.drop j) ∧ pre.length ≤ i + j
theorem st_start (a b : List ByteArray) : St a b [] 0 0 := ⟨Nat.zero_le _, Nat.zero_le _, rfl, Nat.zero_le _⟩
theorem st_keep {a b : List ByteArray} {pre : List Nat} {i j : Nat} (h : St a b pre i j) (hi : i < a.length) (hj : j < b.length) (he : a[i] = b[j]) : St a b (pre ++ [0]) (i + 1) (j + 1) := by
  obtain ⟨h1, h2, h3, h4⟩ := h
  refine ⟨hi, hj, ?_, by simp; omega⟩
  rw [h3, List.drop_eq_getElem_cons hi, List.drop_eq_getElem_cons hj, steps_cons, if_pos he]
  simp
theorem st_drop {a b : List ByteArray} {pre : List Nat} {i j : Nat} (h : St a b pre i j) (hi : i < a.length) (hj : j = b.length ∨ ∃ hj : j < b.length, a[i] ≠ b[j] ∧ ¬ F a b (i + 1) j < F a b i (j + 1)) : St a b (pre ++ [1]) (i + 1) j := by
  obtain ⟨h1, h2, h3, h4⟩ := h
  refine ⟨hi, h2, ?_, by simp; omega⟩
  rw [h3]
  rcases hj with rfl | ⟨hj, h5, h6⟩
  · rw [List.drop_length, List.drop_eq_getElem_cons hi, steps_drop]
    simp
  · unfold F at h6
    have e : lcs (a.drop (i + 1)) (b[j] :: b.drop (j + 1)) = lcs (a.drop (i + 1)) (b.drop j) := by rw [← List.drop_eq_getElem_cons hj]
    have e2 : lcs (a[i] :: a.drop (i + 1)) (b.drop (j + 1)) = lcs (a.drop i) (b.drop (j + 1)) := by rw [← List.drop_eq_getElem_cons hi]
    conv => lhs; rw [List.drop_eq_getElem_cons hi, List.drop_eq_getElem_cons hj, steps_cons, if_neg h5, if_neg (by rw [e, e2]; exact h6), ← List.drop_eq_getElem_cons hj]
    simp
theorem st_add {a b : List ByteArray} {pre : List Nat} {i j : Nat} (h : St a b pre i j) (hj : j < b.length) (hi : i = a.length ∨ ∃ hi : i < a.length, a[i] ≠ b[j] ∧ F a b (i + 1) j < F a b i (j + 1)) : St a b (pre ++ [2]) i (j + 1) := by
  obtain ⟨h1, h2, h3, h4⟩ := h
  refine ⟨h1, hj, ?_, by simp; omega⟩
  rw [h3]
  rcases hi with rfl | ⟨hi, h5, h6⟩
  · rw [List.drop_length, List.drop_eq_getElem_cons hj, steps_add]
    simp
  · unfold F at h6
    have e : lcs (a.drop (i + 1)) (b[j] :: b.drop (j + 1)) = lcs (a.drop (i + 1)) (b.drop j) := by rw [← List.drop_eq_getElem_cons hj]
    have e2 : lcs (a[i] :: a.drop (i + 1)) (b.drop (j + 1)) = lcs (a.drop i) (b.drop (j + 1)) := by rw [← List.drop_eq_getElem_cons hi]
    conv => lhs; rw [List.drop_eq_getElem_cons hi, List.drop_eq_getElem_cons hj, steps_cons, if_neg h5, if_pos (by rw [e, e2]; exact h6), ← List.drop_eq_getElem_cons hi]
    simp
theorem st_end {a b : List ByteArray} {pre : List Nat} {i j : Nat} (h : St a b pre i j) (hi : i = a.length) (hj : j = b.length) : steps a b = pre := by
  rw [h.2.2.1, hi, hj, List.drop_length, List.drop_length, steps_nil, List.append_nil]
set_option maxRecDepth 100000 in
set_option maxHeartbeats 8000000 in
theorem steps_any (A B : Option Addr) (ca cb : Nat) (a b : List ByteArray) (w : World) (hm4 : a.length ≤ 400) (hn4 : b.length ≤ 400) (hA : Strs w A a.length a) (hB : Strs w B b.length b) :
    Calls Try.prog 21 #[.slice A a.length ca, .slice B b.length cb] w (IntsTo (steps a b) w) := by
  obtain ⟨iI, hI, hI0, hI1, hI2⟩ := info_parts infoInt
  have ct := table_any A B ca cb a b w hm4 hn4 hA hB
  unfold TableTo at ct
  have HAS := Lib.hid hA
  have HBS := Lib.hid hB
  clear hA hB
  have HST := Lib.hid (st_start a b)
  obtain ⟨m, hm⟩ : ∃ m, m = a.length := ⟨_, rfl⟩
  obtain ⟨n, hn⟩ : ∃ n, n = b.length := ⟨_, rfl⟩
  rw [← hm] at hm4 ct ⊢
  rw [← hn] at hn4 ct ⊢
  have HM := Lib.hid hm
  have HN := Lib.hid hn
  clear hm hn
  go_enter Try.func21, Try.ntmps21
  go_wp2_with fail
  go_at_call 23
  refine ct.mono ?_
  rintro e wt ⟨g, r, rfl, hT, hbt⟩
  have HT := Lib.hid hT
  have HBT := Lib.hid hbt
  clear hT hbt ct
  go_wp2_with fail
  go_loopw [6, 7, 8] (fun v i j wr => ∃ (pre : List Nat) (p q : Nat), i = .int .i64 p ∧ j = .int .i64 q ∧ Hid (St a b pre p q) ∧ Ints wr wt.heap.size v pre ∧ Below wt.heap.size wt wr) (fun _ i j _ => m + n - (intOf i).toNat - (intOf j).toNat)
  case atStart => exact ⟨[], 0, 0, rfl, rfl, HST, World.ownsRow_nil _ _ _ _, Below.refl _ _⟩
  case round =>
    obtain ⟨pre, p, q, rfl, rfl, HS, htx, hb⟩ := hrel
    have hp := HS.out.1
    have hq := HS.out.2.1
    have hpl := HS.out.2.2.2
    rw [← HM.out] at hp
    rw [← HN.out] at hq
    have hsz := hb.size
    clear HST
    by_cases hpm : p < m
    · have e1 : (p : Int) < (m : Int) := by omega
      by_cases hqn : q < n
      · have e2 : (q : Int) < (n : Int) := by omega
        have hBw : Below w.heap.size w wr := HBT.out.trans (hb.mono HBT.out.size)
        obtain ⟨ba, oa, hAe, c1⟩ := strs_cell (k := p) HAS.out (by rw [← HM.out]; omega) hBw
        obtain ⟨bb, ob, hBe, c2⟩ := strs_cell (k := q) HBS.out (by rw [← HN.out]; omega) hBw
        rw [hAe, hBe]
        obtain ⟨S, hS⟩ : ∃ S, S = a[p]'(by rw [← HM.out]; omega) := ⟨_, rfl⟩
        obtain ⟨T, hT0⟩ : ∃ T, T = b[q]'(by rw [← HN.out]; omega) := ⟨_, rfl⟩
        rw [← hS] at c1
        rw [← hT0] at c2
        by_cases he : S = T
        · have e3 : (S.toList == T.toList) = true := by rw [he]; exact beq_self_eq_true _
          have HS2 := Lib.hid (st_keep HS.out (by rw [← HM.out]; omega) (by rw [← HN.out]; omega) (by rw [← hS, ← hT0]; exact he))
          clear hS hT0 he HS
          go_wp2_with fail
          go_region
          have hown : (wr.drewN 1).ownsRow wt.heap.size 3 1 _ pre.length (pre.map iv) := htx
          have hbd : Below wt.heap.size wt (wr.drewN 1) := ⟨hb.os, hb.tape, hb.output, hb.size, hb.block⟩
          have hpl2 : pre.length ≤ 800 := by omega
          have hszd : wt.heap.size ≤ (wr.drewN 1).heap.size := hsz
          have hww : wr.drew = wr.drewN 1 := rfl
          rw [hww]
          generalize wr.drewN 1 = wd at hown hbd hszd ⊢
          clear htx hb hsz hww
          go_wp2_with (at_builtin; refine wpList_append_own _ rfl _ _ 45 rfl wt.heap.size 3 iI (.int .i64 0) 1 8 Try.underlying45 hI hI0 hI1 hI2 rfl (by decide) _ _ _ rfl (hown.alloc _) ⟨wd.heap.size, 0, none⟩ 1 1 [iv 0] rfl rfl ?c1 ?c2 ?c3 ?c4 ?c5 ?_)
          case c1 => exact cell_one_new _ _ _
          case c2 => exact iv_one [0]
          case c3 => unfold maxLen; omega
          case c4 => omega
          case c5 => simp; omega
          intro v' w2 hown' hgrow _
          have hb3 := below_step hbd hown hgrow
          have htx2 : Ints w2 wt.heap.size v' (pre ++ [0]) := by
            unfold Ints
            rw [List.length_append, List.map_append]
            exact hown'
          clear hown hown' hgrow hbd
          go_wp2_with fail
          go_roundw
          case rel => exact ⟨pre ++ [0], p + 1, q + 1, by go_num, by go_num, HS2, htx2, hb3⟩
          case measure => simp only [intOf]; omega
        · have e3 : (S.toList == T.toList) = false := bytes_ne he
          have e4 : ((q : Int) == (n : Int)) = false := beq_eq_false_iff_ne.2 (by omega)
          have e5 : ((p : Int) == (m : Int)) = false := beq_eq_false_iff_ne.2 (by omega)
          have hTw := HT.out.below hb
          have d1 := hTw.cell (p + 1) (Nat.zero_le _) (by rw [← HM.out]; omega)
          have d2 := hTw.cell p (Nat.zero_le _) (by rw [← HM.out]; omega)
          have d3 := hTw.row (p + 1) (Nat.zero_le _) (by rw [← HM.out]; omega) q (by rw [← HN.out]; omega)
          have d4 := hTw.row p (Nat.zero_le _) (by rw [← HM.out]; omega) (q + 1) (by rw [← HN.out]; omega)
          have hX4 := F_le a b (p + 1) q
          have hY4 := F_le a b p (q + 1)
          rw [← HN.out] at d1 d2
          rw [← HM.out] at hX4 hY4
          obtain ⟨r1, hr1⟩ : ∃ r1, r1 = r (p + 1) := ⟨_, rfl⟩
          obtain ⟨r2, hr2⟩ : ∃ r2, r2 = r p := ⟨_, rfl⟩
          rw [← hr1] at d1 d3
          rw [← hr2] at d2 d4
          have wq : IntKind.i64.wrap ((q : Int) + 1) = (q : Int) + 1 := IntWalk.i64_in _ (by omega)
          have wp : IntKind.i64.wrap ((p : Int) + 1) = (p : Int) + 1 := IntWalk.i64_in _ (by omega)
          have nq : ((q : Int) + 1).toNat = q + 1 := by omega
          have np : ((p : Int) + 1).toNat = p + 1 := by omega
          have zq : (0 : Int) ≤ (q : Int) + 1 := by omega
          have zp : (0 : Int) ≤ (p : Int) + 1 := by omega
          have f1 : (p : Int) + 1 < (m : Int) + 1 := by omega
          have f2 : (p : Int) < (m : Int) + 1 := by omega
          have f3 : (q : Int) + 1 < (n : Int) + 1 := by omega
          have f4 : (q : Int) < (n : Int) + 1 := by omega
          by_cases hlt : F a b (p + 1) q < F a b p (q + 1)
          · have HS2 := Lib.hid (st_add HS.out (by rw [← HN.out]; omega) (.inr ⟨by rw [← HM.out]; omega, by rw [← hS, ← hT0]; exact he, hlt⟩))
            obtain ⟨X, hX⟩ : ∃ X, X = F a b (p + 1) q := ⟨_, rfl⟩
            obtain ⟨Y, hY⟩ : ∃ Y, Y = F a b p (q + 1) := ⟨_, rfl⟩
            rw [← hX] at d3 hlt hX4
            rw [← hY] at d4 hlt hY4
            have g1 : (X : Int) < (Y : Int) := by omega
            clear hX hY hr1 hr2 hTw hS hT0 he HS
            go_wp2_with fail
            go_region
            go_wp2_with fail
            go_region
            have hown : (wr.drewN 2).ownsRow wt.heap.size 3 1 _ pre.length (pre.map iv) := htx
            have hbd : Below wt.heap.size wt (wr.drewN 2) := ⟨hb.os, hb.tape, hb.output, hb.size, hb.block⟩
            have hpl2 : pre.length ≤ 800 := by omega
            have hszd : wt.heap.size ≤ (wr.drewN 2).heap.size := hsz
            have hww : wr.drew.drew = wr.drewN 2 := rfl
            rw [hww]
            generalize wr.drewN 2 = wd at hown hbd hszd ⊢
            clear htx hb hsz hww
            go_wp2_with (at_builtin; refine wpList_append_own _ rfl _ _ 45 rfl wt.heap.size 3 iI (.int .i64 0) 1 8 Try.underlying45 hI hI0 hI1 hI2 rfl (by decide) _ _ _ rfl (hown.alloc _) ⟨wd.heap.size, 0, none⟩ 1 1 [iv 2] rfl rfl ?c1 ?c2 ?c3 ?c4 ?c5 ?_)
            case c1 => exact cell_one_new _ _ _
            case c2 => exact iv_one [2]
            case c3 => unfold maxLen; omega
            case c4 => omega
            case c5 => simp; omega
            intro v' w2 hown' hgrow _
            have hb3 := below_step hbd hown hgrow
            have htx2 : Ints w2 wt.heap.size v' (pre ++ [2]) := by
              unfold Ints
              rw [List.length_append, List.map_append]
              exact hown'
            clear hown hown' hgrow hbd
            go_wp2_with fail
            go_roundw
            case rel => exact ⟨pre ++ [2], p, q + 1, by go_num, by go_num, HS2, htx2, hb3⟩
            case measure => simp only [intOf]; omega
          · have HS2 := Lib.hid (st_drop HS.out (by rw [← HM.out]; omega) (.inr ⟨by rw [← HN.out]; omega, by rw [← hS, ← hT0]; exact he, hlt⟩))
            obtain ⟨X, hX⟩ : ∃ X, X = F a b (p + 1) q := ⟨_, rfl⟩
            obtain ⟨Y, hY⟩ : ∃ Y, Y = F a b p (q + 1) := ⟨_, rfl⟩
            rw [← hX] at d3 hlt hX4
            rw [← hY] at d4 hlt hY4
            have g1 : ¬ (X : Int) < (Y : Int) := by omega
            clear hX hY hr1 hr2 hTw hS hT0 he HS
            go_wp2_with fail
            go_region
            go_wp2_with fail
            go_region
            have hown : (wr.drewN 2).ownsRow wt.heap.size 3 1 _ pre.length (pre.map iv) := htx
            have hbd : Below wt.heap.size wt (wr.drewN 2) := ⟨hb.os, hb.tape, hb.output, hb.size, hb.block⟩
            have hpl2 : pre.length ≤ 800 := by omega
            have hszd : wt.heap.size ≤ (wr.drewN 2).heap.size := hsz
            have hww : wr.drew.drew = wr.drewN 2 := rfl
            rw [hww]
            generalize wr.drewN 2 = wd at hown hbd hszd ⊢
            clear htx hb hsz hww
            go_wp2_with (at_builtin; refine wpList_append_own _ rfl _ _ 45 rfl wt.heap.size 3 iI (.int .i64 0) 1 8 Try.underlying45 hI hI0 hI1 hI2 rfl (by decide) _ _ _ rfl (hown.alloc _) ⟨wd.heap.size, 0, none⟩ 1 1 [iv 1] rfl rfl ?c1 ?c2 ?c3 ?c4 ?c5 ?_)
            case c1 => exact cell_one_new _ _ _
            case c2 => exact iv_one [1]
            case c3 => unfold maxLen; omega
            case c4 => omega
            case c5 => simp; omega
            intro v' w2 hown' hgrow _
            have hb3 := below_step hbd hown hgrow
            have htx2 : Ints w2 wt.heap.size v' (pre ++ [1]) := by
              unfold Ints
              rw [List.length_append, List.map_append]
              exact hown'
            clear hown hown' hgrow hbd
            go_wp2_with fail
            go_roundw
            case rel => exact ⟨pre ++ [1], p + 1, q, by go_num, by go_num, HS2, htx2, hb3⟩
            case measure => simp only [intOf]; omega
      · have hqe : q = n := by omega
        have e2 : ¬ (q : Int) < (n : Int) := by omega
        have e4 : ((q : Int) == (n : Int)) = true := beq_iff_eq.2 (by omega)
        have HS2 := Lib.hid (st_drop HS.out (by rw [← HM.out]; omega) (.inl (by rw [← HN.out]; exact hqe)))
        clear HS hqe
        go_wp2_with fail
        go_region
        have hown : (wr.drewN 1).ownsRow wt.heap.size 3 1 _ pre.length (pre.map iv) := htx
        have hbd : Below wt.heap.size wt (wr.drewN 1) := ⟨hb.os, hb.tape, hb.output, hb.size, hb.block⟩
        have hpl2 : pre.length ≤ 800 := by omega
        have hszd : wt.heap.size ≤ (wr.drewN 1).heap.size := hsz
        have hww : wr.drew = wr.drewN 1 := rfl
        rw [hww]
        generalize wr.drewN 1 = wd at hown hbd hszd ⊢
        clear htx hb hsz hww
        go_wp2_with (at_builtin; refine wpList_append_own _ rfl _ _ 45 rfl wt.heap.size 3 iI (.int .i64 0) 1 8 Try.underlying45 hI hI0 hI1 hI2 rfl (by decide) _ _ _ rfl (hown.alloc _) ⟨wd.heap.size, 0, none⟩ 1 1 [iv 1] rfl rfl ?c1 ?c2 ?c3 ?c4 ?c5 ?_)
        case c1 => exact cell_one_new _ _ _
        case c2 => exact iv_one [1]
        case c3 => unfold maxLen; omega
        case c4 => omega
        case c5 => simp; omega
        intro v' w2 hown' hgrow _
        have hb3 := below_step hbd hown hgrow
        have htx2 : Ints w2 wt.heap.size v' (pre ++ [1]) := by
          unfold Ints
          rw [List.length_append, List.map_append]
          exact hown'
        clear hown hown' hgrow hbd
        go_wp2_with fail
        go_roundw
        case rel => exact ⟨pre ++ [1], p + 1, q, by go_num, by go_num, HS2, htx2, hb3⟩
        case measure => simp only [intOf]; omega
    · have hpe : p = m := by omega
      have e1 : ¬ (p : Int) < (m : Int) := by omega
      by_cases hqn : q < n
      · have e2 : (q : Int) < (n : Int) := by omega
        have e4 : ((q : Int) == (n : Int)) = false := beq_eq_false_iff_ne.2 (by omega)
        have e5 : ((p : Int) == (m : Int)) = true := beq_iff_eq.2 (by omega)
        have HS2 := Lib.hid (st_add HS.out (by rw [← HN.out]; omega) (.inl (by rw [← HM.out]; exact hpe)))
        clear HS hpe
        go_wp2_with fail
        go_region
        go_wp2_with fail
        go_region
        have hown : (wr.drewN 2).ownsRow wt.heap.size 3 1 _ pre.length (pre.map iv) := htx
        have hbd : Below wt.heap.size wt (wr.drewN 2) := ⟨hb.os, hb.tape, hb.output, hb.size, hb.block⟩
        have hpl2 : pre.length ≤ 800 := by omega
        have hszd : wt.heap.size ≤ (wr.drewN 2).heap.size := hsz
        have hww : wr.drew.drew = wr.drewN 2 := rfl
        rw [hww]
        generalize wr.drewN 2 = wd at hown hbd hszd ⊢
        clear htx hb hsz hww
        go_wp2_with (at_builtin; refine wpList_append_own _ rfl _ _ 45 rfl wt.heap.size 3 iI (.int .i64 0) 1 8 Try.underlying45 hI hI0 hI1 hI2 rfl (by decide) _ _ _ rfl (hown.alloc _) ⟨wd.heap.size, 0, none⟩ 1 1 [iv 2] rfl rfl ?c1 ?c2 ?c3 ?c4 ?c5 ?_)
        case c1 => exact cell_one_new _ _ _
        case c2 => exact iv_one [2]
        case c3 => unfold maxLen; omega
        case c4 => omega
        case c5 => simp; omega
        intro v' w2 hown' hgrow _
        have hb3 := below_step hbd hown hgrow
        have htx2 : Ints w2 wt.heap.size v' (pre ++ [2]) := by
          unfold Ints
          rw [List.length_append, List.map_append]
          exact hown'
        clear hown hown' hgrow hbd
        go_wp2_with fail
        go_roundw
        case rel => exact ⟨pre ++ [2], p, q + 1, by go_num, by go_num, HS2, htx2, hb3⟩
        case measure => simp only [intOf]; omega
      · have e2 : ¬ (q : Int) < (n : Int) := by omega
        have HE := Lib.hid (st_end HS.out (by rw [← HM.out]; exact hpe) (by rw [← HN.out]; omega))
        clear HS hpe
        go_wp2_with fail
        go_ret
        have hBw : Below w.heap.size w wr := HBT.out.trans (hb.mono HBT.out.size)
        unfold IntsTo
        rw [HE.out]
        exact ⟨_, rfl, own_base htx HBT.out.size, hBw⟩
end Go.Proofs.Ytmlmgmodgcpkpaa.Ud

namespace Go.Proofs.Ytmlmgmodgcpkpaa.Ud
open Go.RowKit Tx Um Aq
set_option linter.unusedVariables false
theorem infoEdit : (Try.prog.info? 37).map (fun i => (i.zero, i.size, i.bytes)) = some (some (.agg #[.int .i64 0, .int .i64 0]), 2, 16) := by kernel_rfl
theorem infoPair : (Try.prog.info? 42).map (fun i => (i.zero, i.size, i.bytes)) = some (some (.agg #[.int .i64 0, .int .i64 0]), 2, 16) := by kernel_rfl
def c2 (x : Nat × Nat) : List Value := [iv x.1, iv x.2]
theorem c2_one (x : Nat × Nat) : ∀ u ∈ c2 x, u.oneCell' = true := by
  intro u hu
  rcases List.mem_cons.1 hu with rfl | hu
  · rfl
  · obtain rfl := List.mem_singleton.1 hu
    rfl
theorem flat2_len (l : List (Nat × Nat)) : (l.flatMap c2).length = l.length * 2 := by
  induction l with
  | nil => rfl
  | cons x l ih => rw [List.flatMap_cons, List.length_append, ih, List.length_cons]; show 2 + _ = _; omega
theorem flat2_get (l : List (Nat × Nat)) (k : Nat) (x : Nat × Nat) (h : l[k]? = some x) : (l.flatMap c2)[k * 2]? = some (iv x.1) ∧ (l.flatMap c2)[k * 2 + 1]? = some (iv x.2) := by
  induction l generalizing k with
  | nil => cases h
  | cons y l ih =>
    rw [List.flatMap_cons]
    cases k with
    | zero =>
      injection h with h
      subst h
      exact ⟨rfl, rfl⟩
    | succ k =>
      obtain ⟨h1, h2⟩ := ih k h
      have e : (c2 y).length = 2 := rfl
      rw [List.getElem?_append_right (by omega), List.getElem?_append_right (by omega), e, show (k + 1) * 2 - 2 = k * 2 by omega, show (k + 1) * 2 + 1 - 2 = k * 2 + 1 by omega]
      exact ⟨h1, h2⟩
def Prs (E : TypeId) (w : World) (B : Nat) (v : Value) (l : List (Nat × Nat)) : Prop := w.ownsRow B E 2 v l.length (l.flatMap c2)
theorem Prs.below {E : TypeId} {w w1 : World} {B : Nat} {v : Value} {l : List (Nat × Nat)} (h : Prs E w B v l) (hb : Below w.heap.size w w1) : Prs E w1 B v l := by
  refine ⟨h.1, ?_⟩
  rcases h.2 with h0 | ⟨g', cap', cur, hv, hg, hh, r⟩
  · exact .inl h0
  · exact .inr ⟨g', cap', cur, hv, hg, (hb.block g' (Array.getElem?_eq_some_iff.1 hh).1).trans hh, r⟩
def PrsR (w : World) (a : Option Addr) (n : Nat) (l : List (Nat × Nat)) : Prop := l.length = n ∧ (n = 0 ∨ ∃ b off, a = some ⟨b, off, none⟩ ∧ b < w.heap.size ∧ ∀ (k : Nat) x, l[k]? = some x → w.cell? ⟨b, off + k * 2, none⟩ = some (iv x.1) ∧ w.cell? ⟨b, off + k * 2 + 1, none⟩ = some (iv x.2))
theorem PrsR.below {w w1 : World} {a : Option Addr} {n : Nat} {l : List (Nat × Nat)} (h : PrsR w a n l) (hb : Below w.heap.size w w1) : PrsR w1 a n l := by
  refine ⟨h.1, ?_⟩
  rcases h.2 with h0 | ⟨b, off, ha, hlt, hc⟩
  · exact .inl h0
  · exact .inr ⟨b, off, ha, Nat.lt_of_lt_of_le hlt hb.size, fun k x hx => ⟨(hb.cell (p := ⟨b, _, none⟩) hlt).trans (hc k x hx).1, (hb.cell (p := ⟨b, _, none⟩) hlt).trans (hc k x hx).2⟩⟩
theorem Prs.form {E : TypeId} {w : World} {B : Nat} {v : Value} {l : List (Nat × Nat)} (h : Prs E w B v l) : ∃ a c, v = .slice a l.length c ∧ PrsR w a l.length l := by
  have hh := h
  rcases h.2 with ⟨rfl, h0⟩ | ⟨g, cap, cur, rfl, hg, hh2, hn, hc, _⟩
  · exact ⟨none, 0, by rw [h0], ⟨rfl, .inl h0⟩⟩
  · refine ⟨some ⟨g, 0, none⟩, cap, rfl, ⟨rfl, .inr ⟨g, 0, rfl, (Array.getElem?_eq_some_iff.1 hh2).1, fun k x hx => ?_⟩⟩⟩
    obtain ⟨h1, h2⟩ := flat2_get l k x hx
    have e1 := hh.cells (g := g) rfl _ _ h1
    have e2 := hh.cells (g := g) rfl _ _ h2
    rw [WideShapes.add_plain] at e1 e2
    exact ⟨e1, e2⟩
theorem cell_two_new (w : World) (u v : Value) (e : TypeId) : ∀ (j : Nat) x, [u, v][j]? = some x → (w.alloc (.cells #[u, v] e)).cell? ((⟨w.heap.size, 0, none⟩ : Addr).add j) = some x := by
  intro j x hj
  rw [WideShapes.add_plain]
  match j, hj with
  | 0, hj => injection hj with hj; subst hj; show (w.alloc _).cell? ⟨w.heap.size, 0, none⟩ = _; go_simp
  | 1, hj => injection hj with hj; subst hj; show (w.alloc _).cell? ⟨w.heap.size, 1, none⟩ = _; go_simp
theorem below_drewN {B : Nat} {a w : World} (h : Below B a w) (n : Nat) : Below B a (w.drewN n) := ⟨h.os, h.tape, h.output, h.size, h.block⟩
theorem run_eql_pair (a b c d : Int) (w : World) : (Op.equalIn 10000 42 (.agg #[.int .i64 a, .int .i64 b]) (.agg #[.int .i64 c, .int .i64 d])).run Try.prog w = .ok ((a == c) && (b == d)) w := by
  obtain ⟨iI, hI, _⟩ := info_parts infoInt
  have hu : Try.prog.underlying 3 = some (.int .i64) := by kernel_rfl
  have hc : Try.prog.cellsOf 3 = 1 := by kernel_rfl
  have hk : Try.prog.plainKey 3 = true := by kernel_rfl
  have p0 : ∀ (x y : Int), (part 3 #[.int .i64 x, .int .i64 y] (0 * 1)).run Try.prog w = .ok (.int .i64 x) w := fun x y => run_part_plain w hk rfl
  have p1 : ∀ (x y : Int), (part 3 #[.int .i64 x, .int .i64 y] (1 * 1)).run Try.prog w = .ok (.int .i64 y) w := fun x y => run_part_plain w hk rfl
  rw [show (10000 : Nat) = 9999 + 1 from rfl, run_equalIn_array w 9999 _ _ (show Try.prog.underlying 42 = some (.array 2 3) by kernel_rfl) hI, hc, show List.range 2 = [0, 1] from rfl]
  simp only [Op.eqItems, Sem.run_bind, p0, Result.andThen_ok]
  have q1 : ∀ (x y : Int), (Op.equalIn 9999 3 (.int .i64 x) (.int .i64 y)).run Try.prog w = .ok (x == y) w := fun x y => run_equalIn_int w 9998 _ .i64 .i64 x y hu
  rw [q1]
  simp only [Result.andThen_ok]
  cases h1 : a == c
  · simp
  · simp only [Bool.not_true, Bool.false_eq_true, if_false, Sem.run_bind, p1, Result.andThen_ok, q1]
    cases h2 : b == d <;> simp
theorem run_neq_pair (a b c d : Int) (w : World) : (binOp .neq 42 (.agg #[.int .i64 a, .int .i64 b]) (.agg #[.int .i64 c, .int .i64 d])).run Try.prog w = .ok (.bool (!((a == c) && (b == d)))) w := by
  rw [run_neq_struct, run_eql_pair]
  rfl
theorem guardEd : Try.prog.eqGuardType Try.prog.depth 37 = false := by kernel_rfl
theorem guardPr : Try.prog.eqGuardType Try.prog.depth 42 = false := by kernel_rfl
set_option maxRecDepth 100000 in
set_option maxHeartbeats 1000000 in
theorem sameEdits_true (a b : Option Addr) (n ca cb : Nat) (l : List (Nat × Nat)) (w : World) (ha : PrsR w a n l) (hb : PrsR w b n l) (hn : n ≤ 9223372036854775806) :
    Calls Try.prog 13 #[.slice a n ca, .slice b n cb] w fun e w' => e = .returned (.bool true) ∧ Below w.heap.size w w' := by
  by_cases h0 : n = 0
  · subst h0
    clear ha hb
    go_enter Try.func13, Try.ntmps13
    go_wp2_with fail
    go_loop [5] (fun i => i = .int .i64 0) (fun _ => 0)
    case atStart => exact rfl
    case round =>
      obtain rfl := hrel
      go_wp2_with fail
      go_ret
      exact ⟨rfl, Below.refl _ _⟩
  · obtain ⟨hl, ha⟩ := ha
    obtain ⟨ba, oa, rfl, hba, hca⟩ := ha.resolve_left h0
    obtain ⟨bb, ob, rfl, hbb, hcb⟩ := hb.2.resolve_left h0
    have HA := Lib.hid hca
    have HB := Lib.hid hcb
    clear hca hcb ha hb h0
    go_enter Try.func13, Try.ntmps13
    go_wp2_with fail
    go_loopw [5] (fun i wr => ∃ k : Nat, k ≤ n ∧ i = .int .i64 k ∧ Below w.heap.size w wr) (fun i _ => n - (intOf i).toNat)
    case atStart => exact ⟨0, Nat.zero_le _, rfl, Below.refl _ _⟩
    case round =>
      obtain ⟨k, hk, rfl, hW⟩ := hrel
      by_cases hlt : k < n
      · obtain ⟨x, hx⟩ : ∃ x, l[k]? = some x := ⟨_, List.getElem?_eq_getElem (by omega)⟩
        obtain ⟨c1, c2⟩ := HA.out k x hx
        obtain ⟨d1, d2⟩ := HB.out k x hx
        have f1 := (hW.cell (p := ⟨ba, _, none⟩) hba).trans c1
        have f2 := (hW.cell (p := ⟨ba, _, none⟩) hba).trans c2
        have g1 := (hW.cell (p := ⟨bb, _, none⟩) hbb).trans d1
        have g2 := (hW.cell (p := ⟨bb, _, none⟩) hbb).trans d2
        have hlt1 : (k : Int) < (n : Int) := by omega
        have hgE := guardEd
        clear c1 c2 d1 d2 hx hl
        obtain ⟨P, K⟩ := x
        unfold iv at f1 f2 g1 g2
        simp only at f1 f2 g1 g2
        go_wp2_with fail
        go_quiet (fail)
        go_wp2_with fail
        go_roundw
        case rel => exact ⟨k + 1, by omega, by go_num, below_drewN hW _⟩
        case measure => simp [intOf]; omega
      · go_wp2_with fail
        go_ret
        exact ⟨rfl, hW⟩
set_option maxRecDepth 100000 in
set_option maxHeartbeats 1000000 in
theorem samePairs_true (a b : Option Addr) (n ca cb : Nat) (l : List (Nat × Nat)) (w : World) (ha : PrsR w a n l) (hb : PrsR w b n l) (hn : n ≤ 9223372036854775806) :
    Calls Try.prog 14 #[.slice a n ca, .slice b n cb] w fun e w' => e = .returned (.bool true) ∧ Below w.heap.size w w' := by
  by_cases h0 : n = 0
  · subst h0
    clear ha hb
    go_enter Try.func14, Try.ntmps14
    go_wp2_with fail
    go_loop [5] (fun i => i = .int .i64 0) (fun _ => 0)
    case atStart => exact rfl
    case round =>
      obtain rfl := hrel
      go_wp2_with fail
      go_ret
      exact ⟨rfl, Below.refl _ _⟩
  · obtain ⟨hl, ha⟩ := ha
    obtain ⟨ba, oa, rfl, hba, hca⟩ := ha.resolve_left h0
    obtain ⟨bb, ob, rfl, hbb, hcb⟩ := hb.2.resolve_left h0
    have HA := Lib.hid hca
    have HB := Lib.hid hcb
    clear hca hcb ha hb h0
    go_enter Try.func14, Try.ntmps14
    go_wp2_with fail
    go_loopw [5] (fun i wr => ∃ k : Nat, k ≤ n ∧ i = .int .i64 k ∧ Below w.heap.size w wr) (fun i _ => n - (intOf i).toNat)
    case atStart => exact ⟨0, Nat.zero_le _, rfl, Below.refl _ _⟩
    case round =>
      obtain ⟨k, hk, rfl, hW⟩ := hrel
      by_cases hlt : k < n
      · obtain ⟨x, hx⟩ : ∃ x, l[k]? = some x := ⟨_, List.getElem?_eq_getElem (by omega)⟩
        obtain ⟨c1, c2⟩ := HA.out k x hx
        obtain ⟨d1, d2⟩ := HB.out k x hx
        have f1 := (hW.cell (p := ⟨ba, _, none⟩) hba).trans c1
        have f2 := (hW.cell (p := ⟨ba, _, none⟩) hba).trans c2
        have g1 := (hW.cell (p := ⟨bb, _, none⟩) hbb).trans d1
        have g2 := (hW.cell (p := ⟨bb, _, none⟩) hbb).trans d2
        have hlt1 : (k : Int) < (n : Int) := by omega
        have hgE := guardPr
        have hQ := run_neq_pair
        clear c1 c2 d1 d2 hx hl
        obtain ⟨P, K⟩ := x
        unfold iv at f1 f2 g1 g2
        simp only at f1 f2 g1 g2
        go_wp2_with fail
        go_quiet (fail)
        go_wp2_with fail
        go_roundw
        case rel => exact ⟨k + 1, by omega, by go_num, below_drewN hW _⟩
        case measure => simp [intOf]; omega
      · go_wp2_with fail
        go_ret
        exact ⟨rfl, hW⟩
end Go.Proofs.Ytmlmgmodgcpkpaa.Ud

namespace Go.Proofs.Ytmlmgmodgcpkpaa.Um
set_option linter.unusedVariables false
theorem Makes.le {α : Type} {a b : List α} {s : List Nat} (h : Makes a b s) : ∀ x, x ∈ s → x = 0 ∨ x = 1 ∨ x = 2 := by
  induction h with
  | nil => intro x hx; cases hx
  | keep _ _ ih => intro x hx; rcases List.mem_cons.1 hx with rfl | hx; exact .inl rfl; exact ih x hx
  | drop _ _ ih => intro x hx; rcases List.mem_cons.1 hx with rfl | hx; exact .inr (.inl rfl); exact ih x hx
  | add _ _ ih => intro x hx; rcases List.mem_cons.1 hx with rfl | hx; exact .inr (.inr rfl); exact ih x hx
theorem runs_cons (x : Nat) (s : List Nat) : runs (x :: s) = match runs s with
    | [] => [(x, 1)]
    | (y, n) :: r => if x = y then (y, n + 1) :: r else (x, 1) :: (y, n) :: r := rfl
theorem runs_head (x : Nat) (s : List Nat) : ∃ n r, runs (x :: s) = (x, n + 1) :: r := by
  rw [runs_cons]
  cases runs s with
  | nil => exact ⟨0, [], rfl⟩
  | cons p r =>
    obtain ⟨y, n⟩ := p
    show ∃ n_1 r_1, (if x = y then (y, n + 1) :: r else (x, 1) :: (y, n) :: r) = (x, n_1 + 1) :: r_1
    by_cases h : x = y
    · rw [if_pos h, h]; exact ⟨n, r, rfl⟩
    · rw [if_neg h]; exact ⟨0, _, rfl⟩
theorem runs_rep (x : Nat) (t : List Nat) (ht : ∀ y, t[0]? = some y → y ≠ x) : ∀ n, runs (List.replicate (n + 1) x ++ t) = (x, n + 1) :: runs t := by
  intro n
  induction n with
  | zero =>
    show runs (x :: t) = _
    rw [runs_cons]
    cases t with
    | nil => rfl
    | cons y t =>
      obtain ⟨n, r, e⟩ := runs_head y t
      rw [e]
      have := ht y rfl
      show (if x = y then _ else _) = _
      rw [if_neg (fun e => this e.symm)]
  | succ n ih =>
    rw [List.replicate_succ, List.cons_append, runs_cons, ih]
    show (if x = x then _ else _) = _
    rw [if_pos rfl]
theorem runs_len (s : List Nat) : (runs s).length ≤ s.length := by
  induction s with
  | nil => exact Nat.le_refl _
  | cons x s ih =>
    rw [runs_cons]
    cases h : runs s with
    | nil => simp
    | cons p r =>
      obtain ⟨y, n⟩ := p
      rw [h] at ih
      by_cases e : x = y
      · show (if x = y then _ else _ : List (Nat × Nat)).length ≤ _
        rw [if_pos e]; simp at ih ⊢; omega
      · show (if x = y then _ else _ : List (Nat × Nat)).length ≤ _
        rw [if_neg e]; simp at ih ⊢; omega
def flat (l : List (Nat × Nat)) : List Nat := l.flatMap fun p => List.replicate p.2 p.1
theorem runs_flat (s : List Nat) : flat (runs s) = s := by
  induction s with
  | nil => rfl
  | cons x s ih =>
    rw [runs_cons]
    cases h : runs s with
    | nil =>
      rw [h] at ih
      obtain rfl : [] = s := ih
      rfl
    | cons p r =>
      obtain ⟨y, n⟩ := p
      rw [h] at ih
      by_cases e : x = y
      · show flat (if x = y then _ else _) = _
        rw [if_pos e, ← ih, e]
        simp [flat, List.replicate_succ]
      · show flat (if x = y then _ else _) = _
        rw [if_neg e, ← ih]
        rfl
def Runs (l : List (Nat × Nat)) : Prop := (∀ p, p ∈ l → 1 ≤ p.2) ∧ ∀ (k : Nat) p q, l[k]? = some p → l[k + 1]? = some q → p.1 ≠ q.1
theorem runs_good (s : List Nat) : Runs (runs s) := by
  induction s with
  | nil => exact ⟨fun p hp => (by cases hp), fun k p q h => (by cases h)⟩
  | cons x s ih =>
    rw [runs_cons]
    cases h : runs s with
    | nil => exact ⟨fun p hp => by obtain rfl := List.mem_singleton.1 hp; exact Nat.le_refl _, fun k p q h1 h2 => by simp at h2⟩
    | cons p r =>
      obtain ⟨y, n⟩ := p
      rw [h] at ih
      obtain ⟨i1, i2⟩ := ih
      show Runs (if x = y then _ else _)
      by_cases e : x = y
      · rw [if_pos e]
        refine ⟨fun p hp => ?_, fun k p q h1 h2 => ?_⟩
        · rcases List.mem_cons.1 hp with rfl | hp
          · exact Nat.le_add_left _ _
          · exact i1 p (by simp [hp])
        · cases k with
          | zero =>
            simp at h1 h2
            subst h1
            exact i2 0 (y, n) q rfl (by simpa using h2)
          | succ k => exact i2 (k + 1) p q (by simpa using h1) (by simpa using h2)
      · rw [if_neg e]
        refine ⟨fun p hp => ?_, fun k p q h1 h2 => ?_⟩
        · rcases List.mem_cons.1 hp with rfl | hp
          · exact Nat.le_refl _
          · exact i1 p hp
        · cases k with
          | zero => simp at h1 h2; subst h1; subst h2; exact e
          | succ k => exact i2 k p q (by simpa using h1) (by simpa using h2)
def far : List (Nat × Nat) → Nat
  | [] => 0
  | p :: l => (if p.1 = 0 then 0 else p.2) + far l
theorem far_flat (l : List (Nat × Nat)) : far l + (flat l).count 0 = (flat l).length := by
  induction l with
  | nil => rfl
  | cons p l ih =>
    have e : flat (p :: l) = List.replicate p.2 p.1 ++ flat l := rfl
    rw [e, List.count_append, List.length_append, List.length_replicate, List.count_replicate, far]
    by_cases h : p.1 = 0
    · rw [if_pos h, if_pos (by simp [h])]; omega
    · rw [if_neg h, if_neg (by simpa using h)]; omega
theorem far_dist {α : Type} [DecidableEq α] (a b : List α) : far (runs (steps a b)) = dist a b := by
  have h1 := far_flat (runs (steps a b))
  rw [runs_flat] at h1
  have h2 := (makes a b).lens
  unfold dist
  omega
theorem far_take (l : List (Nat × Nat)) (k : Nat) (p : Nat × Nat) (h : l[k]? = some p) : far (l.take (k + 1)) = far (l.take k) + (if p.1 = 0 then 0 else p.2) := by
  induction l generalizing k with
  | nil => cases h
  | cons q l ih =>
    cases k with
    | zero => injection h with h; subst h; simp [far]
    | succ k => rw [List.take_succ_cons, List.take_succ_cons, far, far, ih k h]; omega
theorem far_le (l : List (Nat × Nat)) (k : Nat) : far (l.take k) ≤ far l := by
  induction l generalizing k with
  | nil => simp
  | cons q l ih =>
    cases k with
    | zero => exact Nat.zero_le _
    | succ k => have := ih k; rw [List.take_succ_cons, far, far]; omega
def PK (s : List Nat) (k i j : Nat) (pre : List (Nat × Nat)) : Prop := pairs 0 0 s = pre ++ pairs i j (s.drop k) ∧ i ≤ k ∧ j ≤ k ∧ pre.length ≤ k
theorem pk_start (s : List Nat) : PK s 0 0 0 [] := ⟨rfl, Nat.le_refl _, Nat.le_refl _, Nat.le_refl _⟩
theorem drop_at {s : List Nat} {k x : Nat} (h : s[k]? = some x) : s.drop k = x :: s.drop (k + 1) := by
  obtain ⟨h1, h2⟩ := List.getElem?_eq_some_iff.1 h
  rw [List.drop_eq_getElem_cons h1, h2]
theorem pk_keep {s : List Nat} {k i j : Nat} {pre : List (Nat × Nat)} (h : PK s k i j pre) (hx : s[k]? = some 0) : PK s (k + 1) (i + 1) (j + 1) (pre ++ [(i, j)]) := by
  obtain ⟨h1, h2, h3, h4⟩ := h
  refine ⟨?_, by omega, by omega, by simp; omega⟩
  rw [h1, drop_at hx, pairs, List.append_assoc]
  rfl
theorem pk_drop {s : List Nat} {k i j : Nat} {pre : List (Nat × Nat)} (h : PK s k i j pre) (hx : s[k]? = some 1) : PK s (k + 1) (i + 1) j pre := by
  obtain ⟨h1, h2, h3, h4⟩ := h
  refine ⟨?_, by omega, by omega, by omega⟩
  rw [h1, drop_at hx, pairs]
theorem pk_add {s : List Nat} {k i j : Nat} {pre : List (Nat × Nat)} (h : PK s k i j pre) (hx : s[k]? = some 2) : PK s (k + 1) i (j + 1) pre := by
  obtain ⟨h1, h2, h3, h4⟩ := h
  refine ⟨?_, by omega, by omega, by omega⟩
  rw [h1, drop_at hx, pairs]
  all_goals simp
theorem pk_end {s : List Nat} {k i j : Nat} {pre : List (Nat × Nat)} (h : PK s k i j pre) (hk : k = s.length) : pairs 0 0 s = pre := by
  rw [h.1, hk, List.drop_length]
  exact List.append_nil _
end Go.Proofs.Ytmlmgmodgcpkpaa.Um

namespace Go.Proofs.Ytmlmgmodgcpkpaa.Ud
open Go.RowKit Tx Um Aq
set_option linter.unusedVariables false
theorem ints_cell {w : World} {B : Nat} {v : Value} {l : List Nat} (h : Ints w B v l) : ∃ a c, v = .slice a l.length c ∧ (l.length = 0 ∨ ∃ g, a = some ⟨g, 0, none⟩ ∧ g < w.heap.size ∧ ∀ (k : Nat) x, l[k]? = some x → w.cell? ⟨g, k, none⟩ = some (.int .i64 (x : Int))) := by
  have hh := h
  rcases h.2 with ⟨rfl, h0⟩ | ⟨g, cap, cur, rfl, hg, hh2, hn, hc, _⟩
  · exact ⟨none, 0, by rw [h0], .inl h0⟩
  · refine ⟨some ⟨g, 0, none⟩, cap, rfl, .inr ⟨g, rfl, (Array.getElem?_eq_some_iff.1 hh2).1, fun k x hx => ?_⟩⟩
    exact own_cell hh (by rw [List.getElem?_map, hx]; rfl)
theorem dif_or (s : List Nat) (i n x : Nat) (hx : s[i]? = some x) (hr : ∀ k, k < n → s[i + k]? = some x) (hstop : ∀ y, s[i + n]? = some y → y ≠ x) (hn : 1 ≤ n) : runs (s.drop i) = (x, n) :: runs (s.drop (i + n)) := by
  obtain ⟨m, rfl⟩ : ∃ m, n = m + 1 := ⟨n - 1, by omega⟩
  have e : s.drop i = List.replicate (m + 1) x ++ s.drop (i + (m + 1)) := by
    apply List.ext_getElem?
    intro k
    rw [List.getElem?_drop]
    by_cases hk : k < m + 1
    · rw [List.getElem?_append_left (by simpa using hk), List.getElem?_replicate, if_pos hk]
      exact hr k hk
    · rw [List.getElem?_append_right (by simpa using hk), List.length_replicate, List.getElem?_drop]
      congr 1
      omega
  rw [e, runs_rep x (s.drop (i + (m + 1))) (fun y hy => by rw [List.getElem?_drop] at hy; exact hstop y (by simpa using hy)) m]
def PrsTo (E : TypeId) (l : List (Nat × Nat)) (er : Nat) (w : World) (e : Ending) (w' : World) : Prop := ∃ v, e = .returned (.tuple #[v, .int .i64 (er : Int)]) ∧ Prs E w' w.heap.size v l ∧ Below w.heap.size w w'
def lng (a b : List ByteArray) : Bool := decide (400 < a.length) || decide (400 < b.length)
def scr (a b : List ByteArray) : List (Nat × Nat) := if lng a b then [] else runs (steps a b)
def kep (a b : List ByteArray) : List (Nat × Nat) := if lng a b then [] else pairs 0 0 (steps a b)
def err (a b : List ByteArray) : Nat := if lng a b then 4 else 0
set_option maxRecDepth 100000 in
set_option maxHeartbeats 4000000 in
theorem refScript_any (A B : Option Addr) (ca cb : Nat) (a b : List ByteArray) (w : World) (hA : Strs w A a.length a) (hB : Strs w B b.length b) :
    Calls Try.prog 8 #[.slice A a.length ca, .slice B b.length cb] w (PrsTo 37 (scr a b) (err a b) w) := by
  obtain ⟨iE, hI, hI0, hI1, hI2⟩ := info_parts infoEdit
  have hsl := (makes a b).lens
  have hk := kept a b
  have hkl := lcs_le_left a b
  by_cases hm : 400 < a.length
  · have e1 : (400 : Int) < (a.length : Int) := by omega
    have HE : Hid (scr a b = [] ∧ err a b = 4) := by
      show _ ∧ _
      unfold scr err lng
      rw [decide_eq_true hm]
      exact ⟨rfl, rfl⟩
    clear hsl hk hkl
    go_enter Try.func8, Try.ntmps8
    go_wp2_with fail
    go_ret2
    unfold PrsTo
    rw [HE.out.1, HE.out.2]
    exact ⟨_, rfl, World.ownsRow_nil _ _ _ _, Below.refl _ _⟩
  · have e1 : ¬ (400 : Int) < (a.length : Int) := by omega
    by_cases hn : 400 < b.length
    · have e2 : (400 : Int) < (b.length : Int) := by omega
      have HE : Hid (scr a b = [] ∧ err a b = 4) := by
        show _ ∧ _
        unfold scr err lng
        rw [decide_eq_true hn, Bool.or_true]
        exact ⟨rfl, rfl⟩
      clear hsl hk hkl
      go_enter Try.func8, Try.ntmps8
      go_wp2_with fail
      go_ret2
      unfold PrsTo
      rw [HE.out.1, HE.out.2]
      exact ⟨_, rfl, World.ownsRow_nil _ _ _ _, Below.refl _ _⟩
    · have e2 : ¬ (400 : Int) < (b.length : Int) := by omega
      have HE : Hid (scr a b = runs (steps a b) ∧ err a b = 0) := by
        show _ ∧ _
        unfold scr err lng
        rw [decide_eq_false hm, decide_eq_false hn]
        exact ⟨rfl, rfl⟩
      have cs := steps_any A B ca cb a b w (by omega) (by omega) hA hB
      have hs800 : (steps a b).length ≤ 800 := by omega
      obtain ⟨s, hs⟩ : ∃ s, s = steps a b := ⟨_, rfl⟩
      rw [← hs] at cs hs800 HE
      obtain ⟨m, hmm⟩ : ∃ m, m = a.length := ⟨_, rfl⟩
      obtain ⟨n, hnn⟩ : ∃ n, n = b.length := ⟨_, rfl⟩
      rw [← hmm] at e1 cs ⊢
      rw [← hnn] at e2 cs ⊢
      clear hs hmm hnn hsl hk hkl hm hn hA hB
      unfold IntsTo at cs
      go_enter Try.func8, Try.ntmps8
      go_wp2_with fail
      go_at_call 21
      refine cs.mono ?_
      rintro e w1 ⟨v, rfl, hv, hb1⟩
      obtain ⟨ad, cc, rfl, hcell⟩ := ints_cell hv
      have HC := Lib.hid hcell
      obtain ⟨L, hL⟩ : ∃ L, L = s.length := ⟨_, rfl⟩
      rw [← hL] at hs800 ⊢
      have HL := Lib.hid hL
      clear hL hcell hv cs
      have hsz1 := hb1.size
      go_wp2_with fail
      go_loopw [7, 8, 9] (fun v i _ wr => ∃ (pre : List (Nat × Nat)) (p : Nat), i = .int .i64 p ∧ p ≤ L ∧ pre.length ≤ p ∧ Hid (runs s = pre ++ runs (s.drop p)) ∧ Prs 37 wr w1.heap.size v pre ∧ Below w1.heap.size w1 wr) (fun _ i _ _ => L - (intOf i).toNat)
      case atStart => exact ⟨[], 0, rfl, Nat.zero_le _, Nat.zero_le _, rfl, World.ownsRow_nil _ _ _ _, Below.refl _ _⟩
      case round =>
        obtain ⟨pre, p, rfl, hp, hpl, HR, htx, hb⟩ := hrel
        by_cases hlt : p < L
        · have e3 : (p : Int) < (L : Int) := by omega
          obtain ⟨g, rfl, hg, hc⟩ := HC.out.resolve_left (by rw [← HL.out]; omega)
          have HCC := Lib.hid hc
          obtain ⟨x, hx⟩ : ∃ x, s[p]? = some x := ⟨_, List.getElem?_eq_getElem (by rw [← HL.out]; exact hlt)⟩
          have HX := Lib.hid hx
          clear hc hx
          go_wp2_with fail
          go_loopw [9] (fun q wx => ∃ n : Nat, q = .int .i64 n ∧ 1 ≤ n ∧ p + n ≤ L ∧ Hid (∀ k, k < n → s[p + k]? = some x) ∧ Prs 37 wx w1.heap.size u7 pre ∧ Below w1.heap.size w1 wx) (fun q _ => L - (intOf q).toNat)
          case atStart =>
            refine ⟨1, rfl, Nat.le_refl _, by omega, fun k hk => ?_, htx, hb⟩
            obtain rfl : k = 0 := by omega
            exact HX.out
          case round =>
            clear htx hb
            have hpl2 : pre.length ≤ 800 := by omega
            have HPL := Lib.hid hpl
            have HPP := Lib.hid hp
            obtain ⟨n, rfl, hn1, hnL, HN, htx, hbd⟩ := hrel
            have c1 := (hbd.cell (p := ⟨g, p, none⟩) hg).trans (HCC.out p x HX.out)
            obtain ⟨t, ht⟩ : ∃ t, t = p + n := ⟨_, rfl⟩
            have wpn : IntKind.i64.wrap ((p : Int) + (n : Int)) = (t : Int) := (IntWalk.i64_in _ (by omega)).trans (by omega)
            have wt : IntKind.i64.wrap (t : Int) = (t : Int) := IntWalk.i64_in _ (by omega)
            have spn : (p : Int) + (n : Int) = (t : Int) := by omega
            have HTT := Lib.hid ht
            by_cases hnl : p + n < L
            · have e4 : (t : Int) < (L : Int) := by omega
              obtain ⟨y, hy⟩ : ∃ y, s[p + n]? = some y := ⟨_, List.getElem?_eq_getElem (by rw [← HL.out]; exact hnl)⟩
              have d2 := (hbd.cell (p := ⟨g, t, none⟩) hg).trans (HCC.out t y (by rw [ht]; exact hy))
              by_cases hxy : y = x
              · have e5 : ((y : Int) == (x : Int)) = true := by rw [hxy]; exact beq_self_eq_true _
                have HN2 : Hid (∀ k, k < n + 1 → s[p + k]? = some x) := fun k hk => by
                  by_cases e : k = n
                  · rw [e, hy, hxy]
                  · exact HN.out k (by omega)
                clear hy hxy HN ht hnl hp hpl
                go_wp2_with fail
                go_region
                go_wp2_with fail
                go_roundw
                case rel => exact ⟨n + 1, by go_num, by omega, by have := HTT.out; omega, HN2, htx, below_drewN hbd 1⟩
                case measure => simp only [intOf]; omega
              · have e5 : ((y : Int) == (x : Int)) = false := beq_eq_false_iff_ne.2 (by omega)
                have HD := Lib.hid (dif_or s p n x HX.out HN.out (fun z hz => by rw [hy] at hz; injection hz with hz; rw [← hz]; exact hxy) hn1)
                clear hy hxy HN ht hnl hp hpl
                go_wp2_with fail
                go_region
                have hww : wr.drew = wr.drewN 1 := rfl
                rw [hww]
                have hown : (wr.drewN 1).ownsRow w1.heap.size 37 2 _ pre.length (pre.flatMap c2) := htx
                have hbd2 : Below w1.heap.size w1 (wr.drewN 1) := below_drewN hbd 1
                have hszd : w1.heap.size ≤ (wr.drewN 1).heap.size := hbd2.size
                have c3 := (hbd2.cell (p := ⟨g, p, none⟩) hg).trans (HCC.out p x HX.out)
                have HP2 : Hid (runs s = (pre ++ [(x, n)]) ++ runs (s.drop (p + n))) := by
                  show runs s = _
                  rw [HR.out, HD.out, List.append_assoc]
                  rfl
                generalize wr.drewN 1 = wd at hown hbd2 hszd c3 ⊢
                clear htx hbd c1 hww HR HD
                go_wp2_with (at_builtin; refine wpList_append_own _ rfl _ _ 23 rfl w1.heap.size 37 iE (.agg #[.int .i64 0, .int .i64 0]) 2 16 Try.underlying23 hI hI0 hI1 hI2 rfl (by decide) _ _ _ rfl (hown.alloc _) ⟨wd.heap.size, 0, none⟩ 1 1 (c2 (x, n)) rfl rfl ?c1 ?c2 ?c3 ?c4 ?c5 ?_)
                case c1 => exact cell_two_new _ _ _ _
                case c2 => exact c2_one (x, n)
                case c3 => unfold maxLen; omega
                case c4 => omega
                case c5 => simp; omega
                intro v' w2 hown' hgrow _
                have hb3 : Below w1.heap.size w1 w2 := (hbd2.alloc hszd _).grown hgrow (by simp; omega) (fun k hk => (hown.lt k hk).1)
                have htx2 : Prs 37 w2 w1.heap.size v' (pre ++ [(x, n)]) := by
                  unfold Prs
                  rw [List.length_append, List.flatMap_append]
                  exact hown'
                clear hown hown' hgrow hbd2
                go_wp2_with fail
                go_roundw
                case rel => exact ⟨pre ++ [(x, n)], p + n, by go_num, by have := HTT.out; omega, by have := HPL.out; simp; omega, HP2, htx2, hb3⟩
                case measure => simp only [intOf]; omega
            · have htl : p + n = L := by omega
              have HD := Lib.hid (dif_or s p n x HX.out HN.out (fun z hz => by
                have := (List.getElem?_eq_some_iff.1 hz).1
                rw [← HL.out] at this
                omega) hn1)
              have wpL : IntKind.i64.wrap ((p : Int) + (n : Int)) = (L : Int) := (IntWalk.i64_in _ (by omega)).trans (by omega)
              have wL : IntKind.i64.wrap (L : Int) = (L : Int) := IntWalk.i64_in _ (by omega)
              have spL : (p : Int) + (n : Int) = (L : Int) := by omega
              have eLL : ¬ (L : Int) < (L : Int) := by omega
              clear wpn wt spn htl
              clear HN ht hnl hp hpl
              go_wp2_with fail
              go_region
              have hww : wr.drew = wr.drewN 1 := rfl
              rw [hww]
              have hown : (wr.drewN 1).ownsRow w1.heap.size 37 2 _ pre.length (pre.flatMap c2) := htx
              have hbd2 : Below w1.heap.size w1 (wr.drewN 1) := below_drewN hbd 1
              have hszd : w1.heap.size ≤ (wr.drewN 1).heap.size := hbd2.size
              have c3 := (hbd2.cell (p := ⟨g, p, none⟩) hg).trans (HCC.out p x HX.out)
              have HP2 : Hid (runs s = (pre ++ [(x, n)]) ++ runs (s.drop (p + n))) := by
                show runs s = _
                rw [HR.out, HD.out, List.append_assoc]
                rfl
              generalize wr.drewN 1 = wd at hown hbd2 hszd c3 ⊢
              clear htx hbd c1 hww HR HD
              go_wp2_with (at_builtin; refine wpList_append_own _ rfl _ _ 23 rfl w1.heap.size 37 iE (.agg #[.int .i64 0, .int .i64 0]) 2 16 Try.underlying23 hI hI0 hI1 hI2 rfl (by decide) _ _ _ rfl (hown.alloc _) ⟨wd.heap.size, 0, none⟩ 1 1 (c2 (x, n)) rfl rfl ?c1 ?c2 ?c3 ?c4 ?c5 ?_)
              case c1 => exact cell_two_new _ _ _ _
              case c2 => exact c2_one (x, n)
              case c3 => unfold maxLen; omega
              case c4 => omega
              case c5 => simp; omega
              intro v' w2 hown' hgrow _
              have hb3 : Below w1.heap.size w1 w2 := (hbd2.alloc hszd _).grown hgrow (by simp; omega) (fun k hk => (hown.lt k hk).1)
              have htx2 : Prs 37 w2 w1.heap.size v' (pre ++ [(x, n)]) := by
                unfold Prs
                rw [List.length_append, List.flatMap_append]
                exact hown'
              clear hown hown' hgrow hbd2
              go_wp2_with fail
              go_roundw
              case rel => exact ⟨pre ++ [(x, n)], p + n, by go_num, by have := HTT.out; omega, by have := HPL.out; simp; omega, HP2, htx2, hb3⟩
              case measure => simp only [intOf]; omega
        · have e3 : ¬ (p : Int) < (L : Int) := by omega
          obtain rfl : p = L := by omega
          have HEND : Hid (scr a b = pre) := by
            show scr a b = pre
            rw [HE.out.1, HR.out, HL.out, List.drop_length]
            exact List.append_nil _
          have hB : Below w.heap.size w wr := hb1.trans (hb.mono hsz1)
          clear HR
          go_wp2_with fail
          go_ret2
          unfold PrsTo
          rw [HEND.out, HE.out.2]
          exact ⟨_, rfl, own_base htx hsz1, hB⟩
end Go.Proofs.Ytmlmgmodgcpkpaa.Ud

namespace Go.Proofs.Ytmlmgmodgcpkpaa.Ud
open Go.RowKit Tx Um Aq
set_option linter.unusedVariables false
set_option maxRecDepth 100000 in
set_option maxHeartbeats 4000000 in
theorem refKept_any (A B : Option Addr) (ca cb : Nat) (a b : List ByteArray) (w : World) (hA : Strs w A a.length a) (hB : Strs w B b.length b) :
    Calls Try.prog 10 #[.slice A a.length ca, .slice B b.length cb] w (PrsTo 42 (kep a b) (err a b) w) := by
  obtain ⟨iE, hI, hI0, hI1, hI2⟩ := info_parts infoPair
  have hsl := (makes a b).lens
  have hle := (makes a b).le
  have hk := kept a b
  have hkl := lcs_le_left a b
  by_cases hm : 400 < a.length
  · have e1 : (400 : Int) < (a.length : Int) := by omega
    have HE : Hid (kep a b = [] ∧ err a b = 4) := by
      show _ ∧ _
      unfold kep err lng
      rw [decide_eq_true hm]
      exact ⟨rfl, rfl⟩
    clear hsl hk hkl hle
    go_enter Try.func10, Try.ntmps10
    go_wp2_with fail
    go_ret2
    unfold PrsTo
    rw [HE.out.1, HE.out.2]
    exact ⟨_, rfl, World.ownsRow_nil _ _ _ _, Below.refl _ _⟩
  · have e1 : ¬ (400 : Int) < (a.length : Int) := by omega
    by_cases hn : 400 < b.length
    · have e2 : (400 : Int) < (b.length : Int) := by omega
      have HE : Hid (kep a b = [] ∧ err a b = 4) := by
        show _ ∧ _
        unfold kep err lng
        rw [decide_eq_true hn, Bool.or_true]
        exact ⟨rfl, rfl⟩
      clear hsl hk hkl hle
      go_enter Try.func10, Try.ntmps10
      go_wp2_with fail
      go_ret2
      unfold PrsTo
      rw [HE.out.1, HE.out.2]
      exact ⟨_, rfl, World.ownsRow_nil _ _ _ _, Below.refl _ _⟩
    · have e2 : ¬ (400 : Int) < (b.length : Int) := by omega
      have HE : Hid (kep a b = pairs 0 0 (steps a b) ∧ err a b = 0) := by
        show _ ∧ _
        unfold kep err lng
        rw [decide_eq_false hm, decide_eq_false hn]
        exact ⟨rfl, rfl⟩
      have cs := steps_any A B ca cb a b w (by omega) (by omega) hA hB
      have hs800 : (steps a b).length ≤ 800 := by omega
      obtain ⟨s, hs⟩ : ∃ s, s = steps a b := ⟨_, rfl⟩
      rw [← hs] at cs hs800 HE hle
      have HLE := Lib.hid hle
      obtain ⟨m, hmm⟩ : ∃ m, m = a.length := ⟨_, rfl⟩
      obtain ⟨n, hnn⟩ : ∃ n, n = b.length := ⟨_, rfl⟩
      rw [← hmm] at e1 cs ⊢
      rw [← hnn] at e2 cs ⊢
      clear hs hmm hnn hsl hk hkl hm hn hA hB hle
      unfold IntsTo at cs
      go_enter Try.func10, Try.ntmps10
      go_wp2_with fail
      go_at_call 21
      refine cs.mono ?_
      rintro e w1 ⟨v, rfl, hv, hb1⟩
      obtain ⟨ad, cc, rfl, hcell⟩ := ints_cell hv
      have HC := Lib.hid hcell
      obtain ⟨L, hL⟩ : ∃ L, L = s.length := ⟨_, rfl⟩
      rw [← hL] at hs800 ⊢
      have HL := Lib.hid hL
      clear hL hcell hv cs
      have hsz1 := hb1.size
      go_wp2_with fail
      go_loopw [7, 8, 9, 10] (fun v i j k wr => ∃ (pre : List (Nat × Nat)) (p q t : Nat), i = .int .i64 p ∧ j = .int .i64 q ∧ k = .int .i64 t ∧ t ≤ L ∧ Hid (PK s t p q pre) ∧ Prs 42 wr w1.heap.size v pre ∧ Below w1.heap.size w1 wr) (fun _ _ _ k _ => L - (intOf k).toNat)
      case atStart => exact ⟨[], 0, 0, 0, rfl, rfl, rfl, Nat.zero_le _, pk_start s, World.ownsRow_nil _ _ _ _, Below.refl _ _⟩
      case round =>
        obtain ⟨pre, p, q, t, rfl, rfl, rfl, ht, HK, htx, hb⟩ := hrel
        have hp := HK.out.2.1
        have hq := HK.out.2.2.1
        have hpl := HK.out.2.2.2
        by_cases hlt : t < L
        · have e3 : (t : Int) < (L : Int) := by omega
          obtain ⟨g, rfl, hg, hc⟩ := HC.out.resolve_left (by rw [← HL.out]; omega)
          obtain ⟨x, hx⟩ : ∃ x, s[t]? = some x := ⟨_, List.getElem?_eq_getElem (by rw [← HL.out]; exact hlt)⟩
          have c1 := (hb.cell (p := ⟨g, t, none⟩) hg).trans (hc t x hx)
          have hx3 := HLE.out x (List.mem_iff_getElem?.2 ⟨t, hx⟩)
          clear hc
          rcases hx3 with rfl | rfl | rfl
          · have HN := Lib.hid (pk_keep HK.out hx)
            have hown : wr.ownsRow w1.heap.size 42 2 _ pre.length (pre.flatMap Ud.c2) := htx
            have hszd : w1.heap.size ≤ wr.heap.size := hb.size
            clear hx HK htx
            go_wp2_with (at_builtin; refine wpList_append_own _ rfl _ _ 29 rfl w1.heap.size 42 iE (.agg #[.int .i64 0, .int .i64 0]) 2 16 Try.underlying29 hI hI0 hI1 hI2 rfl (by decide) _ _ _ rfl (hown.alloc _) ⟨wr.heap.size, 0, none⟩ 1 1 (Ud.c2 (p, q)) rfl rfl ?c1 ?c2 ?c3 ?c4 ?c5 ?_)
            case c1 => exact cell_two_new _ _ _ _
            case c2 => exact c2_one (p, q)
            case c3 => unfold maxLen; omega
            case c4 => omega
            case c5 => simp; omega
            intro v' w2 hown' hgrow _
            have hb3 : Below w1.heap.size w1 w2 := (hb.alloc hszd _).grown hgrow (by simp; omega) (fun k hk => (hown.lt k hk).1)
            have htx2 : Prs 42 w2 w1.heap.size v' (pre ++ [(p, q)]) := by
              unfold Prs
              rw [List.length_append, List.flatMap_append]
              exact hown'
            have c3 := (hb3.cell (p := ⟨g, t, none⟩) hg).trans ((hb.cell (p := ⟨g, t, none⟩) hg).symm.trans c1)
            clear hown hown' hgrow hb c1
            go_wp2_with fail
            go_roundw
            case rel => exact ⟨pre ++ [(p, q)], p + 1, q + 1, t + 1, by go_num, by go_num, by go_num, by omega, HN, htx2, hb3⟩
            case measure => simp only [intOf]; omega
          · have HN := Lib.hid (pk_drop HK.out hx)
            clear hx HK
            go_wp2_with fail
            go_roundw
            case rel => exact ⟨pre, p + 1, q, t + 1, by go_num, rfl, by go_num, by omega, HN, htx, hb⟩
            case measure => simp only [intOf]; omega
          · have HN := Lib.hid (pk_add HK.out hx)
            clear hx HK
            go_wp2_with fail
            go_roundw
            case rel => exact ⟨pre, p, q + 1, t + 1, rfl, by go_num, by go_num, by omega, HN, htx, hb⟩
            case measure => simp only [intOf]; omega
        · have e3 : ¬ (t : Int) < (L : Int) := by omega
          have HEND : Hid (kep a b = pre) := by
            show kep a b = pre
            rw [HE.out.1]
            exact pk_end HK.out (by rw [← HL.out]; omega)
          have hB : Below w.heap.size w wr := hb1.trans (hb.mono hsz1)
          clear HK
          go_wp2_with fail
          go_ret2
          unfold PrsTo
          rw [HEND.out, HE.out.2]
          exact ⟨_, rfl, own_base htx hsz1, hB⟩
end Go.Proofs.Ytmlmgmodgcpkpaa.Ud

namespace Go.Proofs.Ytmlmgmodgcpkpaa.Ud
open Go.ChangeShapes Go.WideShapes Go.RowKit Tx Um Aq
set_option linter.unusedVariables false
def dst (a b : List ByteArray) : Nat := if lng a b then 0 else Um.dist a b
def Szs (l : List ByteArray) : Prop := ∀ x, x ∈ l → x.size ≤ maxLen
theorem szs_app {a b : List ByteArray} (ha : Szs a) (hb : Szs b) : Szs (a ++ b) := fun x hx => by
  rcases List.mem_append.1 hx with h | h
  · exact ha x h
  · exact hb x h
structure Impl : Prop where
  script : ∀ (A B : Option Addr) (ca cb : Nat) (a b : List ByteArray) (w : World), Strs w A a.length a → Strs w B b.length b → Szs a → Szs b → Calls Try.prog 7 #[.slice A a.length ca, .slice B b.length cb] w (PrsTo 37 (scr a b) (err a b) w)
  kept : ∀ (A B : Option Addr) (ca cb : Nat) (a b : List ByteArray) (w : World), Strs w A a.length a → Strs w B b.length b → Szs a → Szs b → Calls Try.prog 9 #[.slice A a.length ca, .slice B b.length cb] w (PrsTo 42 (kep a b) (err a b) w)
  dist : ∀ (A B : Option Addr) (ca cb : Nat) (a b : List ByteArray) (w : World), Strs w A a.length a → Strs w B b.length b → Szs a → Szs b → Calls Try.prog 11 #[.slice A a.length ca, .slice B b.length cb] w fun e w' => e = .returned (.tuple #[.int .i64 (dst a b : Nat), .int .i64 (err a b : Nat)]) ∧ Below w.heap.size w w'
theorem lng_no {a b : List ByteArray} (ha : a.length ≤ 400) (hb : b.length ≤ 400) : lng a b = false := by
  unfold lng
  rw [decide_eq_false (by omega), decide_eq_false (by omega)]
  rfl
theorem scr_no {a b : List ByteArray} (h : lng a b = false) : scr a b = runs (steps a b) := by unfold scr; rw [h]; rfl
theorem kep_no {a b : List ByteArray} (h : lng a b = false) : kep a b = pairs 0 0 (steps a b) := by unfold kep; rw [h]; rfl
theorem err_no {a b : List ByteArray} (h : lng a b = false) : err a b = 0 := by unfold err; rw [h]; rfl
theorem dst_no {a b : List ByteArray} (h : lng a b = false) : dst a b = Um.dist a b := by unfold dst; rw [h]; rfl
theorem scr_yes {a b : List ByteArray} (h : lng a b = true) : scr a b = [] := by unfold scr; rw [h]; rfl
theorem kep_yes {a b : List ByteArray} (h : lng a b = true) : kep a b = [] := by unfold kep; rw [h]; rfl
theorem err_yes {a b : List ByteArray} (h : lng a b = true) : err a b = 4 := by unfold err; rw [h]; rfl
theorem dst_yes {a b : List ByteArray} (h : lng a b = true) : dst a b = 0 := by unfold dst; rw [h]; rfl
theorem lng_small {a b : List ByteArray} (h : lng a b = false) : a.length ≤ 400 ∧ b.length ≤ 400 := by
  unfold lng at h
  rw [Bool.or_eq_false_iff] at h
  have h1 := of_decide_eq_false h.1
  have h2 := of_decide_eq_false h.2
  omega
theorem awake_scr : scr [⟨#[97]⟩, ⟨#[98]⟩, ⟨#[99]⟩] [⟨#[98]⟩, ⟨#[120]⟩, ⟨#[99]⟩] = [(1, 1), (0, 1), (2, 1), (0, 1)] := by
  have n1 : (⟨#[97]⟩ : ByteArray) ≠ ⟨#[98]⟩ := by decide
  have n2 : (⟨#[97]⟩ : ByteArray) ≠ ⟨#[120]⟩ := by decide
  have n3 : (⟨#[97]⟩ : ByteArray) ≠ ⟨#[99]⟩ := by decide
  have n4 : (⟨#[98]⟩ : ByteArray) ≠ ⟨#[120]⟩ := by decide
  have n5 : (⟨#[98]⟩ : ByteArray) ≠ ⟨#[99]⟩ := by decide
  have n6 : (⟨#[99]⟩ : ByteArray) ≠ ⟨#[98]⟩ := by decide
  have n7 : (⟨#[99]⟩ : ByteArray) ≠ ⟨#[120]⟩ := by decide
  rw [scr_no (by decide)]
  simp [steps_cons, steps_nil, lcs_cons, lcs_nil, lcs_nil2, n1, n2, n3, n4, n5, n6, n7, runs]
theorem awake_err : err [⟨#[97]⟩, ⟨#[98]⟩, ⟨#[99]⟩] [⟨#[98]⟩, ⟨#[120]⟩, ⟨#[99]⟩] = 0 := by decide
theorem szs1 : Szs [⟨#[97]⟩, ⟨#[98]⟩, ⟨#[99]⟩] := by
  intro x hx
  simp only [List.mem_cons, List.not_mem_nil, or_false] at hx
  rcases hx with rfl | rfl | rfl <;> exact (show (1 : Nat) ≤ maxLen by unfold maxLen; omega)
theorem szs2 : Szs [⟨#[98]⟩, ⟨#[120]⟩, ⟨#[99]⟩] := by
  intro x hx
  simp only [List.mem_cons, List.not_mem_nil, or_false] at hx
  rcases hx with rfl | rfl | rfl <;> exact (show (1 : Nat) ≤ maxLen by unfold maxLen; omega)
set_option maxRecDepth 100000 in
set_option maxHeartbeats 1000000 in
theorem awake_any12 (hM : Impl) (w : World) : Calls Try.prog 12 #[] w fun e w' => e = .returned (.bool true) ∧ Below w.heap.size w w' := by
  have c1 := fun W h1 h2 => hM.script (some ⟨w.heap.size, 0, none⟩) (some ⟨w.heap.size + 1, 0, none⟩) 3 3 [⟨#[97]⟩, ⟨#[98]⟩, ⟨#[99]⟩] [⟨#[98]⟩, ⟨#[120]⟩, ⟨#[99]⟩] W h1 h2 szs1 szs2
  rw [awake_scr, awake_err] at c1
  unfold PrsTo at c1
  have k1 : Hid (Strs ((w.alloc (.cells #[.string ⟨#[97]⟩, .string ⟨#[98]⟩, .string ⟨#[99]⟩] 9)).alloc (.cells #[.string ⟨#[98]⟩, .string ⟨#[120]⟩, .string ⟨#[99]⟩] 9)) (some ⟨w.heap.size, 0, none⟩) 3 [⟨#[97]⟩, ⟨#[98]⟩, ⟨#[99]⟩]) := by
    refine ⟨rfl, .inr ⟨_, 0, rfl, by simp <;> omega, fun k x hx => ?_⟩⟩
    match k, hx with
    | 0, hx => injection hx with hx; subst hx; go_simp
    | 1, hx => injection hx with hx; subst hx; go_simp
    | 2, hx => injection hx with hx; subst hx; go_simp
  have k2 : Hid (Strs ((w.alloc (.cells #[.string ⟨#[97]⟩, .string ⟨#[98]⟩, .string ⟨#[99]⟩] 9)).alloc (.cells #[.string ⟨#[98]⟩, .string ⟨#[120]⟩, .string ⟨#[99]⟩] 9)) (some ⟨w.heap.size + 1, 0, none⟩) 3 [⟨#[98]⟩, ⟨#[120]⟩, ⟨#[99]⟩]) := by
    refine ⟨rfl, .inr ⟨_, 0, rfl, by simp <;> omega, fun k x hx => ?_⟩⟩
    match k, hx with
    | 0, hx => injection hx with hx; subst hx; go_simp
    | 1, hx => injection hx with hx; subst hx; go_simp
    | 2, hx => injection hx with hx; subst hx; go_simp
  have hB : Below w.heap.size w ((w.alloc (.cells #[.string ⟨#[97]⟩, .string ⟨#[98]⟩, .string ⟨#[99]⟩] 9)).alloc (.cells #[.string ⟨#[98]⟩, .string ⟨#[120]⟩, .string ⟨#[99]⟩] 9)) := ((Below.refl _ w).alloc (Nat.le_refl _) _).alloc (by simp) _
  have cB := Lib.hid (c1 _ k1.out k2.out)
  clear c1
  go_enter Try.func12, Try.ntmps12
  go_wp2_with fail
  go_at_call 7
  refine cB.out.mono ?_
  rintro e w1 ⟨v, rfl, hp, hb1⟩
  obtain ⟨ad, c, rfl, hr⟩ := hp.form
  have hB1 := below_call hB hb1
  clear hp cB k1 k2
  have hr2 := hr.below ((Below.refl _ w1).alloc (Nat.le_refl _) (.cells #[.int .i64 1, .int .i64 1, .int .i64 0, .int .i64 1, .int .i64 2, .int .i64 1, .int .i64 0, .int .i64 1] 37))
  have hr3 : PrsR (w1.alloc (.cells #[.int .i64 1, .int .i64 1, .int .i64 0, .int .i64 1, .int .i64 2, .int .i64 1, .int .i64 0, .int .i64 1] 37)) (some ⟨w1.heap.size, 0, none⟩) 4 [(1, 1), (0, 1), (2, 1), (0, 1)] := by
    refine ⟨rfl, .inr ⟨_, 0, rfl, by simp <;> omega, fun k x hx => ?_⟩⟩
    match k, hx with
    | 0, hx => injection hx with hx; subst hx; exact ⟨by go_simp; rfl, by go_simp; rfl⟩
    | 1, hx => injection hx with hx; subst hx; exact ⟨by go_simp; rfl, by go_simp; rfl⟩
    | 2, hx => injection hx with hx; subst hx; exact ⟨by go_simp; rfl, by go_simp; rfl⟩
    | 3, hx => injection hx with hx; subst hx; exact ⟨by go_simp; rfl, by go_simp; rfl⟩
  have c2 := sameEdits_true ad (some ⟨w1.heap.size, 0, none⟩) 4 c 4 _ _ hr2 hr3 (by omega)
  have hB2 := hB1.alloc hB1.size (.cells #[.int .i64 1, .int .i64 1, .int .i64 0, .int .i64 1, .int .i64 2, .int .i64 1, .int .i64 0, .int .i64 1] 37)
  clear hr hr2 hr3
  go_wp2_with fail
  go_at_call 13
  refine c2.mono ?_
  rintro e w2 ⟨rfl, hb2⟩
  have hB3 := below_call hB2 hb2
  go_wp2_with fail
  go_ret
  exact ⟨rfl, hB3⟩
end Go.Proofs.Ytmlmgmodgcpkpaa.Ud

namespace Go.Proofs.Ytmlmgmodgcpkpaa.Ud
open Go.ChangeShapes Go.WideShapes Go.RowKit Tx Um Aq
set_option linter.unusedVariables false
def Arg (w : World) (A : Option Addr) (n c : Nat) (l : List ByteArray) : Prop := Strs w A n l ∧ (A = none → c = 0) ∧ (n + 1) * 16 ≤ 140737488355328 ∧ Szs l
theorem Arg.below {w w1 : World} {A : Option Addr} {n c : Nat} {l : List ByteArray} (h : Arg w A n c l) (hb : Below w.heap.size w w1) : Arg w1 A n c l := ⟨h.1.below hb, h.2⟩
theorem arg_list {H : Type} {enc : TypeId × Value → H} {w : World} {base : Nat} {spare : Nat → Bool} {held : Bool} {A : Option Addr} {n c : Nat} {d : DataW H} {p : List MemPlace} (h : DataW.Trod enc Try.prog w base spare held 22 (.slice A n c) d p)
    {ts : List TypeId} {ds : List (DataW H)} {j : Nat} (hsz : (DataW.weightsEach Try.prog ts ds).all (· ≤ reachBytes) = true) (ht : ts[j]? = some 22) (hj : ds[j]? = some d) : ∃ l, Arg w A n c l := by
  obtain ⟨fuel, hf⟩ := h
  rcases open_strings Try.underlying22 Try.underlying9 (by kernel_rfl) hf with ⟨hcs, _⟩ | ⟨x, len, cap, ss, hcs, _, hl, hm, hz, hx, hcell, hzs⟩
  · simp [Value.cells] at hcs
    obtain ⟨rfl, rfl, rfl⟩ := hcs
    exact ⟨[], ⟨rfl, .inl rfl⟩, fun _ => rfl, by omega, fun x hx => by cases hx⟩
  · simp [Value.cells] at hcs
    obtain ⟨rfl, rfl, rfl⟩ := hcs
    have hz' : n ≤ ss.length := by rw [hz]; split <;> omega
    have hd : d = .slice (strs (ss.take n)) (strs (ss.drop n)) := congrArg Prod.fst hx
    have hlen : (ss.take n).length = n := by rw [List.length_take]; omega
    have hs := sized_slice hsz ht (hj.trans (congrArg some hd)) Try.underlying22
    have hb : Try.prog.bytesOf 9 = 16 := by kernel_rfl
    have sl : ∀ l : List ByteArray, (strs (H := H) l).length = l.length := fun l => by unfold strs; rw [List.length_map]
    rw [hb, sl, sl, hlen] at hs
    have hr : reachBytes = 140737488351232 := rfl
    rw [hr] at hs
    refine ⟨ss.take n, ⟨hlen, ?_⟩, (fun h => absurd h (by simp)), by omega, fun x hx => hzs x (List.mem_of_mem_take hx)⟩
    by_cases h0 : n = 0
    · exact .inl h0
    · right
      obtain ⟨b, off, spot⟩ := x
      have hc0 := hcell 0 (by omega)
      have hspot : spot = none := by simpa [Addr.add] using World.cell?_spot hc0
      subst hspot
      refine ⟨b, off, rfl, ?_, fun k y hk => ?_⟩
      · have := World.block_lt_of_cell? w _ hc0
        rwa [WideShapes.add_plain] at this
      · have hk2 := (List.getElem?_eq_some_iff.1 hk).1
        rw [hlen] at hk2
        have hk3 := hcell k (by omega)
        rw [WideShapes.add_plain] at hk3
        rw [hk3]
        rw [List.getElem?_take_of_lt hk2] at hk
        rw [List.getD_eq_getElem?_getD, hk]
        rfl
theorem made0 (w : World) : (w.alloc (.cells #[] 9)).ownsRow w.heap.size 9 1 (.slice (some ⟨w.heap.size, 0, none⟩) 0 0) 0 [] :=
  World.ownsRow_made w #[] 0 (Nat.le_refl _) (Nat.zero_le _) rfl
theorem wp_append_list {w : World} {ops : Array Oper} {rest : List Oper} {o : Oper} {a : Act} {Q : Exit → Act → World → Prop} {v : Value} {l0 l : List ByteArray} {n c : Nat} {A : Option Addr} (hgd : o.guard = none) (s x : Operand)
    (ho : o.op = .call { callee := .builtin .append, args := #[s, x], argTypes := #[22, 22] }) (base : Nat) (hs : a.eval s = v) (hown : w.ownsRow base 9 1 v l0.length (l0.map sv)) (hx : a.eval x = .slice A n c)
    (hl : Strs w A n l) (hnil : A = none → c = 0) (hn : (l0.length + n) * 16 ≤ 140737488355328) (hb : base ≤ w.heap.size) (hv : v ≠ .slice none 0 0)
    (h : ∀ v' w', w'.ownsRow base 9 1 v' (l0 ++ l).length ((l0 ++ l).map sv) → v' ≠ .slice none 0 0 → w.grownBy w' v.ownBlock → wpList Try.prog ops Q rest (a.put o.dst v') w') : wpList Try.prog ops Q (o :: rest) a w := by
  obtain ⟨i0, hi, hz0, hz1, hz2⟩ := info_parts info9
  have hln := hl.1
  cases A with
  | none =>
    have h0 : n = 0 := by
      rcases hl.2 with h | ⟨_, _, h, _⟩
      · exact h
      · cases h
    subst h0
    obtain rfl := hnil rfl
    obtain rfl : l = [] := List.length_eq_zero_iff.1 hln
    refine wpList_append_own_none hgd s x 22 ho base 9 i0 1 Try.underlying22 hi v l0.length (l0.map sv) hs hown hx (h v w ?_ hv ⟨rfl, rfl, rfl, Nat.le_refl _, fun _ _ _ => rfl⟩)
    rw [List.append_nil]
    exact hown
  | some ad =>
    refine wpList_append_own w hgd s x 22 ho base 9 i0 (.string ⟨#[]⟩) 1 16 Try.underlying22 hi hz0 hz1 hz2 rfl (by decide) v l0.length (l0.map sv) hs hown ad n c (l.map sv) hx (by rw [List.length_map, hln, Nat.mul_one]) (fun j u hu => ?_) (sv_one l) (by unfold maxLen; omega) hn hb ?_
    · rw [List.getElem?_map] at hu
      obtain ⟨y, hy, rfl⟩ := Option.map_eq_some_iff.1 hu
      have hj := (List.getElem?_eq_some_iff.1 hy).1
      obtain ⟨b, off, ha, hbl, hc⟩ := hl.2.resolve_left (by omega)
      injection ha with ha
      subst ha
      rw [WideShapes.add_plain]
      exact hc j y hy
    · intro v' w' h1 h2 h3
      refine h v' w' ?_ (fun e => hv (h3.1 e).1) h2
      rw [List.length_append, hln, List.map_append]
      exact h1
def SP : ByteArray := ⟨#[115, 112, 97, 114, 101]⟩
structure Cop (w : World) (B g cp : Nat) (l : List ByteArray) : Prop where
  own : w.ownsRow B 9 1 (.slice (some ⟨g, 0, none⟩) (l.length + 1) cp) (l.length + 1) ((l ++ [SP]).map sv)
theorem Cop.below {w w1 : World} {B g cp : Nat} {l : List ByteArray} (h : Cop w B g cp l) (hb : Below w.heap.size w w1) : Cop w1 B g cp l := by
  refine ⟨h.own.1, ?_⟩
  rcases h.own.2 with h0 | ⟨g', cap', cur, hv, hg, hh, r⟩
  · exact .inl h0
  · exact .inr ⟨g', cap', cur, hv, hg, (hb.block g' (Array.getElem?_eq_some_iff.1 hh).1).trans hh, r⟩
theorem Cop.strs {w : World} {B g cp : Nat} {l : List ByteArray} (h : Cop w B g cp l) : Strs w (some ⟨g, 0, none⟩) l.length l := by
  refine ⟨rfl, .inr ⟨g, 0, rfl, (h.own.lt g rfl).2, fun k x hx => ?_⟩⟩
  rw [Nat.zero_add]
  exact own_cell h.own (by rw [List.getElem?_map, List.getElem?_append_left (List.getElem?_eq_some_iff.1 hx).1, hx]; rfl)
theorem Cop.spare {w : World} {B g cp : Nat} {l : List ByteArray} (h : Cop w B g cp l) : w.cell? ⟨g, l.length, none⟩ = some (.string ⟨#[115, 112, 97, 114, 101]⟩) :=
  own_cell h.own (by rw [List.getElem?_map, List.getElem?_append_right (Nat.le_refl _), Nat.sub_self]; rfl)
theorem Cop.cap {w : World} {B g cp : Nat} {l : List ByteArray} (h : Cop w B g cp l) : l.length + 1 ≤ cp ∧ B ≤ g ∧ g < w.heap.size := by
  rcases h.own.2 with ⟨h0, _⟩ | ⟨g', cap', cur, hv, hg, hh, hn, _, _⟩
  · cases h0
  · injection hv with h1 h2 h3
    injection h1 with h1
    injection h1 with h1
    subst h1
    subst h3
    exact ⟨hn, hg, (Array.getElem?_eq_some_iff.1 hh).1⟩
end Go.Proofs.Ytmlmgmodgcpkpaa.Ud

namespace Go.Proofs.Ytmlmgmodgcpkpaa.Ud
open Go.RowKit Tx Um Aq
set_option linter.unusedVariables false
def num : List ByteArray → ByteArray → Nat
  | [], _ => 0
  | y :: M, x => if y = x then 0 else num M x + 1
theorem num_le (M : List ByteArray) (x : ByteArray) : num M x ≤ M.length := by
  induction M with
  | nil => exact Nat.le_refl _
  | cons y M ih => unfold num; rw [List.length_cons]; split <;> omega
theorem num_app (M r : List ByteArray) (x : ByteArray) (h : num M x < M.length) : num (M ++ r) x = num M x := by
  induction M with
  | nil => cases h
  | cons y M ih =>
    rw [List.cons_append]
    unfold num at h ⊢
    by_cases e : y = x
    · rw [if_pos e, if_pos e]
    · rw [if_neg e] at h
      rw [if_neg e, if_neg e, ih (by rw [List.length_cons] at h; omega)]
theorem num_new (M : List ByteArray) (x : ByteArray) (h : ¬ num M x < M.length) : num (M ++ [x]) x = M.length := by
  induction M with
  | nil => show num [x] x = 0; unfold num; rw [if_pos rfl]
  | cons y M ih =>
    rw [List.cons_append]
    unfold num at h ⊢
    by_cases e : y = x
    · rw [if_pos e] at h; exact absurd (Nat.succ_pos _) h
    · rw [if_neg e] at h
      rw [if_neg e, ih (by rw [List.length_cons] at h; omega), List.length_cons]
theorem num_inj (M : List ByteArray) (x y : ByteArray) (h : num M x < M.length) (he : num M x = num M y) : x = y := by
  induction M with
  | nil => cases h
  | cons z M ih =>
    unfold num at h he
    by_cases e : z = x
    · rw [if_pos e] at he
      by_cases e2 : z = y
      · exact e.symm.trans e2
      · rw [if_neg e2] at he; cases he
    · rw [if_neg e] at h he
      by_cases e2 : z = y
      · rw [if_pos e2] at he; cases he
      · rw [if_neg e2] at he
        exact ih (by rw [List.length_cons] at h; omega) (by omega)
theorem num_other (M : List ByteArray) (x y : ByteArray) (h : x ≠ y) (hy : ¬ num M y < M.length) : num (M ++ [x]) y = M.length + 1 := by
  induction M with
  | nil => show num [x] y = 1; unfold num; rw [if_neg h]; rfl
  | cons z M ih =>
    rw [List.cons_append]
    unfold num at hy ⊢
    by_cases e : z = y
    · rw [if_pos e] at hy; exact absurd (Nat.succ_pos _) hy
    · rw [if_neg e] at hy
      rw [if_neg e, ih (by rw [List.length_cons] at hy; omega), List.length_cons]
def ad (M : List ByteArray) (x : ByteArray) : List ByteArray := if num M x < M.length then M else M ++ [x]
def ads (M l : List ByteArray) : List ByteArray := l.foldl ad M
theorem ad_has (M : List ByteArray) (x : ByteArray) : num (ad M x) x < (ad M x).length := by
  unfold ad
  split
  · assumption
  · rename_i h
    rw [num_new M x h, List.length_append]
    exact Nat.lt_succ_self _
theorem ad_keeps (M : List ByteArray) (x y : ByteArray) (h : num M y < M.length) : num (ad M x) y = num M y ∧ num (ad M x) y < (ad M x).length := by
  unfold ad
  split
  · exact ⟨rfl, h⟩
  · rw [num_app M [x] y h, List.length_append]
    exact ⟨rfl, by omega⟩
theorem ad_len (M : List ByteArray) (x : ByteArray) : (ad M x).length ≤ M.length + 1 := by
  unfold ad
  split
  · omega
  · rw [List.length_append]; exact Nat.le_refl _
theorem ads_keeps (l : List ByteArray) : ∀ (M : List ByteArray) (y : ByteArray), num M y < M.length → num (ads M l) y = num M y ∧ num (ads M l) y < (ads M l).length := by
  induction l with
  | nil => intro M y h; exact ⟨rfl, h⟩
  | cons x l ih =>
    intro M y h
    obtain ⟨h1, h2⟩ := ad_keeps M x y h
    obtain ⟨h3, h4⟩ := ih (ad M x) y h2
    exact ⟨h3.trans h1, h4⟩
theorem ads_len (l : List ByteArray) : ∀ (M : List ByteArray), (ads M l).length ≤ M.length + l.length := by
  induction l with
  | nil => intro M; exact Nat.le_refl _
  | cons x l ih =>
    intro M
    have h1 := ih (ad M x)
    have h2 := ad_len M x
    have h3 : ads M (x :: l) = ads (ad M x) l := rfl
    rw [h3, List.length_cons]
    omega
theorem ads_has (l : List ByteArray) : ∀ (M : List ByteArray) (y : ByteArray), y ∈ l → num (ads M l) y < (ads M l).length := by
  induction l with
  | nil => intro M y h; cases h
  | cons x l ih =>
    intro M y h
    rcases List.mem_cons.1 h with rfl | h
    · exact (ads_keeps l (ad M y) y (ad_has M y)).2
    · exact ih (ad M x) y h
theorem ads_snoc (M l : List ByteArray) (x : ByteArray) : ads M (l ++ [x]) = ad (ads M l) x := by
  unfold ads
  rw [List.foldl_append]
  rfl
theorem ads_take {M l : List ByteArray} {k : Nat} {x : ByteArray} (h : l[k]? = some x) : ads M (l.take (k + 1)) = ad (ads M (l.take k)) x := by
  obtain ⟨h1, h2⟩ := List.getElem?_eq_some_iff.1 h
  rw [List.take_add_one, h, ← ads_snoc]
  rfl
def kLn (p : ByteArray) : Lit := .string p.data.toList
theorem kLn_inj {p q : ByteArray} (h : kLn p = kLn q) : p = q := by
  unfold kLn at h
  injection h with h
  exact ByteArray.ext (Array.toList_inj.1 h)
theorem strKn : Go.Maps.Keyed Try.prog 9 := Go.Maps.string_keyed Try.underlying9
theorem keyPn {p : ByteArray} (hp : p.size ≤ maxLen) : keyOf Try.prog 9 (.string p) = some (kLn p) := Go.WideMaps.keyOf_string_mk Try.underlying9 hp
theorem zeroNn (w : World) : (zeroValue 3).run Try.prog w = .ok (.int .i64 0) w := by kernel_rfl
def ReadsN (D : DataW Unit) (M : List ByteArray) : Prop := ∀ p z, D.atKey (kLn p) z = if num M p < M.length then .lit (.int .i64 (num M p : Nat)) else z
def Nm (w : World) (bm : Nat) (M : List ByteArray) : Prop := ∃ D : DataW Unit, w.ownsMap Try.prog 9 (plainElem Try.prog 3) bm M.length D ∧ ReadsN D M ∧ Go.Maps.size D = M.length
theorem Nm.lt {w : World} {bm : Nat} {M : List ByteArray} (h : Nm w bm M) : bm < w.heap.size := by
  obtain ⟨D, h, _⟩ := h
  exact h.lt
theorem Nm.kept {w w1 : World} {bm : Nat} {M : List ByteArray} (h : Nm w bm M) (he : w1.heap[bm]? = w.heap[bm]?) : Nm w1 bm M := by
  obtain ⟨D, ⟨es, clock, hb, r⟩, q⟩ := h
  exact ⟨D, ⟨es, clock, he.trans hb, r⟩, q⟩
theorem readsN_has {D : DataW Unit} {M : List ByteArray} (h : ReadsN D M) (v : ByteArray) : Go.Maps.has D (kLn v) = decide (num M v < M.length) := by
  by_cases hf : num M v < M.length
  · rw [decide_eq_true hf]
    exact Go.Maps.has_true_of_atKey (y := .lit (.int .i64 (num M v : Nat))) fun z => by rw [h v z, if_pos hf]
  · rw [decide_eq_false hf]
    exact Go.Maps.has_false_of_atKey fun z => by rw [h v z, if_neg hf]
theorem Nm.look {w : World} {bm : Nat} {M : List ByteArray} (h : Nm w bm M) {v : ByteArray} (hp : v.size ≤ maxLen) :
    (Instr.lookup 54 (.map (some bm)) (.string v) true).run Try.prog w = .ok (.tuple #[.int .i64 (if num M v < M.length then (num M v : Nat) else 0 : Nat), .bool (decide (num M v < M.length))]) w := by
  obtain ⟨D, ho, hr, _⟩ := h
  obtain ⟨u, ps, hrun, hv⟩ := ho.look_ok strKn Try.underlying54 (zeroNn w) (plainElem_int Try.underlying3 (by decide)) (keyPn hp)
  rw [hrun, readsN_has hr]
  obtain ⟨c, rfl, hc, hwc⟩ := plainElem_int_inv Try.underlying3 hv
  have hc := congrArg Prod.fst hc
  simp only [hr v] at hc
  by_cases hf : num M v < M.length
  · rw [if_pos hf] at hc ⊢
    cases hc
    rfl
  · rw [if_neg hf] at hc ⊢
    cases hc
    rfl
theorem Nm.len {w : World} {bm : Nat} {M : List ByteArray} (h : Nm w bm M) (ty : TypeId) : (Builtin.len_ #[54] ty #[.map (some bm)]).run Try.prog w = .ok (.int .i64 (M.length : Nat)) w := by
  obtain ⟨D, ho, _, hs⟩ := h
  rw [ho.len Try.underlying54 ty, hs]
theorem Nm.store {w : World} {bm : Nat} {M : List ByteArray} (h : Nm w bm M) {v : ByteArray} (hp : v.size ≤ maxLen) (hn : M.length ≤ 1000) (hv : ¬ num M v < M.length) :
    ∃ w', (Instr.mapUpdate 54 (.map (some bm)) (.string v) (.int .i64 (M.length : Nat))).run Try.prog w = .ok () w' ∧ Nm w' bm (M ++ [v]) ∧ w.grownBy w' (some bm) := by
  obtain ⟨D, ho, hr, hs⟩ := h
  have hw : (Lit.int .i64 (M.length : Nat)).wf = true := by simp [Lit.wf, IntKind.min, IntKind.max, IntKind.signed, IntKind.bits]; omega
  obtain ⟨w', hrun, ho', ht⟩ := ho.store strKn Try.underlying54 (by unfold maxLen; omega) (keyPn hp) (plainElem_int Try.underlying3 hw)
  have hsz : Go.Maps.size (D.put (kLn v) (.lit (.int .i64 (M.length : Nat)))) = (M ++ [v]).length := by
    have h1 := Go.Maps.size_put (ho.tidy strKn) (k := kLn v) (.lit (.int .i64 (M.length : Nat)))
    rw [readsN_has hr, decide_eq_false hv] at h1
    rw [h1, hs, List.length_append]
    rfl
  refine ⟨w', hrun, ⟨_, ?_, fun p z => ?_, hsz⟩, ht.grown⟩
  · rw [List.length_append]
    exact ho'.mono (by simp)
  · by_cases he : p = v
    · subst he
      rw [Go.Maps.atKey_put_same ho.isMap (by trivial), num_new M p hv, List.length_append, if_pos (by simp)]
    · rw [Go.Maps.atKey_put_other (fun e => he (kLn_inj e)), hr p z]
      by_cases hf : num M p < M.length
      · rw [if_pos hf, num_app M [v] p hf, if_pos (by rw [List.length_append]; omega)]
      · rw [if_neg hf, num_other M v p (fun e => he e.symm) hf, if_neg (by rw [List.length_append]; exact Nat.lt_irrefl _)]
theorem nm_made (w : World) : Nm (w.alloc (.map #[] 0)) w.heap.size [] := ⟨_, World.ownsMap_made w _ _ _, fun p z => rfl, rfl⟩
end Go.Proofs.Ytmlmgmodgcpkpaa.Ud

namespace Go.Proofs.Ytmlmgmodgcpkpaa.Ud
open Go.RowKit Tx Um Aq
set_option linter.unusedVariables false
def Nk (w0 : World) (g bm : Nat) (M l : List ByteArray) (k : Nat) (w : World) : Prop :=
  Nm w bm (ads M (l.take k)) ∧ (∃ ys, w.ownsRow w0.heap.size 3 1 (.slice (some ⟨g, 0, none⟩) l.length l.length) l.length ys ∧ ∀ (j : Nat) x, j < k → l[j]? = some x → ys[j]? = some (iv (num (ads M (l.take k)) x)) ∧ num (ads M (l.take k)) x < (ads M (l.take k)).length) ∧ w0.grownBy w (some bm)
theorem Nk.done {w0 w : World} {g bm : Nat} {M l : List ByteArray} (h : Nk w0 g bm M l l.length w) : Ints w w0.heap.size (.slice (some ⟨g, 0, none⟩) l.length l.length) (l.map (num (ads M l))) ∧ Nm w bm (ads M l) ∧ w0.grownBy w (some bm) := by
  obtain ⟨h1, ⟨ys, h2, h3⟩, h4⟩ := h
  rw [List.take_length] at h1 h3
  refine ⟨?_, h1, h4⟩
  unfold Ints
  rw [List.length_map]
  have e : ys = (l.map (num (ads M l))).map iv := by
    apply List.ext_getElem?
    intro j
    by_cases hj : j < l.length
    · rw [(h3 j l[j] hj (List.getElem?_eq_getElem hj)).1, List.getElem?_map, List.getElem?_map, List.getElem?_eq_getElem hj]
      rfl
    · have hy := h2.1
      rw [List.getElem?_eq_none (by omega), List.getElem?_eq_none (by simp; omega)]
  rw [← e]
  exact h2
theorem Nk.put {w0 w : World} {g bm : Nat} {M l : List ByteArray} {k : Nat} {x : ByteArray} (h : Nk w0 g bm M l k w) (hx : l[k]? = some x) (hg : g ≠ bm) (hg0 : w0.heap.size ≤ g) (w1 : World) (hm : Nm w1 bm (ad (ads M (l.take k)) x)) (hg1 : w.grownBy w1 (some bm)) (c : Nat) (hc : c = num (ad (ads M (l.take k)) x) x) :
    Nk w0 g bm M l (k + 1) (w1.setCell ⟨g, k, none⟩ (.int .i64 (c : Int))) := by
  obtain ⟨h1, ⟨ys, h2, h3⟩, h4⟩ := h
  have hk := (List.getElem?_eq_some_iff.1 hx).1
  have h2' := h2.kept hg1 (.inr (fun e => hg (by injection e)))
  unfold Nk
  rw [ads_take hx]
  refine ⟨hm.kept (Below.heap_setCell w1 ⟨g, k, none⟩ _ bm (fun e => hg e.symm)), ⟨_, own_store h2' (by simpa using hk) (.int .i64 (c : Int)), fun j y hj hy => ?_⟩, ?_⟩
  · by_cases e : j = k
    · subst e
      rw [hx] at hy
      injection hy with hy
      subst hy
      rw [List.getElem?_set_self (by rw [h2.1]; omega), ← hc]
      refine ⟨rfl, ?_⟩
      rw [hc]
      exact ad_has _ _
    · rw [List.getElem?_set_ne (fun e2 => e e2.symm)]
      obtain ⟨h5, h6⟩ := h3 j y (by omega) hy
      obtain ⟨h7, h8⟩ := ad_keeps _ x y h6
      rw [h5, h7]
      exact ⟨rfl, by rw [h7] at h8; exact h8⟩
  · exact (h4.trans hg1).andThen (row' := some g) ⟨rfl, rfl, rfl, by simp [World.setCell], fun i _ hi => Below.heap_setCell w1 ⟨g, k, none⟩ _ i (fun e => hi (by rw [e]))⟩ (fun j hj => by injection hj with hj; exact .inl (by omega))
def NumTo (w : World) (bm : Nat) (M l : List ByteArray) (e : Ending) (w' : World) : Prop := ∃ v, e = .returned v ∧ Ints w' w.heap.size v (l.map (num (ads M l))) ∧ Nm w' bm (ads M l) ∧ w.grownBy w' (some bm)
set_option maxRecDepth 100000 in
set_option maxHeartbeats 2000000 in
theorem number_any (q bm : Nat) (A : Option Addr) (ca : Nat) (M l : List ByteArray) (w : World) (hA : Strs w A l.length l) (hsz : ∀ x, x ∈ l → x.size ≤ maxLen) (hl : l.length ≤ 400) (hM : M.length ≤ 400) (hm : Nm w bm M) (hq : w.cell? ⟨q, 0, none⟩ = some (.map (some bm))) (hqb : q ≠ bm)
    (hAb : l.length ≠ 0 → ∀ ba oa, A = some ⟨ba, oa, none⟩ → ba ≠ bm) :
    Calls Try.prog 22 #[.slice A l.length ca, .pointer (some ⟨q, 0, none⟩)] w (NumTo w bm M l) := by
  obtain ⟨iI, hI, hI0, hI1, hI2⟩ := info_parts infoInt
  have HA := Lib.hid hA
  have HAB := Lib.hid hAb
  have HSZ := Lib.hid hsz
  have HM := Lib.hid hm
  have hbl := hm.lt
  have hql : q < w.heap.size := World.block_lt_of_cell? w _ hq
  have hlen := ads_len l M
  obtain ⟨n, hn⟩ : ∃ n, n = l.length := ⟨_, rfl⟩
  rw [← hn] at hl hlen ⊢
  have HN := Lib.hid hn
  have HQB := Lib.hid hqb
  clear hA hAb hsz hm hn hqb
  go_enter Try.func22, Try.ntmps22
  go_wp2_with (at_make; refine wpList_make_full _ rfl _ _ _ rfl w.heap.size 3 iI (.int .i64 0) 1 Try.underlying45 hI hI0 hI1 _ _ _ _ n rfl rfl rfl rfl (by rw [hI2]; omega) (by unfold maxLen; omega) (Nat.le_refl _) ?_)
  intro w1 hown1 hgrow1
  obtain ⟨g, hg⟩ : ∃ g, g = w.heap.size := ⟨_, rfl⟩
  have hst0 : Hid (Nk w g bm M l 0 w1) := by
    show Nk w g bm M l 0 w1
    refine ⟨HM.out.kept (hgrow1.block _ hbl (by simp)), ⟨(madeCells #[.int .i64 0] n).toList, ?_, fun j x hj => absurd hj (Nat.not_lt_zero _)⟩, hgrow1.but _⟩
    rw [← HN.out, hg]
    exact hown1
  have hgb : g ≠ bm := by omega
  have hgq : g ≠ q := by omega
  have hgw : w.heap.size ≤ g := by omega
  rw [← hg]
  have HG := Lib.hid hg
  clear hg hown1 hgrow1
  go_wp2_with fail
  go_loopw [5, 6, 7, 8, 14] (fun _ _ _ _ i wr => ∃ k : Nat, i = .int .i64 k ∧ k ≤ n ∧ Hid (Nk w g bm M l k wr)) (fun _ _ _ _ i _ => n - (intOf i).toNat)
  case atStart => exact ⟨0, rfl, Nat.zero_le _, hst0⟩
  case round =>
    obtain ⟨k, rfl, hk, HK⟩ := hrel
    clear hst0
    by_cases hlt : k < n
    · have e1 : (k : Int) < (n : Int) := by omega
      obtain ⟨x, hx⟩ : ∃ x, l[k]? = some x := ⟨_, List.getElem?_eq_getElem (by rw [← HN.out]; exact hlt)⟩
      have hxs := HSZ.out x (List.mem_iff_getElem?.2 ⟨k, hx⟩)
      obtain ⟨ba, oa, rfl, hba, hc⟩ := HA.out.2.resolve_left (by rw [← HN.out]; omega)
      have hbb := HAB.out (by rw [← HN.out]; omega) ba oa rfl
      obtain ⟨h1, ⟨ys, h2, h3⟩, h4⟩ := HK.out
      have c1 : wr.cell? ⟨ba, oa + k, none⟩ = some (.string x) := h4.cell (hc k x hx) (fun e => hbb (by injection e))
      have c2 : wr.cell? ⟨q, 0, none⟩ = some (.map (some bm)) := h4.cell hq (fun e => HQB.out (by injection e))
      have hfz := own_frozen h2 k
      have hst := own_cell h2 (List.getElem?_eq_getElem (show k < ys.length by rw [h2.1, ← HN.out]; omega))
      obtain ⟨old, hold⟩ : ∃ old, old = ys[k]'(by rw [h2.1, ← HN.out]; omega) := ⟨_, rfl⟩
      rw [← hold] at hst
      have hle := ads_len (l.take k) M
      have hltk : (l.take k).length ≤ k := List.length_take_le _ _
      have hlook := h1.look hxs
      have h1len := h1.len 3
      have hnle := num_le (ads M (l.take k)) x
      by_cases hh : num (ads M (l.take k)) x < (ads M (l.take k)).length
      · rw [if_pos hh, decide_eq_true hh] at hlook
        have hpa : ad (ads M (l.take k)) x = ads M (l.take k) := by unfold ad; rw [if_pos hh]
        have HP : Hid (Nk w g bm M l (k + 1) (wr.setCell ⟨g, k, none⟩ (.int .i64 ((num (ads M (l.take k)) x : Nat) : Int)))) := Nk.put HK.out hx hgb hgw wr (by rw [hpa]; exact h1) (World.grownBy.refl _ _) _ (by rw [hpa])
        obtain ⟨c, hcc⟩ : ∃ c, c = num (ads M (l.take k)) x := ⟨_, rfl⟩
        rw [← hcc] at HP hlook
        clear HK h1 h2 h3 h4 hc hx hold hnle hh hpa hcc hxs hba hbb h1len hq
        go_wp2_with fail
        go_roundw
        case rel => exact ⟨k + 1, by go_num, by omega, HP⟩
        case measure => simp only [intOf]; omega
      · rw [if_neg hh, decide_eq_false hh] at hlook
        obtain ⟨w2, hrun, hm2, hg2⟩ := h1.store hxs (by omega) hh
        have hpa : ad (ads M (l.take k)) x = ads M (l.take k) ++ [x] := by unfold ad; rw [if_neg hh]
        have HP : Hid (Nk w g bm M l (k + 1) (w2.setCell ⟨g, k, none⟩ (.int .i64 (((ads M (l.take k)).length : Nat) : Int)))) := Nk.put HK.out hx hgb hgw w2 (by rw [hpa]; exact hm2) hg2 _ (by rw [hpa, num_new _ _ hh])
        have hfz2 := own_frozen (h2.kept hg2 (.inr (fun e => hgb (by injection e)))) k
        have hst2 : w2.cell? ⟨g, k, none⟩ = some old := hg2.cell hst (fun e => hgb (by injection e))
        obtain ⟨c, hcc⟩ : ∃ c, c = (ads M (l.take k)).length := ⟨_, rfl⟩
        rw [← hcc] at HP hrun h1len
        clear HK h1 h2 h3 h4 hc hx hold hnle hh hpa hcc hxs hba hbb hm2 hg2 hq
        go_wp2_with fail
        go_roundw
        case rel => exact ⟨k + 1, by go_num, by omega, HP⟩
        case measure => simp only [intOf]; omega
    · have e1 : ¬ (k : Int) < (n : Int) := by omega
      obtain rfl : k = n := by omega
      have HE : Hid (NumTo w bm M l (.returned (.slice (some ⟨g, 0, none⟩) k k)) wr) := by
        show NumTo _ _ _ _ _ _
        have h := HK.out
        rw [HN.out] at h ⊢
        exact ⟨_, rfl, h.done⟩
      clear HK
      go_wp2_with fail
      go_ret
      exact HE.out
def NumbTo (a b : List ByteArray) (w : World) (e : Ending) (w' : World) : Prop := ∃ M va vb, e = .returned (.tuple #[va, vb]) ∧ Ints w' w.heap.size va (a.map (num M)) ∧ Ints w' w.heap.size vb (b.map (num M)) ∧ (∀ x, x ∈ a → num M x < M.length) ∧ Below w.heap.size w w'
set_option maxRecDepth 100000 in
set_option maxHeartbeats 2000000 in
theorem numbered_any (A B : Option Addr) (ca cb : Nat) (a b : List ByteArray) (w : World) (hA : Strs w A a.length a) (hB : Strs w B b.length b) (ha : ∀ x, x ∈ a → x.size ≤ maxLen) (hb : ∀ x, x ∈ b → x.size ≤ maxLen) (hal : a.length ≤ 400) (hbl : b.length ≤ 400) :
    Calls Try.prog 16 #[.slice A a.length ca, .slice B b.length cb] w (NumbTo a b w) := by
  have hmm := @run_makeMap Try.prog
  have hB0 : Below w.heap.size w ((w.alloc (.map #[] 0)).alloc (.cells #[.map (some w.heap.size)] 54)) := ((Below.refl _ w).alloc (Nat.le_refl _) _).alloc (by simp) _
  have hm0 : Nm ((w.alloc (.map #[] 0)).alloc (.cells #[.map (some w.heap.size)] 54)) w.heap.size [] := (nm_made w).kept (Below.heap_alloc _ _ _ (by simp))
  have hq0 : ((w.alloc (.map #[] 0)).alloc (.cells #[.map (some w.heap.size)] 54)).cell? ⟨w.heap.size + 1, 0, none⟩ = some (.map (some w.heap.size)) := by go_simp
  have hs0 : ((w.alloc (.map #[] 0)).alloc (.cells #[.map (some w.heap.size)] 54)).heap.size = w.heap.size + 2 := by simp
  have old : ∀ (W : World) (C : Option Addr) (n : Nat) (l : List ByteArray), Strs W C n l → ∀ bc oc, n ≠ 0 → C = some ⟨bc, oc, none⟩ → bc < W.heap.size := fun W C n l h bc oc hn0 hc => by
    obtain ⟨b', o', h1, h2, _⟩ := h.2.resolve_left hn0
    rw [hc] at h1
    injection h1 with h1
    injection h1 with h1
    rw [h1]
    exact h2
  have c1 := number_any (w.heap.size + 1) w.heap.size A ca [] a _ (hA.below hB0) ha hal (Nat.zero_le _) hm0 hq0 (by omega) (fun hn ba oa h => by have := old w A _ a hA ba oa hn h; omega)
  have c2 := fun w1 (hb1 : Below w.heap.size w w1) h1 h2 => number_any (w.heap.size + 1) w.heap.size B cb (ads [] a) b w1 (hB.below hb1) hb hbl (by have := ads_len a []; simp at this; omega) h1 h2 (by omega) (fun hn ba oa h => by have := old w B _ b hB ba oa hn h; omega)
  have HOLD := Lib.hid old
  unfold NumTo at c1 c2
  have C1 := Lib.hid c1
  have C2 := Lib.hid c2
  have HQ0 := Lib.hid hq0
  have HB0 := Lib.hid hB0
  clear c1 c2 hm0 hq0 hB0 hA hB ha hb old
  go_enter Try.func16, Try.ntmps16
  go_wp2_with fail
  go_at_call 22
  refine C1.out.mono ?_
  rintro e w1 ⟨va, rfl, hva, hm1, hg1⟩
  rw [hs0] at hva
  have hq1 : w1.cell? ⟨w.heap.size + 1, 0, none⟩ = some (.map (some w.heap.size)) := hg1.cell HQ0.out (fun e => by injection e with e; change w.heap.size + 1 = w.heap.size at e; omega)
  have hB1 : Below w.heap.size w w1 := HB0.out.grown hg1 HB0.out.size (fun k hk => by injection hk with hk; omega)
  have cc := Lib.hid (C2.out w1 hB1 hm1 hq1)
  have HVA := Lib.hid hva
  have HB1 := Lib.hid hB1
  clear hva hm1 hg1 hB1 C1 C2 HQ0 HB0 hs0
  go_wp2_with fail
  go_at_call 22
  refine cc.out.mono ?_
  rintro e w2 ⟨vb, rfl, hvb, hm2, hg2⟩
  have hB2 : Below w.heap.size w w2 := HB1.out.grown hg2 HB1.out.size (fun k hk => by injection hk with hk; omega)
  have hva2 : Ints w2 (w.heap.size + 2) va (a.map (num (ads [] a))) := by
    refine HVA.out.kept hg2 (.inr (fun e => ?_))
    have := HVA.out.lt _ e
    omega
  have HE : Hid (NumbTo a b w (.returned (.tuple #[va, vb])) w2) := by
    refine ⟨ads (ads [] a) b, va, vb, rfl, ?_, own_base hvb HB1.out.size, fun x hx => (ads_keeps b _ x (ads_has a [] x hx)).2, hB2⟩
    have e : a.map (num (ads (ads [] a) b)) = a.map (num (ads [] a)) := List.map_congr_left (fun x hx => (ads_keeps b _ x (ads_has a [] x hx)).1)
    rw [e]
    exact own_base hva2 (by omega)
  clear hvb hm2 hg2 hB2 hva2 cc
  go_wp2_with fail
  go_ret2
  exact HE.out
end Go.Proofs.Ytmlmgmodgcpkpaa.Ud

namespace Go.Proofs.Ytmlmgmodgcpkpaa.Ud
open Go.RowKit Tx Um Aq
set_option linter.unusedVariables false
def Nums (w : World) (A : Option Addr) (l : List Nat) : Prop := l.length = 0 ∨ ∃ g, A = some ⟨g, 0, none⟩ ∧ g < w.heap.size ∧ ∀ (k : Nat) x, l[k]? = some x → w.cell? ⟨g, k, none⟩ = some (.int .i64 (x : Int))
theorem Nums.kept {w w1 : World} {A : Option Addr} {l : List Nat} (h : Nums w A l) (hk : ∀ g, l.length ≠ 0 → A = some ⟨g, 0, none⟩ → w1.heap[g]? = w.heap[g]?) (hs : w.heap.size ≤ w1.heap.size) : Nums w1 A l := by
  by_cases h0 : l.length = 0
  · exact .inl h0
  · obtain ⟨g, h1, h2, h3⟩ := h.resolve_left h0
    exact .inr ⟨g, h1, Nat.lt_of_lt_of_le h2 hs, fun k x hx => cell_keep (h3 k x hx) (hk g h0 h1)⟩
theorem Nums.below {w w1 : World} {A : Option Addr} {l : List Nat} (h : Nums w A l) (hb : Below w.heap.size w w1) : Nums w1 A l :=
  h.kept (fun g h0 h1 => by
    obtain ⟨g', h2, h3, _⟩ := h.resolve_left h0
    rw [h1] at h2
    injection h2 with h2
    injection h2 with h2
    exact hb.block g (by rw [h2]; exact h3)) hb.size
theorem Nums.lt {w : World} {A : Option Addr} {l : List Nat} (h : Nums w A l) {g o : Nat} (h0 : l.length ≠ 0) (h1 : A = some ⟨g, o, none⟩) : g < w.heap.size := by
  obtain ⟨g', h2, h3, _⟩ := h.resolve_left h0
  rw [h1] at h2
  injection h2 with h2
  injection h2 with h2
  rw [h2]
  exact h3
theorem num_eq {M a : List ByteArray} (h : ∀ x, x ∈ a → num M x < M.length) {x y : ByteArray} (hx : x ∈ a) : num M x = num M y ↔ x = y := ⟨num_inj M x y (h x hx), fun e => by rw [e]⟩
theorem F_eq (a b : List ByteArray) (i j : Nat) (hi : i < a.length) (hj : j < b.length) (h : a[i] = b[j]) : F a b i j = F a b (i + 1) (j + 1) + 1 := by
  unfold F
  conv => lhs; rw [List.drop_eq_getElem_cons hi, List.drop_eq_getElem_cons hj, h, lcs_head]
theorem F_ne (a b : List ByteArray) (i j : Nat) (hi : i < a.length) (hj : j < b.length) (h : a[i] ≠ b[j]) : F a b i j = max (F a b (i + 1) j) (F a b i (j + 1)) := by
  rw [F_step a b i j hi hj, if_neg h, Nat.max_comm]
structure Tb (w : World) (B g : Nat) (r : Nat → Nat) (a b : List ByteArray) (K : Nat) (P : Nat → Nat → Prop) : Prop where
  outer : ∃ xs, w.ownsRow B 45 1 (.slice (some ⟨g, 0, none⟩) (a.length + 1) (a.length + 1)) (a.length + 1) xs
  cell : ∀ i, i < K → w.cell? ⟨g, i, none⟩ = some (.slice (some ⟨r i, 0, none⟩) (b.length + 1) (b.length + 1))
  row : ∀ i, i < K → ∃ ys, w.ownsRow B 3 1 (.slice (some ⟨r i, 0, none⟩) (b.length + 1) (b.length + 1)) (b.length + 1) ys ∧ ∀ j, j ≤ b.length → P i j → ys[j]? = some (.int .i64 (F a b i j : Nat))
  apart : ∀ i, i < K → r i ≠ g
  inj : ∀ i j, i < K → j < K → r i = r j → i = j
theorem Tb.glt {w : World} {B g K : Nat} {r : Nat → Nat} {a b : List ByteArray} {P : Nat → Nat → Prop} (h : Tb w B g r a b K P) : B ≤ g ∧ g < w.heap.size := by
  obtain ⟨xs, h1⟩ := h.outer
  exact h1.lt g rfl
theorem Tb.rlt {w : World} {B g K : Nat} {r : Nat → Nat} {a b : List ByteArray} {P : Nat → Nat → Prop} (h : Tb w B g r a b K P) {i : Nat} (hi : i < K) : B ≤ r i ∧ r i < w.heap.size := by
  obtain ⟨ys, h1, _⟩ := h.row i hi
  exact h1.lt (r i) rfl
theorem Tb.weak {w : World} {B g K : Nat} {r : Nat → Nat} {a b : List ByteArray} {P P' : Nat → Nat → Prop} (h : Tb w B g r a b K P) (hp : ∀ i j, i < K → j ≤ b.length → P' i j → P i j) : Tb w B g r a b K P' :=
  ⟨h.outer, h.cell, fun i hi => by
    obtain ⟨ys, h1, h2⟩ := h.row i hi
    exact ⟨ys, h1, fun j hj hpj => h2 j hj (hp i j hi hj hpj)⟩, h.apart, h.inj⟩
theorem Tb.drew1 {w : World} {B g K : Nat} {r : Nat → Nat} {a b : List ByteArray} {P : Nat → Nat → Prop} (h : Tb w B g r a b K P) : Tb w.drew B g r a b K P := ⟨h.outer, h.cell, h.row, h.apart, h.inj⟩
theorem Tb.make {w w1 : World} {B g K h : Nat} {r : Nat → Nat} {a b : List ByteArray} (ht : Tb w B g r a b K fun i j => i = a.length ∨ j = b.length) (hK : K ≤ a.length) (hh : h = w.heap.size) (hg1 : w.grownBy w1 none)
    (hown : w1.ownsRow B 3 1 (.slice (some ⟨h, 0, none⟩) (b.length + 1) (b.length + 1)) (b.length + 1) (List.replicate (b.length + 1) (.int .i64 0))) :
    Tb (w1.setCell ⟨g, K, none⟩ (.slice (some ⟨h, 0, none⟩) (b.length + 1) (b.length + 1))) B g (fun i => if i = K then h else r i) a b (K + 1) fun i j => i = a.length ∨ j = b.length := by
  obtain ⟨xs, h1⟩ := ht.outer
  have hg := ht.glt
  have hne : h ≠ g := by omega
  have h1' := h1.kept hg1 (.inr (by simp [Value.ownBlock]))
  have hst := own_store h1' (show K < a.length + 1 by omega) (.slice (some ⟨h, 0, none⟩) (b.length + 1) (b.length + 1))
  have e1 : ∀ q, q ≠ g → (w1.setCell ⟨g, K, none⟩ (.slice (some ⟨h, 0, none⟩) (b.length + 1) (b.length + 1))).heap[q]? = w1.heap[q]? := fun q hq => Below.heap_setCell w1 ⟨g, K, none⟩ _ q hq
  have e2 : ∀ i, i < K → (w1.setCell ⟨g, K, none⟩ (.slice (some ⟨h, 0, none⟩) (b.length + 1) (b.length + 1))).heap[r i]? = w.heap[r i]? := fun i hi => (e1 _ (ht.apart i hi)).trans (hg1.block _ (ht.rlt hi).2 (by simp))
  refine ⟨⟨_, hst⟩, fun i hi => ?_, fun i hi => ?_, fun i hi => ?_, fun i j hi hj e => ?_⟩
  · by_cases e : i = K
    · subst e
      rw [if_pos rfl]
      exact own_cell hst (List.getElem?_set_self (by rw [h1.1]; omega))
    · rw [if_neg e, World.cell?_setCell_other _ _ _ _ (fun e2 => e (by injection e2 with _ e3; exact e3.symm))]
      exact hg1.cell (ht.cell i (by omega)) (by simp)
  · by_cases e : i = K
    · subst e
      rw [if_pos rfl]
      refine ⟨_, own_stay hown (fun q hq => by simp only [Value.ownBlock, Option.some.injEq] at hq; subst hq; exact e1 _ hne), fun j hj hp => ?_⟩
      rw [List.getElem?_replicate, if_pos (by omega)]
      rcases hp with rfl | rfl
      · rw [F_end]; rfl
      · rw [F_end2]; rfl
    · rw [if_neg e]
      obtain ⟨ys, h3, h4⟩ := ht.row i (by omega)
      exact ⟨ys, own_stay h3 (fun q hq => by simp only [Value.ownBlock, Option.some.injEq] at hq; subst hq; exact e2 i (by omega)), h4⟩
  · by_cases e : i = K
    · rw [if_pos e]; exact hne
    · rw [if_neg e]; exact ht.apart i (by omega)
  · by_cases e1 : i = K
    · by_cases e2 : j = K
      · omega
      · simp only [if_pos e1, if_neg e2] at e
        have := (ht.rlt (i := j) (by omega)).2
        omega
    · by_cases e2 : j = K
      · simp only [if_neg e1, if_pos e2] at e
        have := (ht.rlt (i := i) (by omega)).2
        omega
      · simp only [if_neg e1, if_neg e2] at e
        exact ht.inj i j (by omega) (by omega) e
theorem Tb.put {w : World} {B g K : Nat} {r : Nat → Nat} {a b : List ByteArray} {P : Nat → Nat → Prop} (ht : Tb w B g r a b K P) {i j : Nat} (hi : i < K) (hj : j ≤ b.length) (c : Nat) (hc : c = F a b i j) :
    Tb (w.setCell ⟨r i, j, none⟩ (.int .i64 (c : Int))) B g r a b K fun i' j' => P i' j' ∨ (i' = i ∧ j' = j) := by
  obtain ⟨xs, h1⟩ := ht.outer
  have e1 : ∀ q, q ≠ r i → (w.setCell ⟨r i, j, none⟩ (.int .i64 (c : Int))).heap[q]? = w.heap[q]? := fun q hq => Below.heap_setCell w ⟨r i, j, none⟩ _ q hq
  have hgr : g ≠ r i := fun e => ht.apart i hi e.symm
  refine ⟨⟨xs, own_stay h1 (fun q hq => by simp only [Value.ownBlock, Option.some.injEq] at hq; subst hq; exact e1 _ hgr)⟩, fun i' hi' => cell_keep (ht.cell i' hi') (e1 g hgr), fun i' hi' => ?_, ht.apart, ht.inj⟩
  obtain ⟨ys, h3, h4⟩ := ht.row i' hi'
  by_cases e : i' = i
  · subst e
    refine ⟨_, own_store h3 (show j < b.length + 1 by omega) _, fun j' hj' hp => ?_⟩
    by_cases e2 : j' = j
    · subst e2
      rw [List.getElem?_set_self (by rw [h3.1]; omega), hc]
    · rw [List.getElem?_set_ne (fun e3 => e2 e3.symm)]
      exact h4 j' hj' (hp.resolve_right (fun h => e2 h.2))
  · exact ⟨ys, own_stay h3 (fun q hq => by simp only [Value.ownBlock, Option.some.injEq] at hq; subst hq; exact e1 _ (fun e2 => e (ht.inj i' i hi' hi e2))), fun j' hj' hp => h4 j' hj' (hp.resolve_right (fun h => e h.1))⟩
theorem Tb.tab {w : World} {B g : Nat} {r : Nat → Nat} {a b : List ByteArray} {P : Nat → Nat → Prop} (ht : Tb w B g r a b (a.length + 1) P) (hp : ∀ i j, i ≤ a.length → j ≤ b.length → P i j) : Tab w B g r a b 0 :=
  ⟨ht.outer, fun i _ hi => ht.cell i (by omega), fun i _ hi j hj => by
    obtain ⟨ys, h3, h4⟩ := ht.row i (by omega)
    exact own_cell h3 (h4 j hj (hp i j hi hj)), fun i _ hi => ⟨ht.apart i (by omega), (ht.rlt (i := i) (by omega)).2⟩⟩
theorem Tb.val {w : World} {B g K : Nat} {r : Nat → Nat} {a b : List ByteArray} {P : Nat → Nat → Prop} (ht : Tb w B g r a b K P) {i j : Nat} (hi : i < K) (hj : j ≤ b.length) (hp : P i j) : w.cell? ⟨r i, j, none⟩ = some (.int .i64 (F a b i j : Nat)) := by
  obtain ⟨ys, h3, h4⟩ := ht.row i hi
  exact own_cell h3 (h4 j hj hp)
theorem Tb.any {w : World} {B g K : Nat} {r : Nat → Nat} {a b : List ByteArray} {P : Nat → Nat → Prop} (ht : Tb w B g r a b K P) {i j : Nat} (hi : i < K) (hj : j ≤ b.length) : (∃ u, w.cell? ⟨r i, j, none⟩ = some u) ∧ w.frozen? ⟨r i, j, none⟩ = false := by
  obtain ⟨ys, h3, h4⟩ := ht.row i hi
  have : j < ys.length := by rw [h3.1]; omega
  exact ⟨⟨ys[j], own_cell h3 (List.getElem?_eq_getElem this)⟩, own_frozen h3 j⟩
theorem Tb.gany {w : World} {B g K : Nat} {r : Nat → Nat} {a b : List ByteArray} {P : Nat → Nat → Prop} (ht : Tb w B g r a b K P) {i : Nat} (hi : i ≤ a.length) : (∃ u, w.cell? ⟨g, i, none⟩ = some u) ∧ w.frozen? ⟨g, i, none⟩ = false := by
  obtain ⟨xs, h3⟩ := ht.outer
  have : i < xs.length := by rw [h3.1]; omega
  exact ⟨⟨xs[i], own_cell h3 (List.getElem?_eq_getElem this)⟩, own_frozen h3 i⟩
end Go.Proofs.Ytmlmgmodgcpkpaa.Ud

namespace Go.Proofs.Ytmlmgmodgcpkpaa.Ud
open Go.RowKit Tx Um Aq
set_option linter.unusedVariables false
set_option maxRecDepth 100000 in
set_option maxHeartbeats 4000000 in
theorem lengths_any (A B : Option Addr) (ca cb : Nat) (M a b : List ByteArray) (w : World) (hM : ∀ x, x ∈ a → num M x < M.length) (hm4 : a.length ≤ 400) (hn4 : b.length ≤ 400) (hA : Nums w A (a.map (num M))) (hB : Nums w B (b.map (num M))) :
    Calls Try.prog 17 #[.slice A a.length ca, .slice B b.length cb] w (TableTo a b w) := by
  obtain ⟨iI, hI, hI0, hI1, hI2⟩ := info_parts infoInt
  obtain ⟨iS, hS, hS0, hS1, hS2⟩ := info_parts infoInts
  have HAS := Lib.hid hA
  have HBS := Lib.hid hB
  have HMM := Lib.hid hM
  clear hA hB hM
  obtain ⟨m, hm⟩ : ∃ m, m = a.length := ⟨_, rfl⟩
  obtain ⟨n, hn⟩ : ∃ n, n = b.length := ⟨_, rfl⟩
  rw [← hm] at hm4 ⊢
  rw [← hn] at hn4 ⊢
  have HM := Lib.hid hm
  have HN := Lib.hid hn
  clear hm hn
  go_enter Try.func17, Try.ntmps17
  go_wp2_with (at_make; refine wpList_make_full _ rfl _ _ _ rfl w.heap.size 45 iS (.slice none 0 0) 1 Try.underlying48 hS hS0 hS1 _ _ _ _ (m + 1) rfl rfl rfl rfl (by rw [hS2]; omega) (by unfold maxLen; omega) (Nat.le_refl _) ?_)
  intro w1 hown1 hgrow1
  have hB1 : Below w.heap.size w w1 := (Below.refl _ w).grown hgrow1 (Nat.le_refl _) (fun k hk => by cases hk)
  obtain ⟨B0, hB0⟩ : ∃ B0, B0 = w.heap.size := ⟨_, rfl⟩
  obtain ⟨g, hg⟩ : ∃ g, g = w.heap.size := ⟨_, rfl⟩
  rw [← hg] at hown1 ⊢
  have hgB : B0 ≤ g := by omega
  have hT1 : Hid (Tb w1 B0 g (fun _ => 0) a b 0 fun i j => i = a.length ∨ j = b.length) := by
    show Tb _ _ _ _ _ _ _ _
    refine ⟨⟨(madeCells #[.slice none 0 0] (m + 1)).toList, ?_⟩, fun i hi => by omega, fun i hi => by omega, fun i hi => by omega, fun i j hi => by omega⟩
    rw [hB0, ← HM.out, ← hg]
    exact hown1
  rw [← hB0] at hB1
  have HB0 := Lib.hid hB0
  clear hg hgrow1 hB0 hown1
  go_wp2_with fail
  go_loopw [6, 15] (fun _ i wr => ∃ (k : Nat) (r : Nat → Nat), i = .int .i64 (k : Int) ∧ k ≤ m + 1 ∧ Hid (Tb wr B0 g r a b k fun i j => i = a.length ∨ j = b.length) ∧ Below B0 w wr) (fun _ i _ => m + 1 - (intOf i).toNat)
  case atStart => exact ⟨0, _, rfl, Nat.zero_le _, hT1, hB1⟩
  case round =>
    obtain ⟨k, r, rfl, hk, hT, hb⟩ := hrel
    clear hT1 hB1
    by_cases hlt : k < m + 1
    · have e1 : (k : Int) < (m : Int) + 1 := by omega
      have hszB : B0 ≤ wr.heap.size := by have := HB0.out; have := hb.size; omega
      go_wp2_with (at_make; refine wpList_make_full _ rfl _ _ _ rfl B0 3 iI (.int .i64 0) 1 Try.underlying45 hI hI0 hI1 _ _ _ _ (n + 1) rfl rfl rfl rfl (by rw [hI2]; omega) (by unfold maxLen; omega) hszB ?_)
      intro w3 hown3 hgrow3
      obtain ⟨h, hh⟩ : ∃ h, h = wr.heap.size := ⟨_, rfl⟩
      rw [← hh] at hown3 ⊢
      have ho3 : w3.ownsRow B0 3 1 (.slice (some ⟨h, 0, none⟩) (b.length + 1) (b.length + 1)) (b.length + 1) (List.replicate (b.length + 1) (.int .i64 0)) := by rw [← HN.out, ← made_zero]; simpa using hown3
      have hT4 : Hid (Tb (w3.setCell ⟨g, k, none⟩ (.slice (some ⟨h, 0, none⟩) (n + 1) (n + 1))) B0 g (fun i => if i = k then h else r i) a b (k + 1) fun i j => i = a.length ∨ j = b.length) := by
        show Tb _ _ _ _ _ _ _ _
        have h := hT.out.make (by rw [← HM.out]; omega) hh hgrow3 ho3
        rw [HN.out]
        exact h
      have hb4 : Below B0 w (w3.setCell ⟨g, k, none⟩ (.slice (some ⟨h, 0, none⟩) (n + 1) (n + 1))) := (hb.grown hgrow3 hszB (fun k hk => by cases hk)).setCell (p := ⟨g, k, none⟩) hgB _
      obtain ⟨⟨old, hst⟩, hfz⟩ := hT.out.gany (i := k) (by rw [← HM.out]; omega)
      have hgl := hT.out.glt.2
      have hst3 : w3.cell? ⟨g, k, none⟩ = some old := hgrow3.cell hst (by simp)
      have hfz3 : w3.frozen? ⟨g, k, none⟩ = false := (hgrow3.frozen_far ⟨g, k, none⟩ hgl (by simp)).trans hfz
      clear hown3 hgrow3 ho3 hT hst hfz hb hszB hgl hh
      go_wp2_with fail
      go_roundw
      case rel => exact ⟨k + 1, _, by go_num, by omega, hT4, hb4⟩
      case measure => simp [intOf]; try omega
    · obtain rfl : k = m + 1 := by omega
      have e1 : ¬ ((m + 1 : Nat) : Int) < (m : Int) + 1 := by omega
      have hT0 : Hid (Tb wr B0 g r a b (a.length + 1) fun i j => m ≤ i ∨ j = b.length) := by
        show Tb _ _ _ _ _ _ _ _
        have h := hT.out
        rw [HM.out] at h ⊢
        exact h.weak (fun i j hi hj hp => hp.imp (fun h => by omega) id)
      clear hT
      go_wp2_with fail
      go_loopw [7, 8] (fun i _ wr => ∃ k : Nat, i = .int .i64 ((k : Int) - 1) ∧ k ≤ m ∧ Hid (Tb wr B0 g r a b (a.length + 1) fun i j => k ≤ i ∨ j = b.length) ∧ Below B0 w wr) (fun i _ _ => (intOf i + 1).toNat)
      case atStart => exact ⟨m, rfl, Nat.le_refl _, hT0, hb⟩
      case round =>
        obtain ⟨k, rfl, hk, hT, hb⟩ := hrel
        clear hT0
        rcases k with _ | q
        · have e2 : ¬ (0 : Int) ≤ ((0 : Nat) : Int) - 1 := by omega
          go_wp2_with fail
          go_ret
          unfold TableTo
          rw [← HB0.out, ← HM.out]
          exact ⟨g, r, rfl, hT.out.tab (fun i j hi hj => .inl (Nat.zero_le _)), hb⟩
        · rw [show (((q + 1 : Nat) : Int) - 1) = (q : Int) by omega]
          have hT3 : Hid (Tb wr B0 g r a b (a.length + 1) fun i j => q + 1 ≤ i ∨ j = b.length ∨ (i = q ∧ n ≤ j)) := hT.out.weak (fun i j hi hj hp => by rcases hp with h | h | h; exact .inl h; exact .inr h; have := HN.out; exact .inr (by omega))
          clear hT
          go_wp2_with fail
          go_loopw [8] (fun j wx => ∃ k : Nat, j = .int .i64 ((k : Int) - 1) ∧ k ≤ n ∧ Hid (Tb wx B0 g r a b (a.length + 1) fun i j => q + 1 ≤ i ∨ j = b.length ∨ (i = q ∧ k ≤ j)) ∧ Below B0 w wx) (fun j _ => (intOf j + 1).toNat)
          case atStart => exact ⟨n, rfl, Nat.le_refl _, hT3, hb⟩
          case round =>
            obtain ⟨k, rfl, hkn, hT, hb⟩ := hrel
            clear hT3
            rcases k with _ | p
            · have e2 : ¬ (0 : Int) ≤ ((0 : Nat) : Int) - 1 := by omega
              have hT4 : Hid (Tb wr B0 g r a b (a.length + 1) fun i j => q ≤ i ∨ j = b.length) := hT.out.weak (fun i j hi hj hp => by
                rcases hp with h | h
                · by_cases e : i = q
                  · exact .inr (.inr ⟨e, Nat.zero_le _⟩)
                  · exact .inl (by omega)
                · exact .inr (.inl h))
              clear hT
              go_wp2_with fail
              go_roundw
              case rel => exact ⟨q, by go_num, by omega, hT4, hb⟩
              case measure => simp [intOf]; try omega
            · rw [show (((p + 1 : Nat) : Int) - 1) = (p : Int) by omega]
              have hqa : q < a.length := by rw [← HM.out]; omega
              have hpb : p < b.length := by rw [← HN.out]; omega
              obtain ⟨ga, rfl, hga, hca⟩ := HAS.out.resolve_left (by rw [List.length_map]; omega)
              obtain ⟨gb, rfl, hgb, hcb⟩ := HBS.out.resolve_left (by rw [List.length_map]; omega)
              rw [← HB0.out] at hga hgb
              have c1 := (hb.cell (p := ⟨ga, q, none⟩) hga).trans (hca q (num M a[q]) (by rw [List.getElem?_map, List.getElem?_eq_getElem hqa]; rfl))
              have c2 := (hb.cell (p := ⟨gb, p, none⟩) hgb).trans (hcb p (num M b[p]) (by rw [List.getElem?_map, List.getElem?_eq_getElem hpb]; rfl))
              have hiff := num_eq HMM.out (y := b[p]) (List.getElem_mem hqa)
              have d1 := hT.out.cell q (by omega)
              have d2 := hT.out.cell (q + 1) (by omega)
              obtain ⟨⟨old, hst⟩, hfz⟩ := hT.out.any (i := q) (j := p) (by omega) (by omega)
              have wq : IntKind.i64.wrap ((q : Int) + 1) = (q : Int) + 1 := IntWalk.i64_in _ (by omega)
              have wp : IntKind.i64.wrap ((p : Int) + 1) = (p : Int) + 1 := IntWalk.i64_in _ (by omega)
              have nq : ((q : Int) + 1).toNat = q + 1 := by omega
              have np : ((p : Int) + 1).toNat = p + 1 := by omega
              have zq : (0 : Int) ≤ (q : Int) + 1 := by omega
              have zp : (0 : Int) ≤ (p : Int) + 1 := by omega
              have f1 : (p : Int) + 1 < (n : Int) + 1 := by omega
              have f2 : (p : Int) < (n : Int) + 1 := by omega
              have f3 : (q : Int) + 1 < (m : Int) + 1 := by omega
              have f4 : (q : Int) < (m : Int) + 1 := by omega
              have f5 : (q : Int) < (m : Int) := by omega
              have f6 : (p : Int) < (n : Int) := by omega
              have hput := fun c hc => (hT.out.put (i := q) (j := p) (by omega) (by omega) c hc).weak (P' := fun i j => q + 1 ≤ i ∨ j = b.length ∨ (i = q ∧ p ≤ j)) (fun i j hi hj hp => by
                rcases hp with h | h | h
                · exact .inl (.inl h)
                · exact .inl (.inr (.inl h))
                · by_cases e : j = p
                  · exact .inr ⟨h.1, e⟩
                  · exact .inl (.inr (.inr ⟨h.1, by omega⟩)))
              have hbp := fun u : Value => hb.setCell (p := ⟨r q, p, none⟩) (hT.out.rlt (i := q) (by omega)).1 u
              rw [← HN.out] at d1 d2
              by_cases he : a[q] = b[p]
              · have hF := F_eq a b q p hqa hpb he
                have d3 := hT.out.val (i := q + 1) (j := p + 1) (by omega) (by omega) (.inl (Nat.le_refl _))
                have hE4 := F_le a b (q + 1) (p + 1)
                have e3 : (((num M a[q] : Nat) : Int) == ((num M b[p] : Nat) : Int)) = true := by rw [he]; exact beq_self_eq_true _
                have HP := Lib.hid (hput _ hF.symm)
                have HB := Lib.hid (hbp (.int .i64 ((F a b (q + 1) (p + 1) + 1 : Nat) : Int)))
                obtain ⟨X, hX⟩ : ∃ X, X = num M a[q] := ⟨_, rfl⟩
                obtain ⟨Y, hY⟩ : ∃ Y, Y = num M b[p] := ⟨_, rfl⟩
                obtain ⟨E, hE⟩ : ∃ E, E = F a b (q + 1) (p + 1) := ⟨_, rfl⟩
                obtain ⟨r0, hr0⟩ : ∃ r0, r0 = r q := ⟨_, rfl⟩
                obtain ⟨r1, hr1⟩ : ∃ r1, r1 = r (q + 1) := ⟨_, rfl⟩
                rw [← hX] at c1 e3
                rw [← hY] at c2 e3
                rw [← hE, ← hr0] at HP
                rw [← hE, ← hr0] at HB
                rw [← hr1, ← hE] at d3
                rw [← hE] at hE4
                rw [← hr0] at d1 hst hfz
                rw [← hr1] at d2
                have hE5 : E ≤ 400 := by rw [← HM.out] at hE4; omega
                have wE : IntKind.i64.wrap ((E : Int) + 1) = (E : Int) + 1 := IntWalk.i64_in _ (by omega)
                rw [show ((E + 1 : Nat) : Int) = (E : Int) + 1 by omega] at HP HB
                clear hX hY hE hr0 hr1 hF he hiff hput hbp hT hb hca hcb hE4
                go_wp2_with fail
                go_region
                go_wp2_with fail
                go_region
                go_wp2_with fail
                go_roundw
                case rel => exact ⟨p, by go_num, by omega, Lib.hid HP.out.drew1.drew1, HB.out.drew.drew⟩
                case measure => simp [intOf]; try omega
              · have hF := F_ne a b q p hqa hpb he
                have d3 := hT.out.val (i := q + 1) (j := p) (by omega) (by omega) (.inl (Nat.le_refl _))
                have d4 := hT.out.val (i := q) (j := p + 1) (by omega) (by omega) (.inr (.inr ⟨rfl, Nat.le_refl _⟩))
                have hQ4 := F_le a b (q + 1) p
                have hR4 := F_le a b q (p + 1)
                have e3 : (((num M a[q] : Nat) : Int) == ((num M b[p] : Nat) : Int)) = false := beq_eq_false_iff_ne.2 (fun e => he (hiff.1 (by omega)))
                have HP := Lib.hid (hput _ hF.symm)
                have HB := Lib.hid (hbp (.int .i64 ((max (F a b (q + 1) p) (F a b q (p + 1)) : Nat) : Int)))
                obtain ⟨X, hX⟩ : ∃ X, X = num M a[q] := ⟨_, rfl⟩
                obtain ⟨Y, hY⟩ : ∃ Y, Y = num M b[p] := ⟨_, rfl⟩
                obtain ⟨Q, hQ⟩ : ∃ Q, Q = F a b (q + 1) p := ⟨_, rfl⟩
                obtain ⟨R, hR⟩ : ∃ R, R = F a b q (p + 1) := ⟨_, rfl⟩
                obtain ⟨r0, hr0⟩ : ∃ r0, r0 = r q := ⟨_, rfl⟩
                obtain ⟨r1, hr1⟩ : ∃ r1, r1 = r (q + 1) := ⟨_, rfl⟩
                rw [← hX] at c1 e3
                rw [← hY] at c2 e3
                rw [← hQ, ← hR, ← hr0] at HP
                rw [← hQ, ← hR, ← hr0] at HB
                rw [← hr1, ← hQ] at d3
                rw [← hr0, ← hR] at d4
                rw [← hQ] at hQ4
                rw [← hR] at hR4
                rw [← hr0] at d1 hst hfz
                rw [← hr1] at d2
                have hmx : (if Q < R then (R : Int) else (Q : Int)) = ((max Q R : Nat) : Int) := by split <;> omega
                rw [← hmx] at HP HB
                clear hX hY hQ hR hr0 hr1 hF he hiff hput hbp hT hb hca hcb hQ4 hR4 hmx
                go_wp2_with fail
                go_region
                go_wp2_with fail
                go_region
                go_wp2_with fail
                go_roundw
                case rel => exact ⟨p, by go_num, by omega, Lib.hid HP.out.drew1.drew1, HB.out.drew.drew⟩
                case measure => simp [intOf]; try omega
end Go.Proofs.Ytmlmgmodgcpkpaa.Ud

namespace Go.Proofs.Ytmlmgmodgcpkpaa.Um
set_option linter.unusedVariables false
def cA (l : List Nat) : Nat := l.count 0 + l.count 1
def cB (l : List Nat) : Nat := l.count 0 + l.count 2
theorem Makes.at {α : Type} {a b : List α} {s : List Nat} (h : Makes a b s) : ∀ (t x : Nat), s[t]? = some x →
    (x = 0 ∧ ∃ (hi : cA (s.take t) < a.length) (hj : cB (s.take t) < b.length), a[cA (s.take t)] = b[cB (s.take t)]) ∨ (x = 1 ∧ cA (s.take t) < a.length) ∨ (x = 2 ∧ cB (s.take t) < b.length) := by
  induction h with
  | nil => intro t x h; cases h
  | keep y h ih =>
    intro t x hx
    cases t with
    | zero => injection hx with hx; exact .inl ⟨hx.symm, by simp [cA], by simp [cB], rfl⟩
    | succ t =>
      have eA : cA ((0 :: ‹List Nat›).take (t + 1)) = cA (List.take t ‹List Nat›) + 1 := by simp [cA]; omega
      have eB : cB ((0 :: ‹List Nat›).take (t + 1)) = cB (List.take t ‹List Nat›) + 1 := by simp [cB]; omega
      rcases ih t x (by simpa using hx) with ⟨h0, hi, hj, he⟩ | ⟨h0, hi⟩ | ⟨h0, hj⟩
      · refine .inl ⟨h0, by rw [eA, List.length_cons]; omega, by rw [eB, List.length_cons]; omega, ?_⟩
        simp only [eA, eB, List.getElem_cons_succ]
        exact he
      · exact .inr (.inl ⟨h0, by rw [eA, List.length_cons]; omega⟩)
      · exact .inr (.inr ⟨h0, by rw [eB, List.length_cons]; omega⟩)
  | drop y h ih =>
    intro t x hx
    cases t with
    | zero => injection hx with hx; exact .inr (.inl ⟨hx.symm, by simp [cA]⟩)
    | succ t =>
      have eA : cA ((1 :: ‹List Nat›).take (t + 1)) = cA (List.take t ‹List Nat›) + 1 := by simp [cA]; omega
      have eB : cB ((1 :: ‹List Nat›).take (t + 1)) = cB (List.take t ‹List Nat›) := by simp [cB]
      rcases ih t x (by simpa using hx) with ⟨h0, hi, hj, he⟩ | ⟨h0, hi⟩ | ⟨h0, hj⟩
      · refine .inl ⟨h0, by rw [eA, List.length_cons]; omega, by rw [eB]; omega, ?_⟩
        simp only [eA, eB, List.getElem_cons_succ]
        exact he
      · exact .inr (.inl ⟨h0, by rw [eA, List.length_cons]; omega⟩)
      · exact .inr (.inr ⟨h0, by rw [eB]; omega⟩)
  | add y h ih =>
    intro t x hx
    cases t with
    | zero => injection hx with hx; exact .inr (.inr ⟨hx.symm, by simp [cB]⟩)
    | succ t =>
      have eA : cA ((2 :: ‹List Nat›).take (t + 1)) = cA (List.take t ‹List Nat›) := by simp [cA]
      have eB : cB ((2 :: ‹List Nat›).take (t + 1)) = cB (List.take t ‹List Nat›) + 1 := by simp [cB]; omega
      rcases ih t x (by simpa using hx) with ⟨h0, hi, hj, he⟩ | ⟨h0, hi⟩ | ⟨h0, hj⟩
      · refine .inl ⟨h0, by rw [eA]; omega, by rw [eB, List.length_cons]; omega, ?_⟩
        simp only [eA, eB, List.getElem_cons_succ]
        exact he
      · exact .inr (.inl ⟨h0, by rw [eA]; omega⟩)
      · exact .inr (.inr ⟨h0, by rw [eB, List.length_cons]; omega⟩)
theorem take_at {s : List Nat} {t x : Nat} (h : s[t]? = some x) : cA (s.take (t + 1)) = cA (s.take t) + (if x = 0 ∨ x = 1 then 1 else 0) ∧ cB (s.take (t + 1)) = cB (s.take t) + (if x = 0 ∨ x = 2 then 1 else 0) := by
  obtain ⟨h1, h2⟩ := List.getElem?_eq_some_iff.1 h
  have e : s.take (t + 1) = s.take t ++ [x] := by rw [List.take_succ_eq_append_getElem h1, h2]
  unfold cA cB
  rw [e, List.count_append, List.count_append, List.count_append]
  match x with
  | 0 => simp; omega
  | 1 => simp; omega
  | 2 => simp; omega
  | k + 3 => simp
def pos (R : List (Nat × Nat)) (n : Nat) : Nat := (flat (R.take n)).length
theorem pos_next {R : List (Nat × Nat)} {n : Nat} {p : Nat × Nat} (h : R[n]? = some p) : pos R (n + 1) = pos R n + p.2 := by
  obtain ⟨h1, h2⟩ := List.getElem?_eq_some_iff.1 h
  unfold pos flat
  rw [List.take_succ_eq_append_getElem h1, List.flatMap_append, List.length_append, h2]
  simp
theorem flat_at {R : List (Nat × Nat)} {n k : Nat} {p : Nat × Nat} (h : R[n]? = some p) (hk : k < p.2) : (flat R)[pos R n + k]? = some p.1 := by
  obtain ⟨h1, h2⟩ := List.getElem?_eq_some_iff.1 h
  have e : flat R = flat (R.take n) ++ (List.replicate p.2 p.1 ++ flat (R.drop (n + 1))) := by
    conv => lhs; rw [← List.take_append_drop n R, List.drop_eq_getElem_cons h1, h2]
    unfold flat
    rw [List.flatMap_append, List.flatMap_cons]
  rw [e]
  show (flat (R.take n) ++ _)[(flat (R.take n)).length + k]? = _
  rw [List.getElem?_append_right (Nat.le_add_right _ _), Nat.add_sub_cancel_left, List.getElem?_append_left (by simpa using hk), List.getElem?_replicate, if_pos hk]
theorem pos_end (R : List (Nat × Nat)) {n : Nat} (h : n = R.length) : pos R n = (flat R).length := by
  unfold pos
  rw [h, List.take_length]
end Go.Proofs.Ytmlmgmodgcpkpaa.Um

namespace Go.Proofs.Ytmlmgmodgcpkpaa.Ud
open Go.RowKit Tx Um Aq
set_option linter.unusedVariables false
def Does (a b : List ByteArray) (p q x : Nat) : Prop :=
  (x = 0 ∧ ∃ (hp : p < a.length) (hq : q < b.length), a[p] = b[q]) ∨
  (x = 1 ∧ p < a.length ∧ (q = b.length ∨ ∃ (hp : p < a.length) (hq : q < b.length), a[p] ≠ b[q] ∧ ¬ F a b (p + 1) q < F a b p (q + 1))) ∨
  (x = 2 ∧ q < b.length ∧ (p = a.length ∨ ∃ (hp : p < a.length) (hq : q < b.length), a[p] ≠ b[q] ∧ F a b (p + 1) q < F a b p (q + 1)))
theorem Does.le {a b : List ByteArray} {p q x : Nat} (h : Does a b p q x) : x = 0 ∨ x = 1 ∨ x = 2 := by
  rcases h with ⟨h, _⟩ | ⟨h, _⟩ | ⟨h, _⟩
  · exact .inl h
  · exact .inr (.inl h)
  · exact .inr (.inr h)
def onA (p x : Nat) : Nat := if x = 2 then p else p + 1
def onB (q x : Nat) : Nat := if x = 1 then q else q + 1
theorem St.does {a b : List ByteArray} {pre : List Nat} {p q x : Nat} (h : St a b pre p q) (hx : Does a b p q x) : St a b (pre ++ [x]) (onA p x) (onB q x) := by
  rcases hx with ⟨rfl, hp, hq, he⟩ | ⟨rfl, hp, he⟩ | ⟨rfl, hq, he⟩
  · exact st_keep h hp hq he
  · exact st_drop h hp (he.imp id (fun ⟨_, hq, h1, h2⟩ => ⟨hq, h1, h2⟩))
  · exact st_add h hq (he.imp id (fun ⟨hp, _, h1, h2⟩ => ⟨hp, h1, h2⟩))
set_option maxRecDepth 100000 in
set_option maxHeartbeats 600000 in
theorem next_any (A B : Option Addr) (ca cb g p q B0 : Nat) (r : Nat → Nat) (M a b : List ByteArray) (w : World) (hM : ∀ x, x ∈ a → num M x < M.length) (hm4 : a.length ≤ 400) (hn4 : b.length ≤ 400) (hA : Nums w A (a.map (num M))) (hB : Nums w B (b.map (num M))) (hT : Tab w B0 g r a b 0)
    (hp : p ≤ a.length) (hq : q ≤ b.length) (hpq : p < a.length ∨ q < b.length) :
    Calls Try.prog 18 #[.slice A a.length ca, .slice B b.length cb, .slice (some ⟨g, 0, none⟩) (a.length + 1) (a.length + 1), .agg #[.int .i64 (p : Int), .int .i64 (q : Int)]] w fun e w' => ∃ x : Nat, e = .returned (.int .i64 (x : Int)) ∧ Does a b p q x ∧ Below w.heap.size w w' := by
  by_cases hpm : p < a.length
  · by_cases hqn : q < b.length
    · have HB0 : Below w.heap.size w (w.alloc (.cells #[.int .i64 (p : Int), .int .i64 (q : Int)] 42)) := (Below.refl _ w).alloc (Nat.le_refl _) _
      obtain ⟨ga, rfl, hga, hca⟩ := (hA.below HB0).resolve_left (by rw [List.length_map]; omega)
      obtain ⟨gb, rfl, hgb, hcb⟩ := (hB.below HB0).resolve_left (by rw [List.length_map]; omega)
      have c1 := hca p (num M a[p]) (by rw [List.getElem?_map, List.getElem?_eq_getElem hpm]; rfl)
      have c2 := hcb q (num M b[q]) (by rw [List.getElem?_map, List.getElem?_eq_getElem hqn]; rfl)
      have hiff := num_eq hM (y := b[q]) (List.getElem_mem hpm)
      have hTw := hT.below HB0
      have d1 := hTw.cell (p + 1) (Nat.zero_le _) hpm
      have d2 := hTw.cell p (Nat.zero_le _) (by omega)
      have d3 := hTw.row (p + 1) (Nat.zero_le _) hpm q (by omega)
      have d4 := hTw.row p (Nat.zero_le _) (by omega) (q + 1) hqn
      have hX4 := F_le a b (p + 1) q
      have hY4 := F_le a b p (q + 1)
      by_cases he : a[p] = b[q]
      · have e3 : (((num M a[p] : Nat) : Int) == ((num M b[q] : Nat) : Int)) = true := by rw [he]; exact beq_self_eq_true _
        have HD := Lib.hid (show Does a b p q 0 from .inl ⟨rfl, hpm, hqn, he⟩)
        obtain ⟨X, hX⟩ : ∃ X, X = num M a[p] := ⟨_, rfl⟩
        obtain ⟨Y, hY⟩ : ∃ Y, Y = num M b[q] := ⟨_, rfl⟩
        rw [← hX] at c1 e3
        rw [← hY] at c2 e3
        obtain ⟨m, hm⟩ : ∃ m, m = a.length := ⟨_, rfl⟩
        obtain ⟨n, hn⟩ : ∃ n, n = b.length := ⟨_, rfl⟩
        rw [← hm] at hm4 hpm hp  ⊢
        rw [← hn] at hn4 hqn hq  ⊢
        clear hX hY hiff hTw hX4 hY4 he hca hcb hga hgb hA hB hT hM hpq hm hn d1 d2 d3 d4
        have HBX := Lib.hid HB0
        clear HB0
        have f1 : (p : Int) < (m : Int) := by omega
        have f2 : (q : Int) < (n : Int) := by omega
        go_enter Try.func18, Try.ntmps18
        go_wp2_with fail
        go_region
        go_wp2_with fail
        go_region
        go_wp2_with fail
        go_ret
        exact ⟨0, rfl, HD.out, HBX.out.drew.drew⟩
      · have e3 : (((num M a[p] : Nat) : Int) == ((num M b[q] : Nat) : Int)) = false := beq_eq_false_iff_ne.2 (fun e => he (hiff.1 (by omega)))
        by_cases hlt : F a b (p + 1) q < F a b p (q + 1)
        · have HD := Lib.hid (show Does a b p q 2 from .inr (.inr ⟨rfl, hqn, .inr ⟨hpm, hqn, he, hlt⟩⟩))
          obtain ⟨X, hX⟩ : ∃ X, X = num M a[p] := ⟨_, rfl⟩
          obtain ⟨Y, hY⟩ : ∃ Y, Y = num M b[q] := ⟨_, rfl⟩
          rw [← hX] at c1 e3
          rw [← hY] at c2 e3
          obtain ⟨P, hP⟩ : ∃ P, P = F a b (p + 1) q := ⟨_, rfl⟩
          obtain ⟨Q, hQ⟩ : ∃ Q, Q = F a b p (q + 1) := ⟨_, rfl⟩
          obtain ⟨r1, hr1⟩ : ∃ r1, r1 = r (p + 1) := ⟨_, rfl⟩
          obtain ⟨r2, hr2⟩ : ∃ r2, r2 = r p := ⟨_, rfl⟩
          rw [← hr1] at d1 d3
          rw [← hr2] at d2 d4
          rw [← hP] at d3 hlt hX4
          rw [← hQ] at d4 hlt hY4
          obtain ⟨m, hm⟩ : ∃ m, m = a.length := ⟨_, rfl⟩
          obtain ⟨n, hn⟩ : ∃ n, n = b.length := ⟨_, rfl⟩
          rw [← hm] at hm4 hpm hp hX4 hY4 ⊢
          rw [← hn] at hn4 hqn hq d1 d2 ⊢
          clear hX hY hiff hTw hX4 hY4 he hca hcb hga hgb hA hB hT hM hpq hm hn hP hQ hr1 hr2
          have HBX := Lib.hid HB0
          clear HB0
          have f1 : (p : Int) < (m : Int) := by omega
          have f2 : (q : Int) < (n : Int) := by omega
          have e4 : ((q : Int) == (n : Int)) = false := beq_eq_false_iff_ne.2 (by omega)
          have wq : IntKind.i64.wrap ((q : Int) + 1) = (q : Int) + 1 := IntWalk.i64_in _ (by omega)
          have wp : IntKind.i64.wrap ((p : Int) + 1) = (p : Int) + 1 := IntWalk.i64_in _ (by omega)
          have nq : ((q : Int) + 1).toNat = q + 1 := by omega
          have np : ((p : Int) + 1).toNat = p + 1 := by omega
          have zq : (0 : Int) ≤ (q : Int) + 1 := by omega
          have zp : (0 : Int) ≤ (p : Int) + 1 := by omega
          have g1 : (p : Int) + 1 < (m : Int) + 1 := by omega
          have g2 : (p : Int) < (m : Int) + 1 := by omega
          have g3 : (q : Int) + 1 < (n : Int) + 1 := by omega
          have g4 : (q : Int) < (n : Int) + 1 := by omega
          have g5 : ¬ (Q : Int) ≤ (P : Int) := by omega
          have g6 : (P : Int) < (Q : Int) := by omega
          go_enter Try.func18, Try.ntmps18
          go_wp2_with fail
          go_region
          go_wp2_with fail
          go_region
          go_wp2_with fail
          go_region
          go_wp2_with fail
          go_ret
          exact ⟨2, rfl, HD.out, HBX.out.drew.drew.drew⟩
        · have HD := Lib.hid (show Does a b p q 1 from .inr (.inl ⟨rfl, hpm, .inr ⟨hpm, hqn, he, hlt⟩⟩))
          obtain ⟨X, hX⟩ : ∃ X, X = num M a[p] := ⟨_, rfl⟩
          obtain ⟨Y, hY⟩ : ∃ Y, Y = num M b[q] := ⟨_, rfl⟩
          rw [← hX] at c1 e3
          rw [← hY] at c2 e3
          obtain ⟨P, hP⟩ : ∃ P, P = F a b (p + 1) q := ⟨_, rfl⟩
          obtain ⟨Q, hQ⟩ : ∃ Q, Q = F a b p (q + 1) := ⟨_, rfl⟩
          obtain ⟨r1, hr1⟩ : ∃ r1, r1 = r (p + 1) := ⟨_, rfl⟩
          obtain ⟨r2, hr2⟩ : ∃ r2, r2 = r p := ⟨_, rfl⟩
          rw [← hr1] at d1 d3
          rw [← hr2] at d2 d4
          rw [← hP] at d3 hlt hX4
          rw [← hQ] at d4 hlt hY4
          obtain ⟨m, hm⟩ : ∃ m, m = a.length := ⟨_, rfl⟩
          obtain ⟨n, hn⟩ : ∃ n, n = b.length := ⟨_, rfl⟩
          rw [← hm] at hm4 hpm hp hX4 hY4 ⊢
          rw [← hn] at hn4 hqn hq d1 d2 ⊢
          clear hX hY hiff hTw hX4 hY4 he hca hcb hga hgb hA hB hT hM hpq hm hn hP hQ hr1 hr2
          have HBX := Lib.hid HB0
          clear HB0
          have f1 : (p : Int) < (m : Int) := by omega
          have f2 : (q : Int) < (n : Int) := by omega
          have e4 : ((q : Int) == (n : Int)) = false := beq_eq_false_iff_ne.2 (by omega)
          have wq : IntKind.i64.wrap ((q : Int) + 1) = (q : Int) + 1 := IntWalk.i64_in _ (by omega)
          have wp : IntKind.i64.wrap ((p : Int) + 1) = (p : Int) + 1 := IntWalk.i64_in _ (by omega)
          have nq : ((q : Int) + 1).toNat = q + 1 := by omega
          have np : ((p : Int) + 1).toNat = p + 1 := by omega
          have zq : (0 : Int) ≤ (q : Int) + 1 := by omega
          have zp : (0 : Int) ≤ (p : Int) + 1 := by omega
          have g1 : (p : Int) + 1 < (m : Int) + 1 := by omega
          have g2 : (p : Int) < (m : Int) + 1 := by omega
          have g3 : (q : Int) + 1 < (n : Int) + 1 := by omega
          have g4 : (q : Int) < (n : Int) + 1 := by omega
          have g5 : (Q : Int) ≤ (P : Int) := by omega
          have g6 : ¬ (P : Int) < (Q : Int) := by omega
          go_enter Try.func18, Try.ntmps18
          go_wp2_with fail
          go_region
          go_wp2_with fail
          go_region
          go_wp2_with fail
          go_region
          go_wp2_with fail
          go_ret
          exact ⟨1, rfl, HD.out, HBX.out.drew.drew.drew⟩
    · have hqe : q = b.length := by omega
      have HD := Lib.hid (show Does a b p q 1 from .inr (.inl ⟨rfl, hpm, .inl hqe⟩))
      have HB0 : Below w.heap.size w (w.alloc (.cells #[.int .i64 (p : Int), .int .i64 (q : Int)] 42)) := (Below.refl _ w).alloc (Nat.le_refl _) _
      obtain ⟨m, hm⟩ : ∃ m, m = a.length := ⟨_, rfl⟩
      obtain ⟨n, hn⟩ : ∃ n, n = b.length := ⟨_, rfl⟩
      rw [← hm] at hm4 hpm hp  ⊢
      rw [← hn] at hn4 hqn hq hqe ⊢
      clear hA hB hT hM hpq hm hn
      have HBX := Lib.hid HB0
      clear HB0
      have f1 : (p : Int) < (m : Int) := by omega
      have hqe2 : n ≤ q := by omega
      have e4 : ((q : Int) == (n : Int)) = true := beq_iff_eq.2 (by omega)
      have HQ := Lib.hid hqe
      clear hqe hqn
      go_enter Try.func18, Try.ntmps18
      go_wp2_with fail
      go_region
      go_wp2_with fail
      have f3 : decide ((q : Int) < (n : Int)) = false := decide_eq_false (by omega)
      have f2 : ¬ (q : Int) < (n : Int) := by omega
      go_region
      go_wp2_with fail
      have f3 : decide ((q : Int) < (n : Int)) = false := decide_eq_false (by omega)
      have f2 : ¬ (q : Int) < (n : Int) := by omega
      go_region
      go_wp2_with fail
      go_ret
      exact ⟨1, rfl, HD.out, HBX.out.drew.drew.drew⟩
  · have hpe : p = a.length := by omega
    have hqn : q < b.length := by omega
    have HD := Lib.hid (show Does a b p q 2 from .inr (.inr ⟨rfl, hqn, .inl hpe⟩))
    have HB0 : Below w.heap.size w (w.alloc (.cells #[.int .i64 (p : Int), .int .i64 (q : Int)] 42)) := (Below.refl _ w).alloc (Nat.le_refl _) _
    obtain ⟨m, hm⟩ : ∃ m, m = a.length := ⟨_, rfl⟩
    obtain ⟨n, hn⟩ : ∃ n, n = b.length := ⟨_, rfl⟩
    rw [← hm] at hm4 hpm hp hpe ⊢
    rw [← hn] at hn4 hqn hq  ⊢
    clear hA hB hT hM hpq hm hn
    have HBX := Lib.hid HB0
    clear HB0
    have hpe2 : m ≤ p := by omega
    have f2 : (q : Int) < (n : Int) := by omega
    have e4 : ((q : Int) == (n : Int)) = false := beq_eq_false_iff_ne.2 (by omega)
    have HQ := Lib.hid hpe
    clear hpe hpm
    go_enter Try.func18, Try.ntmps18
    go_wp2_with fail
    go_region
    go_wp2_with fail
    have f3 : decide ((p : Int) < (m : Int)) = false := decide_eq_false (by omega)
    have f1 : ¬ (p : Int) < (m : Int) := by omega
    go_region
    go_wp2_with fail
    have f3 : decide ((p : Int) < (m : Int)) = false := decide_eq_false (by omega)
    have f1 : ¬ (p : Int) < (m : Int) := by omega
    go_region
    go_wp2_with fail
    go_ret
    exact ⟨2, rfl, HD.out, HBX.out.drew.drew.drew⟩
end Go.Proofs.Ytmlmgmodgcpkpaa.Ud

namespace Go.Proofs.Ytmlmgmodgcpkpaa.Ud
open Go.RowKit Go.ChangeShapes Go.WideShapes Tx Um Aq
set_option linter.unusedVariables false
theorem heap_new2 (w : World) (o1 o2 : Obj) : ((w.alloc o1).alloc o2).heap[w.heap.size + 1]? = some o2 := by
  have := heap_alloc_new (w.alloc o1) o2
  simpa using this
theorem infoPair2 : (Try.prog.info? 42).map (·.size) = some 2 := by kernel_rfl
set_option maxRecDepth 100000 in
set_option maxHeartbeats 600000 in
theorem behind_any (p q x : Nat) (w : World) (hx : x = 0 ∨ x = 1 ∨ x = 2) (hp : p ≤ 1000) (hq : q ≤ 1000) :
    Calls Try.prog 20 #[.agg #[.int .i64 (p : Int), .int .i64 (q : Int)], .int .i64 (x : Int)] w fun e w' => e = .returned (.agg #[.int .i64 (onA p x : Nat), .int .i64 (onB q x : Nat)]) ∧ Below w.heap.size w w' := by
  rcases hx with rfl | rfl | rfl
  all_goals
    go_enter Try.func20, Try.ntmps20
    go_wp2_with fail
    refine bodyPost_ret (results_cell_row rfl _ _ _ _ _ _ _ rfl (heap_new2 _ _ _) Try.underlying42 rfl infoPair2) rfl ?_
    exact ⟨rfl, ((Below.refl _ w).alloc (Nat.le_refl _) _).alloc (by simp) _⟩
def bump : List (Nat × Nat) → Nat → List (Nat × Nat)
  | [], x => [(x, 1)]
  | [(y, n)], x => if y = x then [(y, n + 1)] else [(y, n), (x, 1)]
  | p :: q :: r, x => p :: bump (q :: r) x
theorem bump_last (l : List (Nat × Nat)) (y n x : Nat) : bump (l ++ [(y, n)]) x = if y = x then l ++ [(y, n + 1)] else l ++ [(y, n)] ++ [(x, 1)] := by
  induction l with
  | nil => rfl
  | cons p l ih =>
    cases l with
    | nil =>
      show p :: bump [(y, n)] x = _
      have e : bump [(y, n)] x = if y = x then [(y, n + 1)] else [(y, n), (x, 1)] := rfl
      rw [e]
      split <;> rfl
    | cons q r =>
      have e : bump (p :: q :: r ++ [(y, n)]) x = p :: bump (q :: r ++ [(y, n)]) x := rfl
      rw [e, ih]
      split <;> rfl
theorem bump_runs (s : List Nat) (x : Nat) : runs (s ++ [x]) = bump (runs s) x := by
  induction s with
  | nil => rfl
  | cons y s ih =>
    rw [List.cons_append, runs_cons, runs_cons, ih]
    cases hr : runs s with
    | nil =>
      have e1 : bump [] x = [(x, 1)] := rfl
      have e2 : bump [(y, 1)] x = if y = x then [(y, 1 + 1)] else [(y, 1), (x, 1)] := rfl
      simp only [e1, e2]
      by_cases e : y = x
      · rw [if_pos e, if_pos e, e]
      · rw [if_neg e, if_neg e]
    | cons p r =>
      obtain ⟨z, n⟩ := p
      cases r with
      | nil =>
        have e0 : bump [(z, n)] x = if z = x then [(z, n + 1)] else [(z, n), (x, 1)] := rfl
        have e3 : bump [(z, n + 1)] x = if z = x then [(z, n + 1 + 1)] else [(z, n + 1), (x, 1)] := rfl
        have e4 : bump [(y, 1), (z, n)] x = (y, 1) :: (if z = x then [(z, n + 1)] else [(z, n), (x, 1)]) := rfl
        rw [e0]
        by_cases e1 : z = x
        · by_cases e2 : y = z
          · simp only [if_pos e1, if_pos e2, e3]
          · simp only [if_pos e1, if_neg e2, e4]
        · by_cases e2 : y = z
          · simp only [if_neg e1, if_pos e2, e3]
          · simp only [if_neg e1, if_neg e2, e4]
      | cons q r =>
        have e0 : bump ((z, n) :: q :: r) x = (z, n) :: bump (q :: r) x := rfl
        have e3 : bump ((z, n + 1) :: q :: r) x = (z, n + 1) :: bump (q :: r) x := rfl
        have e4 : bump ((y, 1) :: (z, n) :: q :: r) x = (y, 1) :: (z, n) :: bump (q :: r) x := rfl
        rw [e0]
        by_cases e2 : y = z
        · simp only [if_pos e2, e3]
        · simp only [if_neg e2, e4]
theorem flat2_set (l : List (Nat × Nat)) (y n c : Nat) : ((l ++ [(y, n)]).flatMap c2).set (l.length * 2 + 1) (.int .i64 (c : Int)) = (l ++ [(y, c)]).flatMap c2 := by
  have h := flat2_len l
  rw [List.flatMap_append, List.flatMap_append, List.set_append_right _ _ (by omega), show l.length * 2 + 1 - (l.flatMap c2).length = 1 by omega]
  rfl
theorem own_put2 {w : World} {base g n cap size : Nat} {e : TypeId} {xs : List Value} (h : w.ownsRow base e size (.slice (some ⟨g, 0, none⟩) n cap) n xs) (k : Nat) (u : Value) :
    (w.setCell ⟨g, k, none⟩ u).ownsRow base e size (.slice (some ⟨g, 0, none⟩) n cap) n (xs.set k u) := by
  refine ⟨by rw [List.length_set]; exact h.1, ?_⟩
  rcases h.2 with ⟨h0, _⟩ | ⟨g', cap', cur, hv, hb, hh, hn, hc, hs, ht⟩
  · cases h0
  · injection hv with hg _ hcap
    injection hg with hg
    injection hg with hg
    subst hg
    subst hcap
    refine .inr ⟨g, cap, cur.setIfInBounds k u, rfl, hb, ?_, hn, hc, by simpa using hs, ?_⟩
    · simp [World.setCell, Array.getElem?_modify, hh]
    · rw [Array.toList_setIfInBounds, List.take_set, ht]
set_option maxRecDepth 100000 in
set_option maxHeartbeats 1000000 in
theorem longer_any (B : Nat) (v : Value) (l : List (Nat × Nat)) (x : Nat) (w : World) (hv : Prs 37 w B v l) (hx : x ≤ 2) (hl : l.length ≤ 1000) (hn : ∀ p, p ∈ l → p.1 ≤ 2 ∧ p.2 ≤ 1000) (hB : B ≤ w.heap.size) :
    Calls Try.prog 19 #[v, .int .i64 (x : Int)] w fun e w' => ∃ v', e = .returned v' ∧ Prs 37 w' B v' (bump l x) ∧ Below B w w' := by
  obtain ⟨iE, hI, hI0, hI1, hI2⟩ := info_parts infoEdit
  rcases List.eq_nil_or_concat l with rfl | ⟨pre, ⟨y, n⟩, rfl⟩
  · have hown : w.ownsRow B 37 2 v 0 [] := hv
    obtain ⟨a, c, rfl, _⟩ := hv.form
    have hBB : Below B w (w.alloc (.cells #[.int .i64 (x : Int), .int .i64 1] 37)) := (Below.refl _ w).alloc hB _
    clear hv hn
    go_enter Try.func19, Try.ntmps19
    go_wp2_with (at_builtin; refine wpList_append_own _ rfl _ _ 23 rfl B 37 iE (.agg #[.int .i64 0, .int .i64 0]) 2 16 Try.underlying23 hI hI0 hI1 hI2 rfl (by decide) _ _ _ rfl (hown.alloc _) ⟨w.heap.size, 0, none⟩ 1 1 (c2 (x, 1)) rfl rfl ?c1 ?c2 ?c3 ?c4 ?c5 ?_)
    case c1 => exact cell_two_new _ _ _ _
    case c2 => exact c2_one (x, 1)
    case c3 => unfold maxLen; omega
    case c4 => omega
    case c5 => simp; omega
    intro v' w2 hown' hgrow _
    have hb3 : Below B w w2 := hBB.grown hgrow (by simp; omega) (fun k hk => (hown.lt k hk).1)
    go_wp2_with fail
    go_ret
    exact ⟨_, rfl, hown', hb3⟩
  · rw [List.concat_eq_append] at hv hl hn ⊢
    obtain ⟨R, hR⟩ : ∃ R, R = bump (pre ++ [(y, n)]) x := ⟨_, rfl⟩
    rw [← hR]
    rw [bump_last] at hR
    obtain ⟨hn1, hn2⟩ := hn (y, n) (by simp)
    have hown : w.ownsRow B 37 2 v (pre ++ [(y, n)]).length ((pre ++ [(y, n)]).flatMap c2) := hv
    have hlen : (pre ++ [(y, n)]).length = pre.length + 1 := by simp
    have hsl : (pre ++ [(y, n)])[pre.length]? = some (y, n) := by rw [List.getElem?_append_right (Nat.le_refl _), Nat.sub_self]; rfl
    obtain ⟨k1, k2⟩ := flat2_get _ _ _ hsl
    rcases hown.2 with ⟨_, h0⟩ | ⟨g, cap, cur, rfl, hg, hh, hnc, hcc, _⟩
    · rw [hlen] at h0; cases h0
    have d1 : w.cell? ⟨g, pre.length * 2, none⟩ = some (.int .i64 (y : Int)) := by
      have := hown.cells (g := g) rfl _ _ k1
      rwa [WideShapes.add_plain, Nat.zero_add] at this
    have d2 : w.cell? ⟨g, pre.length * 2 + 1, none⟩ = some (.int .i64 (n : Int)) := by
      have := hown.cells (g := g) rfl _ _ k2
      rwa [WideShapes.add_plain, Nat.zero_add] at this
    have hfz : w.frozen? ⟨g, pre.length * 2 + 1, none⟩ = false := by simp [World.frozen?, hh]
    have hput := own_put2 hown (pre.length * 2 + 1) (.int .i64 ((n + 1 : Nat) : Int))
    simp only at hn1 hn2
    rw [flat2_set] at hput
    rw [hlen] at hown hput hnc hl ⊢
    obtain ⟨k, hk⟩ : ∃ k, k = pre.length := ⟨_, rfl⟩
    rw [← hk] at d1 d2 hfz hown hput hnc hl ⊢
    have HK := Lib.hid hk
    have wk : IntKind.i64.wrap (((k + 1 : Nat) : Int) - 1) = (k : Int) := (IntWalk.i64_in _ (by omega)).trans (by omega)
    have f1 : ¬ (k : Int) < 0 := by omega
    have f2 : (k : Int) < ((k + 1 : Nat) : Int) := by omega
    have wn : IntKind.i64.wrap ((n : Int) + 1) = (n : Int) + 1 := IntWalk.i64_in _ (by omega)
    rw [show ((n + 1 : Nat) : Int) = (n : Int) + 1 by omega] at hput
    by_cases hyx : y = x
    · have e3 : ((y : Int) == (x : Int)) = true := by rw [hyx]; exact beq_self_eq_true _
      have HE : Hid (Prs 37 (w.setCell ⟨g, pre.length * 2 + 1, none⟩ (.int .i64 ((n : Int) + 1))) B (.slice (some ⟨g, 0, none⟩) (k + 1) cap) R ∧ Below B w (w.setCell ⟨g, pre.length * 2 + 1, none⟩ (.int .i64 ((n : Int) + 1)))) := by
        show _ ∧ _
        rw [hR, if_pos hyx]
        refine ⟨?_, (Below.refl _ w).setCell (p := ⟨g, _, none⟩) hg _⟩
        unfold Prs
        rw [List.length_append, ← hk]
        exact hput
      rw [← hk] at HE
      clear hyx hput hown hh hk hR
      go_enter Try.func19, Try.ntmps19
      go_wp2_with fail
      go_ret
      exact ⟨_, rfl, HE.out⟩
    · have e3 : ((y : Int) == (x : Int)) = false := beq_eq_false_iff_ne.2 (by omega)
      have hBB : Below B w (w.alloc (.cells #[.int .i64 (x : Int), .int .i64 1] 37)) := (Below.refl _ w).alloc hB _
      have HI : Hid (R = pre ++ [(y, n)] ++ [(x, 1)]) := hR.trans (if_neg hyx)
      have e4 : (y == x) = false := beq_eq_false_iff_ne.2 hyx
      have e5 : decide (y = x) = false := decide_eq_false hyx
      clear hput hh hk hR d2 hfz
      go_enter Try.func19, Try.ntmps19
      go_wp2_with (at_builtin; refine wpList_append_own _ rfl _ _ 23 rfl B 37 iE (.agg #[.int .i64 0, .int .i64 0]) 2 16 Try.underlying23 hI hI0 hI1 hI2 rfl (by decide) _ _ _ rfl (hown.alloc _) ⟨w.heap.size, 0, none⟩ 1 1 (c2 (x, 1)) rfl rfl ?c1 ?c2 ?c3 ?c4 ?c5 ?_)
      case c1 => exact fun j u h => h
      case c2 => exact c2_one (x, 1)
      case c3 => unfold maxLen; omega
      case c4 => omega
      case c5 => omega
      intro v' w2 hown' hgrow _
      have hb3 : Below B w w2 := hBB.grown hgrow (by simp; omega) (fun k hk => (hown.lt k hk).1)
      have hpr : Prs 37 w2 B v' (pre ++ [(y, n)] ++ [(x, 1)]) := by
        unfold Prs
        have e : ((pre ++ [(y, n)] ++ [(x, 1)]).flatMap c2) = pre.flatMap c2 ++ (c2 (y, n) ++ c2 (x, 1)) := by simp
        have hll : (pre ++ [(y, n)] ++ [(x, 1)]).length = k + 1 + 1 := by
          have := HK.out
          simp
          omega
        rw [e, hll]
        exact hown'
      go_wp2_with fail
      go_ret
      rw [HI.out]
      exact ⟨_, rfl, hpr, hb3⟩
end Go.Proofs.Ytmlmgmodgcpkpaa.Ud

namespace Go.Proofs.Ytmlmgmodgcpkpaa.Ud
open Go.RowKit Go.ChangeShapes Go.WideShapes Tx Um Aq
set_option linter.unusedVariables false
structure Kp (pa B : Nat) (w w' : World) : Prop where
  os : w'.os = w.os
  tape : w'.tape = w.tape
  output : w'.output = w.output
  size : w.heap.size ≤ w'.heap.size
  block : ∀ i, i < B → i ≠ pa → w'.heap[i]? = w.heap[i]?
theorem Kp.refl (pa B : Nat) (w : World) : Kp pa B w w := ⟨rfl, rfl, rfl, Nat.le_refl _, fun _ _ _ => rfl⟩
theorem Kp.below {pa B B2 : Nat} {a b c : World} (h : Kp pa B a b) (k : Below B2 b c) (hB : B ≤ B2) : Kp pa B a c :=
  ⟨k.os.trans h.os, k.tape.trans h.tape, k.output.trans h.output, Nat.le_trans h.size k.size, fun i hi hne => (k.block i (Nat.lt_of_lt_of_le hi hB)).trans (h.block i hi hne)⟩
theorem Kp.put {pa B o : Nat} {a b : World} (h : Kp pa B a b) (u : Value) : Kp pa B a (b.setCell ⟨pa, o, none⟩ u) :=
  ⟨h.os, h.tape, h.output, by simpa [World.setCell] using h.size, fun i hi hne => (Below.heap_setCell b ⟨pa, o, none⟩ u i hne).trans (h.block i hi hne)⟩
theorem Kp.all {pa B B2 : Nat} {a b : World} (h : Kp pa B a b) (h1 : B2 ≤ B) (h2 : B2 ≤ pa) : Below B2 a b := ⟨h.os, h.tape, h.output, h.size, fun i hi => h.block i (by omega) (by omega)⟩
theorem Kp.drew {pa B : Nat} {a b : World} (h : Kp pa B a b) : Kp pa B a b.drew := ⟨h.os, h.tape, h.output, h.size, h.block⟩
theorem Kp.drewN {pa B : Nat} {a b : World} (h : Kp pa B a b) (n : Nat) : Kp pa B a (b.drewN n) := ⟨h.os, h.tape, h.output, h.size, h.block⟩
def rd (w : World) (a : Addr) : Nat := match w.cell? a with
  | some (.int _ k) => k.toNat
  | _ => 0
theorem rd_eq {w : World} {a : Addr} {k : IntKind} {n : Nat} (h : w.cell? a = some (.int k (n : Int))) : rd w a = n := by
  unfold rd
  rw [h]
  rfl
def Two (w : World) (pa p q : Nat) : Prop := w.heap[pa]? = some (.cells #[.int .i64 (p : Int), .int .i64 (q : Int)] 42 (0, 0))
theorem Two.cell {w : World} {pa p q : Nat} (h : Two w pa p q) : w.cell? ⟨pa, 0, none⟩ = some (.int .i64 (p : Int)) ∧ w.cell? ⟨pa, 1, none⟩ = some (.int .i64 (q : Int)) := by
  unfold World.cell?
  unfold Two at h
  simp [h]
theorem Two.frozen {w : World} {pa p q : Nat} (h : Two w pa p q) (k : Nat) : w.frozen? ⟨pa, k, none⟩ = false := by
  unfold Two at h
  simp [World.frozen?, h]
theorem Two.kept {w w1 : World} {pa p q : Nat} (h : Two w pa p q) (hk : w1.heap[pa]? = w.heap[pa]?) : Two w1 pa p q := hk.trans h
theorem Two.put {w : World} {pa p q : Nat} (h : Two w pa p q) (p' q' : Nat) : Two ((w.setCell ⟨pa, 0, none⟩ (.int .i64 (p' : Int))).setCell ⟨pa, 1, none⟩ (.int .i64 (q' : Int))) pa p' q' := by
  unfold Two at h ⊢
  simp [World.setCell, Array.getElem?_modify, h]
theorem Two.lt {w : World} {pa p q : Nat} (h : Two w pa p q) : pa < w.heap.size := (Array.getElem?_eq_some_iff.1 h).1
theorem runs_le (s : List Nat) : ∀ x, x ∈ runs s → x.1 ∈ s ∧ x.2 ≤ s.length := by
  induction s with
  | nil => intro x hx; cases hx
  | cons y s ih =>
    intro x hx
    rw [runs_cons] at hx
    cases hr : runs s with
    | nil =>
      rw [hr] at hx
      obtain rfl := List.mem_singleton.1 hx
      exact ⟨by simp, by simp⟩
    | cons p r =>
      obtain ⟨z, n⟩ := p
      rw [hr] at hx ih
      have hz := ih (z, n) (by simp)
      simp only at hx hz
      by_cases e : y = z
      · rw [if_pos e] at hx
        rcases List.mem_cons.1 hx with rfl | hx
        · exact ⟨by simp [e], by simp; omega⟩
        · obtain ⟨h1, h2⟩ := ih x (by simp [hx])
          exact ⟨by simp [h1], by simp; omega⟩
      · rw [if_neg e] at hx
        rcases List.mem_cons.1 hx with rfl | hx
        · exact ⟨by simp, by simp⟩
        · obtain ⟨h1, h2⟩ := ih x hx
          exact ⟨by simp [h1], by simp; omega⟩
theorem St.small {a b : List ByteArray} {pre : List Nat} {i j : Nat} (h : St a b pre i j) (ha : a.length ≤ 400) (hb : b.length ≤ 400) : (runs pre).length ≤ 1000 ∧ ∀ x, x ∈ runs pre → x.1 ≤ 2 ∧ x.2 ≤ 1000 := by
  obtain ⟨h1, h2, h3, h4⟩ := h
  have hl := runs_len pre
  refine ⟨by omega, fun x hx => ?_⟩
  obtain ⟨h5, h6⟩ := runs_le pre x hx
  have := (makes a b).le x.1 (by rw [h3]; simp [h5])
  omega
theorem Prs.far {E : TypeId} {w : World} {B pa : Nat} {v : Value} {l : List (Nat × Nat)} (h : Prs E w B v l) (hp : pa < B) (o : Nat) (u : Value) : Prs E (w.setCell ⟨pa, o, none⟩ u) B v l := by
  have hg : w.grownBy (w.setCell ⟨pa, o, none⟩ u) (some pa) := ⟨rfl, rfl, rfl, by simp [World.setCell], fun j _ hj => Below.heap_setCell w ⟨pa, o, none⟩ u j (fun e => hj (by rw [e]))⟩
  exact World.ownsRow.kept h hg (.inr (fun e => by have := (World.ownsRow.lt h pa e).1; omega))
theorem on_more {p q x : Nat} (hx : x = 0 ∨ x = 1 ∨ x = 2) : p + q < onA p x + onB q x := by
  unfold onA onB
  rcases hx with rfl | rfl | rfl <;> simp <;> omega
set_option maxRecDepth 100000 in
set_option maxHeartbeats 2000000 in
theorem script_any (A B : Option Addr) (ca cb : Nat) (a b : List ByteArray) (w : World) (hA : Strs w A a.length a) (hB : Strs w B b.length b) (ha : ∀ x, x ∈ a → x.size ≤ maxLen) (hb : ∀ x, x ∈ b → x.size ≤ maxLen) :
    Calls Try.prog 7 #[.slice A a.length ca, .slice B b.length cb] w (PrsTo 37 (scr a b) (err a b) w) := by
  by_cases hm : 400 < a.length
  · have e1 : (400 : Int) < (a.length : Int) := by omega
    have HE : Hid (scr a b = [] ∧ err a b = 4) := by
      show _ ∧ _
      unfold scr err lng
      rw [decide_eq_true hm]
      exact ⟨rfl, rfl⟩
    clear ha hb hA hB
    go_enter Try.func7, Try.ntmps7
    go_wp2_with fail
    go_ret2
    unfold PrsTo
    rw [HE.out.1, HE.out.2]
    exact ⟨_, rfl, World.ownsRow_nil _ _ _ _, Below.refl _ _⟩
  · have e1 : ¬ (400 : Int) < (a.length : Int) := by omega
    by_cases hn : 400 < b.length
    · have e2 : (400 : Int) < (b.length : Int) := by omega
      have HE : Hid (scr a b = [] ∧ err a b = 4) := by
        show _ ∧ _
        unfold scr err lng
        rw [decide_eq_true hn, Bool.or_true]
        exact ⟨rfl, rfl⟩
      clear ha hb hA hB
      go_enter Try.func7, Try.ntmps7
      go_wp2_with fail
      go_ret2
      unfold PrsTo
      rw [HE.out.1, HE.out.2]
      exact ⟨_, rfl, World.ownsRow_nil _ _ _ _, Below.refl _ _⟩
    · have e2 : ¬ (400 : Int) < (b.length : Int) := by omega
      have HE : Hid (scr a b = runs (steps a b) ∧ err a b = 0) := by
        show _ ∧ _
        unfold scr err lng
        rw [decide_eq_false hm, decide_eq_false hn]
        exact ⟨rfl, rfl⟩
      have hm4 : a.length ≤ 400 := by omega
      have hn4 : b.length ≤ 400 := by omega
      have cN := numbered_any A B ca cb a b w hA hB ha hb hm4 hn4
      unfold NumbTo at cN
      clear hA hB ha hb hm hn
      obtain ⟨m, hmm⟩ : ∃ m, m = a.length := ⟨_, rfl⟩
      obtain ⟨n, hnn⟩ : ∃ n, n = b.length := ⟨_, rfl⟩
      rw [← hmm] at e1 cN hm4 ⊢
      rw [← hnn] at e2 cN hn4 ⊢
      have HM := Lib.hid hmm
      have HN := Lib.hid hnn
      clear hmm hnn
      go_enter Try.func7, Try.ntmps7
      go_wp2_with fail
      go_at_call 16
      refine cN.mono ?_
      rintro e w1 ⟨M, va, vb, rfl, hva, hvb, hM, hb1⟩
      obtain ⟨ada, cca, rfl, hca⟩ := ints_cell hva
      obtain ⟨adb, ccb, rfl, hcb⟩ := ints_cell hvb
      have hnA : Nums w1 ada (a.map (num M)) := hca
      have hnB : Nums w1 adb (b.map (num M)) := hcb
      have cL := fun c1 c2 => lengths_any ada adb c1 c2 M a b w1 hM (by rw [← HM.out]; omega) (by rw [← HN.out]; omega) hnA hnB
      unfold TableTo at cL
      rw [List.length_map, ← HM.out]
      rw [List.length_map, ← HN.out]
      rw [← HM.out, ← HN.out] at cL
      have HNA := Lib.hid hnA
      have HNB := Lib.hid hnB
      have HMM := Lib.hid hM
      have HB1 := Lib.hid hb1
      clear hva hvb hM hb1 hca hcb hnA hnB cN
      go_wp2_with fail
      go_at_call 17
      refine (cL _ _).mono ?_
      rintro e w2 ⟨g, r, rfl, hT, hb2⟩
      have HT := Lib.hid hT
      have HB2 := Lib.hid hb2
      clear hT hb2 cL
      have hTw : Two ((w2.alloc (.cells #[.int .i64 0, .int .i64 0] 42)).alloc (.cells #[.int .i64 (m : Int), .int .i64 (n : Int)] 42)) w2.heap.size 0 0 := by
        unfold Two
        rw [Below.heap_alloc _ _ _ (by simp)]
        exact heap_alloc_new _ _
      have hTe : Two ((w2.alloc (.cells #[.int .i64 0, .int .i64 0] 42)).alloc (.cells #[.int .i64 (m : Int), .int .i64 (n : Int)] 42)) (w2.heap.size + 1) m n := heap_new2 _ _ _
      have hb3 : Below w2.heap.size w2 ((w2.alloc (.cells #[.int .i64 0, .int .i64 0] 42)).alloc (.cells #[.int .i64 (m : Int), .int .i64 (n : Int)] 42)) := ((Below.refl _ w2).alloc (Nat.le_refl _) _).alloc (by simp) _
      have hs3 : ((w2.alloc (.cells #[.int .i64 0, .int .i64 0] 42)).alloc (.cells #[.int .i64 (m : Int), .int .i64 (n : Int)] 42)).heap.size = w2.heap.size + 2 := by simp
      go_wp2_with fail
      generalize (w2.alloc (.cells #[.int .i64 0, .int .i64 0] 42)).alloc (.cells #[.int .i64 (m : Int), .int .i64 (n : Int)] 42) = w3 at hTw hTe hb3 hs3 ⊢
      have HNA3 := Lib.hid ((HNA.out.below HB2.out).below hb3)
      have HNB3 := Lib.hid ((HNB.out.below HB2.out).below hb3)
      have HT3 := Lib.hid (HT.out.below hb3)
      have HB3 : Hid (Below w.heap.size w w3) := (HB1.out.trans (HB2.out.mono HB1.out.size)).trans (hb3.mono (Nat.le_trans HB1.out.size HB2.out.size))
      have HAA : Hid (∀ i o, (a.map (num M)).length ≠ 0 → ada = some ⟨i, o, none⟩ → i < w2.heap.size) := fun i o h0 h1 => Nat.lt_of_lt_of_le (HNA.out.lt h0 h1) HB2.out.size
      have HAB : Hid (∀ i o, (b.map (num M)).length ≠ 0 → adb = some ⟨i, o, none⟩ → i < w2.heap.size) := fun i o h0 h1 => Nat.lt_of_lt_of_le (HNB.out.lt h0 h1) HB2.out.size
      have HAT : Hid (g < w2.heap.size ∧ ∀ k, k ≤ a.length → r k < w2.heap.size) := ⟨HT.out.glt.2, fun k hk => (HT.out.apart k (Nat.zero_le _) hk).2⟩
      have hww2 : w.heap.size ≤ w2.heap.size := Nat.le_trans HB1.out.size HB2.out.size
      obtain ⟨pa, hpa⟩ : ∃ pa, pa = w2.heap.size := ⟨_, rfl⟩
      rw [← hpa] at hTw hTe hs3 HAA HAB HAT hww2 ⊢
      have HTE := Lib.hid hTe
      have HTW := Lib.hid hTw
      have HST := Lib.hid (st_start a b)
      clear hb3 HNA HNB HT HB1 HB2 hpa hTe hTw
      go_loopw [9, 12] (fun v _ wr => ∃ (pre : List Nat) (p q : Nat), Hid (St a b pre p q) ∧ Prs 37 wr (pa + 2) v (runs pre) ∧ Hid (Kp pa (pa + 2) w3 wr) ∧ Hid (Two wr pa p q)) (fun _ _ wr => m + n - rd wr ⟨pa, 0, none⟩ - rd wr ⟨pa, 1, none⟩)
      case atStart => exact ⟨[], 0, 0, HST, World.ownsRow_nil _ _ _ _, Kp.refl _ _ _, HTW⟩
      case round =>
        obtain ⟨pre, p, q, HS, hpr, HK, HTWO⟩ := hrel
        clear HST HTW
        have hp := HS.out.1
        have hq := HS.out.2.1
        rw [← HM.out] at hp
        rw [← HN.out] at hq
        obtain ⟨c0, c1⟩ := HTWO.out.cell
        have HRD : Hid (rd wr ⟨pa, 0, none⟩ = p ∧ rd wr ⟨pa, 1, none⟩ = q) := ⟨rd_eq c0, rd_eq c1⟩
        have hTe := HTE.out.kept (HK.out.block (pa + 1) (by omega) (by omega))
        obtain ⟨d0, d1⟩ := hTe.cell
        have hgE := guardPr
        have hQ := run_neq_pair
        have hszr := HK.out.size
        by_cases hend : p = m ∧ q = n
        · obtain ⟨hpe, hqe⟩ := hend
          have e3 : ((p : Int) == (m : Int)) = true := beq_iff_eq.2 (by omega)
          have e4 : ((q : Int) == (n : Int)) = true := beq_iff_eq.2 (by omega)
          have HR : Hid (PrsTo 37 (scr a b) (err a b) w (.returned (.tuple #[u9, .int .i64 0])) wr) := by
            show PrsTo _ _ _ _ _ _
            rw [HE.out.1, HE.out.2, st_end HS.out (by rw [← HM.out]; exact hpe) (by rw [← HN.out]; exact hqe)]
            exact ⟨_, rfl, own_base hpr (by omega), HB3.out.trans (HK.out.all (by omega) hww2)⟩
          clear hTe hpe hqe hpr
          go_wp2_with fail
          go_ret2
          exact HR.out
        · have e5 : (((p : Int) == (m : Int)) && ((q : Int) == (n : Int))) = false := by
            by_cases h1 : p = m
            · have h2 : ((q : Int) == (n : Int)) = false := beq_eq_false_iff_ne.2 (by omega)
              rw [h2, Bool.and_false]
            · have h2 : ((p : Int) == (m : Int)) = false := beq_eq_false_iff_ne.2 (by omega)
              rw [h2, Bool.false_and]
          have hQ2 : (Op.equalIn 10000 42 (.agg #[.int .i64 (p : Int), .int .i64 (q : Int)]) (.agg #[.int .i64 (m : Int), .int .i64 (n : Int)])).run Try.prog wr = .ok false wr := by rw [run_eql_pair, e5]
          have hAr := HNA3.out.kept (w1 := wr) (fun i h0 h1 => HK.out.block i (by have := HAA.out i 0 h0 h1; omega) (by have := HAA.out i 0 h0 h1; omega)) hszr
          have hBr := HNB3.out.kept (w1 := wr) (fun i h0 h1 => HK.out.block i (by have := HAB.out i 0 h0 h1; omega) (by have := HAB.out i 0 h0 h1; omega)) hszr
          have hTr := HT3.out.kept (w1 := wr) (HK.out.block g (by have := HAT.out.1; omega) (by have := HAT.out.1; omega)) (fun k _ hk => HK.out.block (r k) (by have := HAT.out.2 k hk; omega) (by have := HAT.out.2 k hk; omega)) hszr
          have cx := fun c1 c2 => next_any ada adb c1 c2 g p q _ r M a b wr HMM.out (by rw [← HM.out]; exact hm4) (by rw [← HN.out]; exact hn4) hAr hBr hTr (by rw [← HM.out]; exact hp) (by rw [← HN.out]; exact hq) (by rw [← HM.out, ← HN.out]; omega)
          rw [← HM.out, ← HN.out] at cx
          have hm5 := hm4
          have hn5 := hn4
          rw [HM.out] at hm5
          rw [HN.out] at hn5
          obtain ⟨hl1, hl2⟩ := HS.out.small hm5 hn5
          have HL1 := Lib.hid hl1
          have HL2 := Lib.hid hl2
          have CX := Lib.hid cx
          clear hQ e5 hAr hBr hTr hl1 hl2 hm5 hn5 hTe cx
          go_wp2_with fail
          go_at_call 18
          refine (CX.out _ _).mono ?_
          rintro e w5 ⟨x, rfl, hd, hb5⟩
          have hx2 := hd.le
          have hpr5 : Prs 37 w5 (pa + 2) u9 (runs pre) := hpr.below hb5
          have HS2 := Lib.hid (HS.out.does hd)
          have HK5 := Lib.hid (HK.out.below hb5 (by omega))
          have HT5 := Lib.hid (HTWO.out.kept (hb5.block pa HTWO.out.lt))
          have hsz5 := HK5.out.size
          have cl := longer_any (pa + 2) u9 (runs pre) x w5 hpr5 (by omega) HL1.out HL2.out (by omega)
          rw [← bump_runs] at cl
          have CL := Lib.hid cl
          clear hpr hpr5 HK HTWO HS hb5 hd cl c0 c1 d0 d1 hQ2 CX HL1 HL2
          go_wp2_with fail
          go_at_call 19
          refine CL.out.mono ?_
          rintro e w6 ⟨v6, rfl, hpr6, hb6⟩
          have HK6 := Lib.hid (HK5.out.below hb6 (Nat.le_refl _))
          have HT6 := Lib.hid (HT5.out.kept (hb6.block pa (by omega)))
          obtain ⟨c0, c1⟩ := HT6.out.cell
          have CB := Lib.hid (behind_any p q x w6 hx2 (by omega) (by omega))
          have HP6 := Lib.hid hpr6
          clear HK5 HT5 hb6 CL hpr6
          go_wp2_with fail
          go_at_call 20
          refine CB.out.mono ?_
          rintro e w7 ⟨rfl, hb7⟩
          have HT7 := Lib.hid (HT6.out.kept (hb7.block pa HT6.out.lt))
          have HK7 := Lib.hid (HK6.out.below hb7 (by have := HK6.out.size; omega))
          have hp7 := HP6.out.below hb7
          obtain ⟨c0, c1⟩ := HT7.out.cell
          have f0 := HT7.out.frozen 0
          have f1 := HT7.out.frozen 1
          have HS7 := HS2.out.1
          have HS8 := HS2.out.2.1
          rw [← HM.out] at HS7
          rw [← HN.out] at HS8
          have hmore := on_more (p := p) (q := q) hx2
          have HP8 := Lib.hid ((hp7.far (by omega : pa < pa + 2) 0 (.int .i64 (onA p x : Nat))).far (by omega : pa < pa + 2) 1 (.int .i64 (onB q x : Nat)))
          have HK8 := Lib.hid ((HK7.out.put (o := 0) (.int .i64 (onA p x : Nat))).put (o := 1) (.int .i64 (onB q x : Nat)))
          have HT8 := Lib.hid (HT7.out.put (onA p x) (onB q x))
          obtain ⟨p', hp'⟩ : ∃ p', p' = onA p x := ⟨_, rfl⟩
          obtain ⟨q', hq'⟩ : ∃ q', q' = onB q x := ⟨_, rfl⟩
          rw [← hp'] at HS2 HS7 hmore HP8 HK8 HT8 ⊢
          rw [← hq'] at HS2 HS8 hmore HP8 HK8 HT8 ⊢
          clear hp7 HT7 HK7 hp' hq' HT6 HK6 HP6 hb7 CB
          go_wp2_with fail
          go_roundw
          case rel => exact ⟨pre ++ [x], p', q', HS2, HP8.out, HK8, HT8⟩
          case measure =>
            obtain ⟨k0, k1⟩ := HT8.out.cell
            rw [rd_eq k0, rd_eq k1, HRD.out.1, HRD.out.2]
            omega
end Go.Proofs.Ytmlmgmodgcpkpaa.Ud

namespace Go.Proofs.Ytmlmgmodgcpkpaa.Ap
open Go.RowKit Tx
set_option linter.unusedVariables false
section
variable {P : Program}
theorem append_two (w : World) (base : Nat) (t ty e : TypeId) (i : TypeInfo) (z : Value) (size bytes : Nat) (ht : P.underlying t = some (.slice e)) (hi : P.info? e = some i) (hz : i.zero = some z)
    (hsize : i.size = size) (hby : i.bytes = bytes) (hzs : z.cells.size = size) (hsp : 0 < size) (hs16 : size ≤ 16)
    (v : Value) (n : Nat) (xs : List Value) (hown : w.ownsRow base e size v n xs)
    (a : Addr) (c : Nat) (us : List Value) (hul : us.length = size) (hnews : ∀ j x, us[j]? = some x → w.cell? (a.add j) = some x) (hone : ∀ x ∈ us, x.oneCell' = true)
    (hn : n + 1 ≤ 57646075230342348) (hbytes : (n + 1) * bytes ≤ 140737488355328) (hbase : base ≤ w.heap.size) :
    ∃ v' w', (Builtin.append_ #[t, t] ty #[v, .slice (some a) 1 c]).run P w = .ok v' w' ∧ w'.ownsRow base e size v' (n + 1) (xs ++ us) ∧
      ((v'.ownBlock = v.ownBlock ∧ w.grownBy w' v.ownBlock) ∨ (v'.ownBlock = some w.heap.size ∧ w.grownBy w' none)) := by
  have hlen : (xs ++ us).length = (n + 1) * size := by rw [List.length_append, hown.1, hul, Nat.add_mul, Nat.one_mul]
  have made : ∀ old, old < n + 1 → (w.drew.alloc (.cells (xs.toArray ++ us.toArray ++ Builtin.zeroCells z.cells (grownCap w (n + 1) old e - (n + 1))) e)).ownsRow base e size (.slice (some ⟨w.heap.size, 0, none⟩) (n + 1) (grownCap w (n + 1) old e)) (n + 1) (xs ++ us) ∧
      w.grownBy (w.drew.alloc (.cells (xs.toArray ++ us.toArray ++ Builtin.zeroCells z.cells (grownCap w (n + 1) old e - (n + 1))) e)) none := by
    intro old _
    have hge := grownCap_ge w (n + 1) old e
    have hcm := grownCap_le_maxLen w (n + 1) old e (by unfold maxLen; omega)
    refine ⟨⟨hlen, .inr ⟨w.heap.size, _, _, rfl, hbase, heap_alloc_new w.drew _, hge, hcm, ?_, ?_⟩⟩, ⟨rfl, rfl, rfl, by simp, fun k hk _ => Below.heap_alloc w.drew _ k hk⟩⟩
    · have h0 := hown.1
      simp only [Array.size_append, List.size_toArray, size_zeroCells, hzs, hul]
      obtain ⟨d, hd⟩ : ∃ d, grownCap w (n + 1) old e = n + 1 + d := ⟨grownCap w (n + 1) old e - (n + 1), by omega⟩
      rw [hd, h0, show n + 1 + d - (n + 1) = d by omega, Nat.add_mul, Nat.add_mul, Nat.one_mul]
    · simp only [Array.toList_append, List.append_assoc]
      rw [← List.append_assoc]
      exact List.take_left' hlen
  rcases hown.2 with ⟨rfl, rfl⟩ | ⟨g, cap, cur, rfl, hbg, hg, hnc, hcm, hcs, htake⟩
  · have hx : xs = [] := List.eq_nil_of_length_eq_zero (by simpa using hown.1)
    subst hx
    have hr := run_append_nil (P := P) w t ty e i z ht hi hz a 1 c us (by rw [hsize, hul, Nat.one_mul]) hnews (by omega) (by omega) (by rw [hby]; have h2 := hbytes; simp only [Nat.zero_add] at h2; omega)
    have hm := made 0 (by omega)
    simp only [Nat.zero_add, List.nil_append, Array.empty_append] at hm ⊢
    exact ⟨_, _, hr, hm.1, .inr ⟨rfl, hm.2⟩⟩
  · by_cases hroom : n + 1 ≤ cap
    · have hle : (n + 1) * size ≤ cap * size := Nat.mul_le_mul_right _ hroom
      have hfit : n * i.size + us.length ≤ cur.size := by rw [hsize, hcs, hul]; rw [Nat.add_mul, Nat.one_mul] at hle; exact hle
      have hr := run_append_room (P := P) w t ty e i ht hi g n cap cur hg a 1 c us (by rw [hsize, hul, Nat.one_mul]) hnews hone hroom hfit
      refine ⟨_, _, hr, ⟨hlen, .inr ⟨g, cap, _, rfl, hbg, setRow_heap w g cur _ e _ hg, hroom, hcm, ?_, ?_⟩⟩, .inl ⟨rfl, ⟨rfl, rfl, rfl, by simp, fun k _ hk => setRow_other w g k _ (fun e => hk (by simp [Value.ownBlock, e]))⟩⟩⟩
      · simp only [List.size_toArray, List.length_append, List.length_take, List.length_drop, Array.length_toList]
        omega
      · rw [hsize, htake]
        exact List.take_left' hlen
    · have hr := run_append_grow (P := P) w t ty e i z ht hi hz ⟨g, 0, none⟩ n cap xs (by rw [hsize]; exact hown.1) (hown.cells (g := g) rfl) a 1 c us (by rw [hsize, hul, Nat.one_mul]) hnews (by omega) (by omega) (growslice_fits (by omega) (by rw [hby]; exact hbytes))
      have hm := made cap (by omega)
      exact ⟨_, _, hr, hm.1, .inr ⟨rfl, hm.2⟩⟩
end
theorem wpList_append_two {P : Program} (w : World) {ops : Array Oper} {rest : List Oper} {o : Oper} {a : Act} {Q : Exit → Act → World → Prop} (hgd : o.guard = none) (s x : Operand) (t : TypeId)
    (ho : o.op = .call { callee := .builtin .append, args := #[s, x], argTypes := #[t, t] })
    (base : Nat) (e : TypeId) (i : TypeInfo) (z : Value) (size bytes : Nat) (ht : P.underlying t = some (.slice e)) (hi : P.info? e = some i) (hz : i.zero = some z)
    (hsize : i.size = size) (hby : i.bytes = bytes) (hzs : z.cells.size = size) (hsp : 0 < size) (hs16 : size ≤ 16)
    (v : Value) (n : Nat) (xs : List Value) (hs : a.eval s = v) (hown : w.ownsRow base e size v n xs)
    (ad : Addr) (c : Nat) (us : List Value) (hx : a.eval x = .slice (some ad) 1 c) (hul : us.length = size) (hnews : ∀ j x, us[j]? = some x → w.cell? (ad.add j) = some x) (hone : ∀ x ∈ us, x.oneCell' = true)
    (hn : n + 1 ≤ 57646075230342348) (hbytes : (n + 1) * bytes ≤ 140737488355328) (hbase : base ≤ w.heap.size)
    (h : ∀ v' w', w'.ownsRow base e size v' (n + 1) (xs ++ us) → ((v'.ownBlock = v.ownBlock ∧ w.grownBy w' v.ownBlock) ∨ (v'.ownBlock = some w.heap.size ∧ w.grownBy w' none)) → wpList P ops Q rest (a.put o.dst v') w') :
    wpList P ops Q (o :: rest) a w := by
  refine wpList_plain hgd fun K hK => ?_
  obtain ⟨v', w', hr, h2, h3⟩ := append_two (P := P) w base t o.type e i z size bytes ht hi hz hsize hby hzs hsp hs16 v n xs hown ad c us hul hnews hone hn hbytes hbase
  unfold Oper.wp execOp
  simp only [ho, resolve, invoke, builtin, Sem.run_bind, Sem.run_pure, Result.andThen_ok, List.map_toArray, List.map_cons, List.map_nil, hs, hx, hr]
  exact hK _ _ (h v' w' h2 h3)
end Go.Proofs.Ytmlmgmodgcpkpaa.Ap
