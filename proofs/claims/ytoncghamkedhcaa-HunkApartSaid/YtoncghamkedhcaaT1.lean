/- Texts of this seat, one behind the other. -/
import Derived.Test.YtoncghamkedhcaaRows
import Derived.WalkKit
import Derived.WalkLawsBesides
import Derived.WalkSpells
import Derived.LoopTactic
import Derived.Lib.Hide
import Derived.Deep.AppendLies
import Derived.Deep.QuietTactic
import Derived.BigQuiet
import Derived.Maps.AppendAt
import Derived.OwnWalk
import Derived.Shelf.RegionOpenPlain
import Derived.Laws.StructEq
import Derived.WalkSmall
import Derived.ChangeKeysEq
import Derived.Deep.RegionLaw
import Derived.Laws.OwnMore
import Derived.Test.YtoncghamkedhcaaProg
import Derived.Deep.RegionHeld3
import Derived.Laws.AppendOwn
namespace Go.Proofs.Ytoncghamkedhcaa.Tx
open Go.RowKit
set_option linter.unusedVariables false
theorem info9 : (Try.prog.info? 9).map (fun i => (i.zero, i.size, i.bytes)) = some (some (.string ⟨#[]⟩), 1, 16) := by kernel_rfl
theorem below_call {w w1 w2 : World} (h : Below w.heap.size w w1) (h2 : Below w1.heap.size w1 w2) : Below w.heap.size w w2 := h.trans (h2.mono h.size)
theorem below_step {w wr w1 : World} {e : TypeId} {size n : Nat} {v : Value} {xs : List Value} {o : Obj} (hb : Below w.heap.size w wr) (hown : wr.ownsRow w.heap.size e size v n xs) (hg : (wr.alloc o).grownBy w1 v.ownBlock) : Below w.heap.size w w1 :=
  (hb.alloc hb.size o).grown hg (by have := hb.size; simp; omega) (fun k hk => (hown.lt k hk).1)
theorem bytes_ne {a b : ByteArray} (h : a ≠ b) : (a.toList == b.toList) = false := by
  rw [ByteArray.toList_eq, ByteArray.toList_eq]
  apply Bool.eq_false_iff.2
  intro hc
  exact h (ByteArray.ext (Array.toList_inj.1 (eq_of_beq hc)))
def sv (s : ByteArray) : Value := .string s
theorem sv_one (l : List ByteArray) : ∀ u ∈ l.map sv, u.oneCell' = true := by
  intro u hu
  obtain ⟨s, _, rfl⟩ := List.mem_map.1 hu
  rfl
def Texts (w : World) (B : Nat) (v : Value) (l : List ByteArray) : Prop := w.ownsRow B 9 1 v l.length (l.map sv)
theorem Texts.below {w w1 : World} {B : Nat} {v : Value} {l : List ByteArray} (h : Texts w B v l) (hb : Below w.heap.size w w1) : Texts w1 B v l := by
  refine ⟨h.1, ?_⟩
  rcases h.2 with h0 | ⟨g', cap', cur, hv, hg, hh, r⟩
  · exact .inl h0
  · exact .inr ⟨g', cap', cur, hv, hg, (hb.block g' (Array.getElem?_eq_some_iff.1 hh).1).trans hh, r⟩
def Strs (w : World) (a : Option Addr) (n : Nat) (l : List ByteArray) : Prop := l.length = n ∧ (n = 0 ∨ ∃ b off, a = some ⟨b, off, none⟩ ∧ b < w.heap.size ∧ ∀ k x, l[k]? = some x → w.cell? ⟨b, off + k, none⟩ = some (.string x))
theorem Strs.below {w w1 : World} {a : Option Addr} {n : Nat} {l : List ByteArray} (h : Strs w a n l) (hb : Below w.heap.size w w1) : Strs w1 a n l := by
  refine ⟨h.1, ?_⟩
  rcases h.2 with h0 | ⟨b, off, ha, hlt, hc⟩
  · exact .inl h0
  · exact .inr ⟨b, off, ha, Nat.lt_of_lt_of_le hlt hb.size, fun k x hx => (hb.cell (p := ⟨b, off + k, none⟩) hlt).trans (hc k x hx)⟩
theorem Texts.form {w : World} {B : Nat} {v : Value} {l : List ByteArray} (h : Texts w B v l) : ∃ a c, v = .slice a l.length c ∧ Strs w a l.length l ∧ l.length ≤ c ∧ c ≤ maxLen := by
  have hh := h
  rcases h.2 with ⟨rfl, h0⟩ | ⟨g, cap, cur, rfl, hg, hh2, hn, hc, _⟩
  · exact ⟨none, 0, by rw [h0], ⟨rfl, .inl h0⟩, by omega, Nat.zero_le _⟩
  · refine ⟨some ⟨g, 0, none⟩, cap, rfl, ⟨rfl, .inr ⟨g, 0, rfl, (Array.getElem?_eq_some_iff.1 hh2).1, fun k x hx => ?_⟩⟩, hn, hc⟩
    have := hh.cells (g := g) rfl k (sv x) (by rw [List.getElem?_map, hx]; rfl)
    rw [← WideShapes.add_plain]
    exact this
end Go.Proofs.Ytoncghamkedhcaa.Tx

namespace Go.Proofs.Ytoncghamkedhcaa.Um
set_option linter.unusedVariables false
inductive Makes {α : Type} : List α → List α → List Nat → Prop
  | nil : Makes [] [] []
  | keep (x : α) {a b : List α} {s : List Nat} (h : Makes a b s) : Makes (x :: a) (x :: b) (0 :: s)
  | drop (x : α) {a b : List α} {s : List Nat} (h : Makes a b s) : Makes (x :: a) b (1 :: s)
  | add (y : α) {a b : List α} {s : List Nat} (h : Makes a b s) : Makes a (y :: b) (2 :: s)
theorem Makes.lens {α : Type} {a b : List α} {s : List Nat} (h : Makes a b s) : s.count 0 + s.count 1 = a.length ∧ s.count 0 + s.count 2 = b.length ∧ s.length = s.count 0 + s.count 1 + s.count 2 := by
  induction h with
  | nil => simp
  | keep x h ih => simp; omega
  | drop x h ih => simp; omega
  | add y h ih => simp; omega
section
variable {α : Type} [DecidableEq α]
def lcs : List α → List α → Nat
  | [], _ => 0
  | _ :: _, [] => 0
  | x :: a, y :: b => if x = y then max (max (lcs (x :: a) b) (lcs a (y :: b))) (lcs a b + 1) else max (lcs (x :: a) b) (lcs a (y :: b))
termination_by a b => a.length + b.length
theorem lcs_nil (b : List α) : lcs [] b = 0 := by rw [lcs]
theorem lcs_nil2 (a : List α) : lcs a [] = 0 := by cases a <;> rw [lcs]
theorem lcs_cons (x y : α) (a b : List α) : lcs (x :: a) (y :: b) = if x = y then max (max (lcs (x :: a) b) (lcs a (y :: b))) (lcs a b + 1) else max (lcs (x :: a) b) (lcs a (y :: b)) := by rw [lcs]
theorem lcs_most (s : List α) : ∀ (n : Nat) (a b : List α), a.length + b.length ≤ n → s.Sublist a → s.Sublist b → s.length ≤ lcs a b := by
  intro n
  induction n generalizing s with
  | zero =>
    intro a b h h1 h2
    obtain rfl : a = [] := List.length_eq_zero_iff.1 (by omega)
    rw [List.sublist_nil.1 h1]
    exact Nat.zero_le _
  | succ n ih =>
    intro a b h h1 h2
    cases a with
    | nil => rw [List.sublist_nil.1 h1]; exact Nat.zero_le _
    | cons x a =>
      cases b with
      | nil => rw [List.sublist_nil.1 h2]; exact Nat.zero_le _
      | cons y b =>
        simp only [List.length_cons] at h
        rw [lcs_cons]
        have k1 : s.Sublist (x :: a) → s.Sublist b → s.length ≤ lcs (x :: a) b := fun p q => ih s _ _ (by simp only [List.length_cons]; omega) p q
        have k2 : s.Sublist a → s.Sublist (y :: b) → s.length ≤ lcs a (y :: b) := fun p q => ih s _ _ (by simp only [List.length_cons]; omega) p q
        cases h1 with
        | cons _ h1 =>
          have := k2 h1 h2
          split <;> omega
        | cons_cons _ h1 =>
          rename_i s'
          cases h2 with
          | cons _ h2 =>
            have := k1 (h1.cons_cons _) h2
            split <;> omega
          | cons_cons _ h2 =>
            have := ih s' a b (by omega) h1 h2
            rw [if_pos rfl, List.length_cons]
            omega
theorem lcs_there : ∀ (n : Nat) (a b : List α), a.length + b.length ≤ n → ∃ s : List α, s.Sublist a ∧ s.Sublist b ∧ s.length = lcs a b := by
  intro n
  induction n with
  | zero =>
    intro a b h
    obtain rfl : a = [] := List.length_eq_zero_iff.1 (by omega)
    exact ⟨[], List.nil_sublist _, List.nil_sublist _, by rw [lcs_nil]; rfl⟩
  | succ n ih =>
    intro a b h
    cases a with
    | nil => exact ⟨[], List.nil_sublist _, List.nil_sublist _, by rw [lcs_nil]; rfl⟩
    | cons x a =>
      cases b with
      | nil => exact ⟨[], List.nil_sublist _, List.nil_sublist _, by rw [lcs_nil2]; rfl⟩
      | cons y b =>
        simp only [List.length_cons] at h
        obtain ⟨s1, a1, b1, e1⟩ := ih (x :: a) b (by simp only [List.length_cons]; omega)
        obtain ⟨s2, a2, b2, e2⟩ := ih a (y :: b) (by simp only [List.length_cons]; omega)
        obtain ⟨s3, a3, b3, e3⟩ := ih a b (by omega)
        have big : ∃ s : List α, s.Sublist (x :: a) ∧ s.Sublist (y :: b) ∧ s.length = max (lcs (x :: a) b) (lcs a (y :: b)) := by
          by_cases hm : lcs (x :: a) b ≤ lcs a (y :: b)
          · exact ⟨s2, a2.cons _, b2, by omega⟩
          · exact ⟨s1, a1, b1.cons _, by omega⟩
        rw [lcs_cons]
        by_cases hxy : x = y
        · subst hxy
          rw [if_pos rfl]
          by_cases hm : max (lcs (x :: a) b) (lcs a (x :: b)) ≤ lcs a b + 1
          · exact ⟨x :: s3, a3.cons_cons _, b3.cons_cons _, by rw [List.length_cons]; omega⟩
          · obtain ⟨s, p, q, e⟩ := big
            exact ⟨s, p, q, by omega⟩
        · rw [if_neg hxy]
          exact big
theorem most {s a b : List α} (h1 : s.Sublist a) (h2 : s.Sublist b) : s.length ≤ lcs a b := lcs_most s _ a b (Nat.le_refl _) h1 h2
theorem there (a b : List α) : ∃ s : List α, s.Sublist a ∧ s.Sublist b ∧ s.length = lcs a b := lcs_there _ a b (Nat.le_refl _)
theorem lcs_le_left (a b : List α) : lcs a b ≤ a.length := by
  obtain ⟨s, h1, h2, h3⟩ := there a b
  rw [← h3]; exact h1.length_le
theorem lcs_head (x : α) (a b : List α) : lcs (x :: a) (x :: b) = lcs a b + 1 := by
  have h1 : lcs a b + 1 ≤ lcs (x :: a) (x :: b) := by
    obtain ⟨s, h1, h2, h3⟩ := there a b
    have := most (h1.cons_cons x) (h2.cons_cons x)
    rw [List.length_cons] at this
    omega
  have h2 : lcs (x :: a) (x :: b) ≤ lcs a b + 1 := by
    obtain ⟨s, h1, h2, h3⟩ := there (x :: a) (x :: b)
    have k1 : s.tail.Sublist a := by
      cases h1 with
      | cons _ h => exact (List.tail_sublist s).trans h
      | cons_cons _ h => exact h
    have k2 : s.tail.Sublist b := by
      cases h2 with
      | cons _ h => exact (List.tail_sublist s).trans h
      | cons_cons _ h => exact h
    have := most k1 k2
    rw [List.length_tail] at this
    omega
  omega
theorem lcs_other (x y : α) (a b : List α) (h : x ≠ y) : lcs (x :: a) (y :: b) = max (lcs (x :: a) b) (lcs a (y :: b)) := by rw [lcs_cons, if_neg h]
def steps : List α → List α → List Nat
  | [], [] => []
  | _ :: a, [] => 1 :: steps a []
  | [], _ :: b => 2 :: steps [] b
  | x :: a, y :: b => if x = y then 0 :: steps a b else if lcs a (y :: b) < lcs (x :: a) b then 2 :: steps (x :: a) b else 1 :: steps a (y :: b)
termination_by a b => a.length + b.length
theorem steps_nil : steps ([] : List α) [] = [] := by rw [steps]
theorem steps_drop (x : α) (a : List α) : steps (x :: a) [] = 1 :: steps a [] := by rw [steps]
theorem steps_add (y : α) (b : List α) : steps [] (y :: b) = 2 :: steps [] b := by rw [steps]
theorem steps_cons (x y : α) (a b : List α) : steps (x :: a) (y :: b) = if x = y then 0 :: steps a b else if lcs a (y :: b) < lcs (x :: a) b then 2 :: steps (x :: a) b else 1 :: steps a (y :: b) := by rw [steps]
theorem steps_make : ∀ (n : Nat) (a b : List α), a.length + b.length ≤ n → Makes a b (steps a b) := by
  intro n
  induction n with
  | zero =>
    intro a b h
    obtain rfl : a = [] := List.length_eq_zero_iff.1 (by omega)
    obtain rfl : b = [] := List.length_eq_zero_iff.1 (by omega)
    rw [steps_nil]; exact .nil
  | succ n ih =>
    intro a b h
    cases a with
    | nil =>
      cases b with
      | nil => rw [steps_nil]; exact .nil
      | cons y b => rw [steps_add]; exact .add y (ih _ _ (by simp only [List.length_cons, List.length_nil] at h ⊢; omega))
    | cons x a =>
      cases b with
      | nil => rw [steps_drop]; exact .drop x (ih _ _ (by simp only [List.length_cons, List.length_nil] at h ⊢; omega))
      | cons y b =>
        simp only [List.length_cons] at h
        rw [steps_cons]
        by_cases hxy : x = y
        · subst hxy
          rw [if_pos rfl]
          exact .keep x (ih _ _ (by omega))
        · rw [if_neg hxy]
          split
          · exact .add y (ih _ _ (by simp only [List.length_cons]; omega))
          · exact .drop x (ih _ _ (by simp only [List.length_cons]; omega))
theorem makes (a b : List α) : Makes a b (steps a b) := steps_make _ a b (Nat.le_refl _)
theorem steps_kept : ∀ (n : Nat) (a b : List α), a.length + b.length ≤ n → (steps a b).count 0 = lcs a b := by
  intro n
  induction n with
  | zero =>
    intro a b h
    obtain rfl : a = [] := List.length_eq_zero_iff.1 (by omega)
    obtain rfl : b = [] := List.length_eq_zero_iff.1 (by omega)
    rw [steps_nil, lcs_nil]; rfl
  | succ n ih =>
    intro a b h
    cases a with
    | nil =>
      cases b with
      | nil => rw [steps_nil, lcs_nil]; rfl
      | cons y b =>
        rw [steps_add, List.count_cons_of_ne (by decide), ih _ _ (by simp only [List.length_cons, List.length_nil] at h ⊢; omega), lcs_nil, lcs_nil]
    | cons x a =>
      cases b with
      | nil => rw [steps_drop, List.count_cons_of_ne (by decide), ih _ _ (by simp only [List.length_cons, List.length_nil] at h ⊢; omega), lcs_nil2, lcs_nil2]
      | cons y b =>
        simp only [List.length_cons] at h
        rw [steps_cons]
        by_cases hxy : x = y
        · subst hxy
          rw [if_pos rfl, List.count_cons_self, ih _ _ (by omega), lcs_head]
        · rw [if_neg hxy, lcs_other _ _ _ _ hxy]
          split
          · rw [List.count_cons_of_ne (by decide), ih _ _ (by simp only [List.length_cons]; omega)]
            omega
          · rw [List.count_cons_of_ne (by decide), ih _ _ (by simp only [List.length_cons]; omega)]
            omega
theorem kept (a b : List α) : (steps a b).count 0 = lcs a b := steps_kept _ a b (Nat.le_refl _)
def dist (a b : List α) : Nat := (steps a b).count 1 + (steps a b).count 2
def pairs : Nat → Nat → List Nat → List (Nat × Nat)
  | _, _, [] => []
  | i, j, 0 :: s => (i, j) :: pairs (i + 1) (j + 1) s
  | i, j, 1 :: s => pairs (i + 1) j s
  | i, j, _ :: s => pairs i (j + 1) s
theorem pairs_len (s : List Nat) : ∀ i j, (pairs i j s).length = s.count 0 := by
  induction s with
  | nil => intro i j; rfl
  | cons x s ih =>
    intro i j
    match x with
    | 0 => rw [pairs, List.length_cons, ih, List.count_cons_self]
    | 1 => rw [pairs, ih, List.count_cons_of_ne (by decide)]
    | k + 2 => rw [pairs, ih, List.count_cons_of_ne (by simp)]; all_goals simp
def runs : List Nat → List (Nat × Nat)
  | [] => []
  | x :: s => match runs s with
    | [] => [(x, 1)]
    | (y, n) :: r => if x = y then (y, n + 1) :: r else (x, 1) :: (y, n) :: r
end
end Go.Proofs.Ytoncghamkedhcaa.Um

namespace Go.Proofs.Ytoncghamkedhcaa.Tx
open Go.RowKit
set_option linter.unusedVariables false
theorem below_drewN {B : Nat} {a w : World} (h : Below B a w) (n : Nat) : Below B a (w.drewN n) := ⟨h.os, h.tape, h.output, h.size, h.block⟩
end Go.Proofs.Ytoncghamkedhcaa.Tx

namespace Go.Proofs.Ytoncghamkedhcaa.Aq
open Go.RowKit Tx
set_option linter.unusedVariables false
section
variable {P : Program}
theorem append_two (w : World) (base : Nat) (t ty e : TypeId) (i : TypeInfo) (z : Value) (bytes : Nat) (ht : P.underlying t = some (.slice e)) (hi : P.info? e = some i) (hz : i.zero = some z)
    (hsize : i.size = 1) (hby : i.bytes = bytes) (hzs : z.cells.size = 1)
    (v : Value) (n : Nat) (xs : List Value) (hown : w.ownsRow base e 1 v n xs)
    (a : Addr) (c : Nat) (u : Value) (hu : w.cell? a = some u) (h1 : u.oneCell' = true)
    (hn : n + 1 ≤ 1152921504606846976) (hbytes : (n + 1) * bytes ≤ 140737488355328) (hbase : base ≤ w.heap.size) :
    ∃ v' w', (Builtin.append_ #[t, t] ty #[v, .slice (some a) 1 c]).run P w = .ok v' w' ∧ w'.ownsRow base e 1 v' (n + 1) (xs ++ [u]) ∧
      ((v'.ownBlock = v.ownBlock ∧ w.grownBy w' v.ownBlock) ∨ (v'.ownBlock = some w.heap.size ∧ w.grownBy w' none)) := by
  have hnews : ∀ j x, [u][j]? = some x → w.cell? (a.add j) = some x := by
    intro j x hj
    match j, hj with
    | 0, hj =>
      simp at hj
      subst hj
      simpa [Addr.add] using hu
  have hone : ∀ x ∈ [u], x.oneCell' = true := by intro x hx; simp at hx; subst hx; exact h1
  have hlen : (xs ++ [u]).length = (n + 1) * 1 := by rw [List.length_append, hown.1]; simp
  have made : ∀ old, old < n + 1 → (w.drew.alloc (.cells (xs.toArray ++ [u].toArray ++ Builtin.zeroCells z.cells (grownCap w (n + 1) old e - (n + 1))) e)).ownsRow base e 1 (.slice (some ⟨w.heap.size, 0, none⟩) (n + 1) (grownCap w (n + 1) old e)) (n + 1) (xs ++ [u]) ∧
      w.grownBy (w.drew.alloc (.cells (xs.toArray ++ [u].toArray ++ Builtin.zeroCells z.cells (grownCap w (n + 1) old e - (n + 1))) e)) none := by
    intro old _
    have hge := grownCap_ge w (n + 1) old e
    have hcm := grownCap_le_maxLen w (n + 1) old e (by unfold maxLen; omega)
    refine ⟨⟨hlen, .inr ⟨w.heap.size, _, _, rfl, hbase, heap_alloc_new w.drew _, hge, hcm, ?_, ?_⟩⟩, ⟨rfl, rfl, rfl, by simp, fun k hk _ => Below.heap_alloc w.drew _ k hk⟩⟩
    · have h0 := hown.1
      simp only [Array.size_append, List.size_toArray, size_zeroCells, hzs, List.length_singleton]
      omega
    · simp only [Array.toList_append, List.append_assoc]
      rw [← List.append_assoc]
      exact List.take_left' hlen
  rcases hown.2 with ⟨rfl, rfl⟩ | ⟨g, cap, cur, rfl, hbg, hg, hnc, hcm, hcs, htake⟩
  · have hx : xs = [] := List.eq_nil_of_length_eq_zero (by simpa using hown.1)
    subst hx
    have hr := run_append_nil (P := P) w t ty e i z ht hi hz a 1 c [u] (by rw [hsize]; rfl) hnews (by omega) (by omega) (by rw [hby]; have h2 := hbytes; simp only [Nat.zero_add] at h2; omega)
    have hm := made 0 (by omega)
    simp only [Nat.zero_add, List.nil_append, Array.empty_append] at hm ⊢
    exact ⟨_, _, hr, hm.1, .inr ⟨rfl, hm.2⟩⟩
  · by_cases hroom : n + 1 ≤ cap
    · have hfit : n * i.size + [u].length ≤ cur.size := by rw [hsize, hcs]; simp; omega
      have hr := run_append_room (P := P) w t ty e i ht hi g n cap cur hg a 1 c [u] (by rw [hsize]; rfl) hnews hone hroom hfit
      refine ⟨_, _, hr, ⟨hlen, .inr ⟨g, cap, _, rfl, hbg, setRow_heap w g cur _ e _ hg, hroom, hcm, ?_, ?_⟩⟩, .inl ⟨rfl, ⟨rfl, rfl, rfl, by simp, fun k _ hk => setRow_other w g k _ (fun e => hk (by simp [Value.ownBlock, e]))⟩⟩⟩
      · simp only [List.size_toArray, List.length_append, List.length_take, List.length_drop, Array.length_toList, hsize, List.length_singleton]
        simp only [hsize, List.length_singleton] at hfit
        omega
      · rw [hsize, htake]
        exact List.take_left' hlen
    · have hr := run_append_grow (P := P) w t ty e i z ht hi hz ⟨g, 0, none⟩ n cap xs (by rw [hsize]; exact hown.1) (hown.cells (g := g) rfl) a 1 c [u] (by rw [hsize]; rfl) hnews (by omega) (by omega) (growslice_fits (by omega) (by rw [hby]; exact hbytes))
      have hm := made cap (by omega)
      exact ⟨_, _, hr, hm.1, .inr ⟨rfl, hm.2⟩⟩
end
theorem wpList_append_two {P : Program} (w : World) {ops : Array Oper} {rest : List Oper} {o : Oper} {a : Act} {Q : Exit → Act → World → Prop} (hgd : o.guard = none) (s x : Operand) (t : TypeId)
    (ho : o.op = .call { callee := .builtin .append, args := #[s, x], argTypes := #[t, t] })
    (base : Nat) (e : TypeId) (i : TypeInfo) (z : Value) (bytes : Nat) (ht : P.underlying t = some (.slice e)) (hi : P.info? e = some i) (hz : i.zero = some z)
    (hsize : i.size = 1) (hby : i.bytes = bytes) (hzs : z.cells.size = 1)
    (v : Value) (n : Nat) (xs : List Value) (hs : a.eval s = v) (hown : w.ownsRow base e 1 v n xs)
    (ad : Addr) (c : Nat) (u : Value) (hx : a.eval x = .slice (some ad) 1 c) (hu : w.cell? ad = some u) (h1 : u.oneCell' = true)
    (hn : n + 1 ≤ 1152921504606846976) (hbytes : (n + 1) * bytes ≤ 140737488355328) (hbase : base ≤ w.heap.size)
    (h : ∀ v' w', w'.ownsRow base e 1 v' (n + 1) (xs ++ [u]) → ((v'.ownBlock = v.ownBlock ∧ w.grownBy w' v.ownBlock) ∨ (v'.ownBlock = some w.heap.size ∧ w.grownBy w' none)) → wpList P ops Q rest (a.put o.dst v') w') :
    wpList P ops Q (o :: rest) a w := by
  refine wpList_plain hgd fun K hK => ?_
  obtain ⟨v', w', hr, h2, h3⟩ := append_two (P := P) w base t o.type e i z bytes ht hi hz hsize hby hzs v n xs hown ad c u hu h1 hn hbytes hbase
  unfold Oper.wp execOp
  simp only [ho, resolve, invoke, builtin, Sem.run_bind, Sem.run_pure, Result.andThen_ok, List.map_toArray, List.map_cons, List.map_nil, hs, hx, hr]
  exact hK _ _ (h v' w' h2 h3)
theorem own_frozen {w : World} {base g n cap : Nat} {e : TypeId} {xs : List Value} (h : w.ownsRow base e 1 (.slice (some ⟨g, 0, none⟩) n cap) n xs) (k : Nat) : w.frozen? ⟨g, k, none⟩ = false := by
  rcases h.2 with ⟨h0, _⟩ | ⟨g', cap', cur, hv, _, hh, _⟩
  · cases h0
  · injection hv with hg
    injection hg with hg
    injection hg with hg
    subst hg
    simp [World.frozen?, hh]
theorem own_cell {w : World} {base g n cap : Nat} {e : TypeId} {xs : List Value} (h : w.ownsRow base e 1 (.slice (some ⟨g, 0, none⟩) n cap) n xs) {k : Nat} {u : Value} (hk : xs[k]? = some u) : w.cell? ⟨g, k, none⟩ = some u := by
  have := h.cells (g := g) rfl k u hk
  rwa [WideShapes.add_plain, Nat.zero_add] at this
theorem own_store {w : World} {base g n cap : Nat} {e : TypeId} {xs : List Value} (h : w.ownsRow base e 1 (.slice (some ⟨g, 0, none⟩) n cap) n xs) {k : Nat} (hk : k < n) (u : Value) :
    (w.setCell ⟨g, k, none⟩ u).ownsRow base e 1 (.slice (some ⟨g, 0, none⟩) n cap) n (xs.set k u) := by
  refine ⟨by rw [List.length_set]; exact h.1, ?_⟩
  rcases h.2 with ⟨h0, _⟩ | ⟨g', cap', cur, hv, hb, hh, hn, hc, hs, ht⟩
  · cases h0
  · injection hv with hg _ hcap
    injection hg with hg
    injection hg with hg
    subst hg
    subst hcap
    refine .inr ⟨g, cap, cur.setIfInBounds k u, rfl, hb, ?_, hn, hc, by simpa using hs, ?_⟩
    · simp [World.setCell, Array.getElem?_modify, hh]
    · rw [Array.toList_setIfInBounds, List.take_set, ht]
theorem own_far {w : World} {base n : Nat} {e : TypeId} {v : Value} {xs : List Value} (h : w.ownsRow base e 1 v n xs) {g k : Nat} (hne : v.ownBlock ≠ some g) (u : Value) : (w.setCell ⟨g, k, none⟩ u).ownsRow base e 1 v n xs := by
  have hg : w.grownBy (w.setCell ⟨g, k, none⟩ u) (some g) := ⟨rfl, rfl, rfl, by simp [World.setCell], fun j _ hj => Below.heap_setCell w ⟨g, k, none⟩ u j (fun e => hj (by rw [e]))⟩
  exact h.kept hg (.inr hne)
theorem types_ne {w : World} {base b2 n n2 : Nat} {e e2 : TypeId} {v v2 : Value} {xs ys : List Value} (h : w.ownsRow base e 1 v n xs) (h2 : w.ownsRow b2 e2 1 v2 n2 ys) (hne : e ≠ e2) {g : Nat} (hg : v.ownBlock = some g) : v2.ownBlock ≠ some g := by
  rcases h.2 with ⟨rfl, _⟩ | ⟨a, cap, cur, rfl, _, hh, _⟩
  · simp [Value.ownBlock] at hg
  · rcases h2.2 with ⟨rfl, _⟩ | ⟨a2, cap2, cur2, rfl, _, hh2, _⟩
    · simp [Value.ownBlock]
    · simp only [Value.ownBlock, Option.some.injEq] at hg ⊢
      subst hg
      intro he
      injection he with he
      subst he
      rw [hh] at hh2
      injection hh2 with hh2
      injection hh2 with _ ht
      exact hne ht
end Go.Proofs.Ytoncghamkedhcaa.Aq

namespace Go.Proofs.Ytoncghamkedhcaa.Ud
open Go.RowKit Tx Um Aq
set_option linter.unusedVariables false
theorem infoInt : (Try.prog.info? 3).map (fun i => (i.zero, i.size, i.bytes)) = some (some (.int .i64 0), 1, 8) := by kernel_rfl
theorem infoInts : (Try.prog.info? 59).map (fun i => (i.zero, i.size, i.bytes)) = some (some (.slice none 0 0), 1, 24) := by kernel_rfl
def F (a b : List ByteArray) (i j : Nat) : Nat := lcs (a.drop i) (b.drop j)
theorem F_end (a b : List ByteArray) (j : Nat) : F a b a.length j = 0 := by rw [F, List.drop_length, lcs_nil]
theorem F_end2 (a b : List ByteArray) (i : Nat) : F a b i b.length = 0 := by rw [F, List.drop_length, lcs_nil2]
theorem F_le (a b : List ByteArray) (i j : Nat) : F a b i j ≤ a.length := by
  have := lcs_le_left (a.drop i) (b.drop j)
  rw [List.length_drop] at this
  unfold F
  omega
theorem F_step (a b : List ByteArray) (i j : Nat) (hi : i < a.length) (hj : j < b.length) : F a b i j = if a[i] = b[j] then max (max (F a b i (j + 1)) (F a b (i + 1) j)) (F a b (i + 1) (j + 1) + 1) else max (F a b i (j + 1)) (F a b (i + 1) j) := by
  unfold F
  conv => lhs; rw [List.drop_eq_getElem_cons hi, List.drop_eq_getElem_cons hj, lcs_cons, ← List.drop_eq_getElem_cons hi, ← List.drop_eq_getElem_cons hj]
structure Tab (w : World) (B g : Nat) (r : Nat → Nat) (a b : List ByteArray) (k : Nat) : Prop where
  outer : ∃ xs, w.ownsRow B 59 1 (.slice (some ⟨g, 0, none⟩) (a.length + 1) (a.length + 1)) (a.length + 1) xs
  cell : ∀ i, k ≤ i → i ≤ a.length → w.cell? ⟨g, i, none⟩ = some (.slice (some ⟨r i, 0, none⟩) (b.length + 1) (b.length + 1))
  row : ∀ i, k ≤ i → i ≤ a.length → ∀ j, j ≤ b.length → w.cell? ⟨r i, j, none⟩ = some (.int .i64 (F a b i j : Nat))
  apart : ∀ i, k ≤ i → i ≤ a.length → r i ≠ g ∧ r i < w.heap.size
theorem Tab.glt {w : World} {B g k : Nat} {r : Nat → Nat} {a b : List ByteArray} (h : Tab w B g r a b k) : B ≤ g ∧ g < w.heap.size := by
  obtain ⟨xs, h1⟩ := h.outer
  exact h1.lt g rfl
theorem cell_keep {w w1 : World} {g k : Nat} {u : Value} (h : w.cell? ⟨g, k, none⟩ = some u) (hk : w1.heap[g]? = w.heap[g]?) : w1.cell? ⟨g, k, none⟩ = some u := (World.cell?_of_block (a := ⟨g, k, none⟩) hk).trans h
theorem own_stay {w w1 : World} {base n : Nat} {e : TypeId} {v : Value} {xs : List Value} (h : w.ownsRow base e 1 v n xs) (hk : ∀ q, v.ownBlock = some q → w1.heap[q]? = w.heap[q]?) : w1.ownsRow base e 1 v n xs := by
  refine ⟨h.1, ?_⟩
  rcases h.2 with h0 | ⟨g, cap, cur, rfl, hb, hh, r⟩
  · exact .inl h0
  · exact .inr ⟨g, cap, cur, rfl, hb, (hk g rfl).trans hh, r⟩
theorem Tab.kept {w w1 : World} {B g k : Nat} {r : Nat → Nat} {a b : List ByteArray} (h : Tab w B g r a b k) (hg : w1.heap[g]? = w.heap[g]?) (hr : ∀ i, k ≤ i → i ≤ a.length → w1.heap[r i]? = w.heap[r i]?) (hs : w.heap.size ≤ w1.heap.size) : Tab w1 B g r a b k := by
  obtain ⟨xs, h1⟩ := h.outer
  exact ⟨⟨xs, own_stay h1 (fun q hq => by simp only [Value.ownBlock, Option.some.injEq] at hq; subst hq; exact hg)⟩, fun i h2 h3 => cell_keep (h.cell i h2 h3) hg, fun i h2 h3 j hj => cell_keep (h.row i h2 h3 j hj) (hr i h2 h3), fun i h2 h3 => ⟨(h.apart i h2 h3).1, Nat.lt_of_lt_of_le (h.apart i h2 h3).2 hs⟩⟩
theorem Tab.below {w w1 : World} {B g k : Nat} {r : Nat → Nat} {a b : List ByteArray} (h : Tab w B g r a b k) (hb : Below w.heap.size w w1) : Tab w1 B g r a b k :=
  h.kept (hb.block _ h.glt.2) (fun i h2 h3 => hb.block _ (h.apart i h2 h3).2) hb.size
theorem Tab.store {w : World} {B g k h j : Nat} {r : Nat → Nat} {a b : List ByteArray} (ht : Tab w B g r a b k) (hg : h ≠ g) (hr : ∀ i, k ≤ i → i ≤ a.length → h ≠ r i) (u : Value) : Tab (w.setCell ⟨h, j, none⟩ u) B g r a b k :=
  ht.kept (Below.heap_setCell w ⟨h, j, none⟩ u g (fun e => hg e.symm)) (fun i h2 h3 => Below.heap_setCell w ⟨h, j, none⟩ u (r i) (fun e => hr i h2 h3 e.symm)) (by simp [World.setCell])
theorem Tab.next {w : World} {B g k h : Nat} {r : Nat → Nat} {a b : List ByteArray} {ys : List Value} (ht : Tab w B g r a b (k + 1)) (hk : k ≤ a.length) (hg : h ≠ g) (hr : ∀ i, k + 1 ≤ i → i ≤ a.length → h ≠ r i)
    (hown : w.ownsRow B 3 1 (.slice (some ⟨h, 0, none⟩) (b.length + 1) (b.length + 1)) (b.length + 1) ys) (hys : ∀ j, j ≤ b.length → ys[j]? = some (.int .i64 (F a b k j : Nat))) :
    Tab (w.setCell ⟨g, k, none⟩ (.slice (some ⟨h, 0, none⟩) (b.length + 1) (b.length + 1))) B g (fun i => if i = k then h else r i) a b k := by
  obtain ⟨xs, h1⟩ := ht.outer
  have hh : h < w.heap.size := (hown.lt h rfl).2
  have e1 : ∀ q, q ≠ g → (w.setCell ⟨g, k, none⟩ (.slice (some ⟨h, 0, none⟩) (b.length + 1) (b.length + 1))).heap[q]? = w.heap[q]? := fun q hq => Below.heap_setCell w ⟨g, k, none⟩ _ q hq
  have hst := own_store h1 (show k < a.length + 1 by omega) (.slice (some ⟨h, 0, none⟩) (b.length + 1) (b.length + 1))
  refine ⟨⟨_, hst⟩, fun i h2 h3 => ?_, fun i h2 h3 j hj => ?_, fun i h2 h3 => ?_⟩
  · by_cases e : i = k
    · subst e
      rw [if_pos rfl]
      exact own_cell hst (List.getElem?_set_self (by rw [h1.1]; omega))
    · rw [if_neg e]
      have := ht.cell i (by omega) h3
      rw [World.cell?_setCell_other _ _ _ _ (fun e2 => e (by injection e2 with _ e3; exact e3.symm))]
      exact this
  · by_cases e : i = k
    · subst e
      rw [if_pos rfl]
      exact cell_keep (own_cell hown (hys j hj)) (e1 h hg)
    · rw [if_neg e]
      exact cell_keep (ht.row i (by omega) h3 j hj) (e1 _ (ht.apart i (by omega) h3).1)
  · have hs : (w.setCell ⟨g, k, none⟩ (.slice (some ⟨h, 0, none⟩) (b.length + 1) (b.length + 1))).heap.size = w.heap.size := by simp [World.setCell]
    rw [hs]
    by_cases e : i = k
    · rw [if_pos e]; exact ⟨hg, hh⟩
    · rw [if_neg e]; exact ht.apart i (by omega) h3
theorem made_zero (n : Nat) (z : Value) : (madeCells #[z] n).toList = List.replicate n z := by
  apply List.ext_getElem?
  intro k
  unfold madeCells
  simp only [List.getElem?_replicate]
  by_cases h : k < n
  · rw [if_pos h]
    simp [List.getElem?_range h, Nat.mod_one]
  · rw [if_neg h]
    simp
    omega
theorem Tab.first {w : World} {B g h : Nat} {a b : List ByteArray} {xs : List Value} (hg : h ≠ g) (ho : w.ownsRow B 59 1 (.slice (some ⟨g, 0, none⟩) (a.length + 1) (a.length + 1)) (a.length + 1) xs)
    (hown : w.ownsRow B 3 1 (.slice (some ⟨h, 0, none⟩) (b.length + 1) (b.length + 1)) (b.length + 1) (List.replicate (b.length + 1) (.int .i64 0))) :
    Tab (w.setCell ⟨g, a.length, none⟩ (.slice (some ⟨h, 0, none⟩) (b.length + 1) (b.length + 1))) B g (fun _ => h) a b a.length := by
  have ht : Tab w B g (fun _ => h) a b (a.length + 1) := ⟨⟨xs, ho⟩, fun i h2 h3 => by omega, fun i h2 h3 => by omega, fun i h2 h3 => by omega⟩
  have hn := ht.next (Nat.le_refl _) hg (fun i h2 h3 => by omega) hown (fun j hj => by rw [List.getElem?_replicate, if_pos (by omega), F_end]; rfl)
  have e : (fun i => if i = a.length then h else h) = fun _ : Nat => h := by funext i; split <;> rfl
  rw [e] at hn
  exact hn
def Row (w : World) (B h : Nat) (a b : List ByteArray) (i j : Nat) : Prop := ∃ ys, w.ownsRow B 3 1 (.slice (some ⟨h, 0, none⟩) (b.length + 1) (b.length + 1)) (b.length + 1) ys ∧ ∀ k, j ≤ k → k ≤ b.length → ys[k]? = some (.int .i64 (F a b i k : Nat))
theorem Row.start {w : World} {B h : Nat} {a b : List ByteArray} {i : Nat} (hown : w.ownsRow B 3 1 (.slice (some ⟨h, 0, none⟩) (b.length + 1) (b.length + 1)) (b.length + 1) (List.replicate (b.length + 1) (.int .i64 0))) : Row w B h a b i b.length := by
  refine ⟨_, hown, fun k h1 h2 => ?_⟩
  obtain rfl : k = b.length := by omega
  rw [List.getElem?_replicate, if_pos (by omega), F_end2]
  rfl
theorem Row.cell {w : World} {B h : Nat} {a b : List ByteArray} {i j k : Nat} (hr : Row w B h a b i j) (h1 : j ≤ k) (h2 : k ≤ b.length) : w.cell? ⟨h, k, none⟩ = some (.int .i64 (F a b i k : Nat)) := by
  obtain ⟨ys, h3, h4⟩ := hr
  exact own_cell h3 (h4 k h1 h2)
theorem Row.any {w : World} {B h : Nat} {a b : List ByteArray} {i j k : Nat} (hr : Row w B h a b i j) (h2 : k ≤ b.length) : (∃ u, w.cell? ⟨h, k, none⟩ = some u) ∧ w.frozen? ⟨h, k, none⟩ = false := by
  obtain ⟨ys, h3, h4⟩ := hr
  have : k < ys.length := by rw [h3.1]; omega
  exact ⟨⟨ys[k], own_cell h3 (List.getElem?_eq_getElem this)⟩, own_frozen h3 k⟩
theorem Row.store {w : World} {B h : Nat} {a b : List ByteArray} {i j k : Nat} (hr : Row w B h a b i j) (hk : k < j) (h2 : k ≤ b.length) (u : Value) : Row (w.setCell ⟨h, k, none⟩ u) B h a b i j := by
  obtain ⟨ys, h3, h4⟩ := hr
  refine ⟨_, own_store h3 (show k < b.length + 1 by omega) u, fun q h5 h6 => ?_⟩
  rw [List.getElem?_set_ne (by omega)]
  exact h4 q h5 h6
theorem Row.done {w : World} {B h : Nat} {a b : List ByteArray} {i j : Nat} (hr : Row w B h a b i (j + 1)) (h2 : j ≤ b.length) (hc : w.cell? ⟨h, j, none⟩ = some (.int .i64 (F a b i j : Nat))) : Row w B h a b i j := by
  obtain ⟨ys, h3, h4⟩ := hr
  refine ⟨ys, h3, fun k h5 h6 => ?_⟩
  by_cases e : k = j
  · subst e
    have hk : k < ys.length := by rw [h3.1]; omega
    have := own_cell h3 (List.getElem?_eq_getElem hk)
    rw [hc] at this
    injection this with this
    rw [List.getElem?_eq_getElem hk, this]
  · exact h4 k (by omega) h6
theorem Row.lt {w : World} {B h : Nat} {a b : List ByteArray} {i j : Nat} (hr : Row w B h a b i j) : B ≤ h ∧ h < w.heap.size := by
  obtain ⟨ys, h3, h4⟩ := hr
  exact h3.lt h rfl
theorem Row.drew {w : World} {B h : Nat} {a b : List ByteArray} {i j : Nat} (hr : Row w B h a b i j) (n : Nat) : Row (w.drewN n) B h a b i j := hr
theorem Tab.drew {w : World} {B g k : Nat} {r : Nat → Nat} {a b : List ByteArray} (h : Tab w B g r a b k) (n : Nat) : Tab (w.drewN n) B g r a b k := ⟨h.outer, h.cell, h.row, h.apart⟩
theorem Row.drew1 {w : World} {B h : Nat} {a b : List ByteArray} {i j : Nat} (hr : Row w B h a b i j) : Row w.drew B h a b i j := hr
theorem Tab.drew1 {w : World} {B g k : Nat} {r : Nat → Nat} {a b : List ByteArray} (h : Tab w B g r a b k) : Tab w.drew B g r a b k := ⟨h.outer, h.cell, h.row, h.apart⟩
end Go.Proofs.Ytoncghamkedhcaa.Ud

namespace Go.Proofs.Ytoncghamkedhcaa.Ud
open Go.RowKit Tx Um Aq
set_option linter.unusedVariables false
def TableTo (a b : List ByteArray) (w : World) (e : Ending) (w' : World) : Prop := ∃ g r, e = .returned (.slice (some ⟨g, 0, none⟩) (a.length + 1) (a.length + 1)) ∧ Tab w' w.heap.size g r a b 0 ∧ Below w.heap.size w w'
theorem strs_cell {w w1 : World} {A : Option Addr} {l : List ByteArray} {k : Nat} (h : Strs w A l.length l) (hk : k < l.length) (hb : Below w.heap.size w w1) : ∃ b off, A = some ⟨b, off, none⟩ ∧ w1.cell? ⟨b, off + k, none⟩ = some (.string (l[k]'hk)) := by
  obtain ⟨b, off, ha, hlt, hc⟩ := h.2.resolve_left (by omega)
  exact ⟨b, off, ha, (hb.cell (p := ⟨b, off + k, none⟩) hlt).trans (hc k _ (List.getElem?_eq_getElem hk))⟩
set_option maxRecDepth 100000 in
set_option maxHeartbeats 8000000 in
theorem table_any (A B : Option Addr) (ca cb : Nat) (a b : List ByteArray) (w : World) (hm4 : a.length ≤ 400) (hn4 : b.length ≤ 400) (hA : Strs w A a.length a) (hB : Strs w B b.length b) :
    Calls Try.prog 35 #[.slice A a.length ca, .slice B b.length cb] w (TableTo a b w) := by
  obtain ⟨iI, hI, hI0, hI1, hI2⟩ := info_parts infoInt
  obtain ⟨iS, hS, hS0, hS1, hS2⟩ := info_parts infoInts
  have HAS := Lib.hid hA
  have HBS := Lib.hid hB
  clear hA hB
  obtain ⟨m, hm⟩ : ∃ m, m = a.length := ⟨_, rfl⟩
  obtain ⟨n, hn⟩ : ∃ n, n = b.length := ⟨_, rfl⟩
  rw [← hm] at hm4 ⊢
  rw [← hn] at hn4 ⊢
  have HM := Lib.hid hm
  have HN := Lib.hid hn
  clear hm hn
  go_enter Try.func35, Try.ntmps35
  go_wp2_with (at_make; refine wpList_make_full _ rfl _ _ _ rfl w.heap.size 59 iS (.slice none 0 0) 1 Try.underlying62 hS hS0 hS1 _ _ _ _ (m + 1) rfl rfl rfl rfl (by rw [hS2]; omega) (by unfold maxLen; omega) (Nat.le_refl _) ?_)
  intro w1 hown1 hgrow1
  have hB1 : Below w.heap.size w w1 := (Below.refl _ w).grown hgrow1 (Nat.le_refl _) (fun k hk => by cases hk)
  have hsz1 := hB1.size
  obtain ⟨B0, hB0⟩ : ∃ B0, B0 = w.heap.size := ⟨_, rfl⟩
  obtain ⟨g, hg⟩ : ∃ g, g = w.heap.size := ⟨_, rfl⟩
  have hglt : g < w1.heap.size := by rw [hg]; exact (hown1.lt _ rfl).2
  rw [← hg] at hown1 ⊢
  have hgB : B0 ≤ g := by omega
  have hown1 : w1.ownsRow B0 59 1 (.slice (some ⟨g, 0, none⟩) (m + 1) (m + 1)) (m + 1) (madeCells #[.slice none 0 0] (m + 1)).toList := by rw [hB0, ← hg]; exact hown1
  rw [made_zero] at hown1
  rw [← hB0] at hsz1 hB1
  have HB0 := Lib.hid hB0
  clear hg hgrow1 hB0
  go_wp2_with (at_make; refine wpList_make_full _ rfl _ _ _ rfl B0 3 iI (.int .i64 0) 1 Try.underlying59 hI hI0 hI1 _ _ _ _ (n + 1) rfl rfl rfl rfl (by rw [hI2]; omega) (by unfold maxLen; omega) hsz1 ?_)
  intro w2 hown2 hgrow2
  have hB2 : Below B0 w w2 := hB1.grown hgrow2 hsz1 (fun k hk => by cases hk)
  have ho1 : w2.ownsRow B0 59 1 (.slice (some ⟨g, 0, none⟩) (m + 1) (m + 1)) (m + 1) (List.replicate (m + 1) (.slice none 0 0)) := own_stay hown1 (fun q hq => by simp only [Value.ownBlock, Option.some.injEq] at hq; subst hq; exact hgrow2.block _ hglt (by simp))
  obtain ⟨h, hh⟩ : ∃ h, h = w1.heap.size := ⟨_, rfl⟩
  rw [← hh] at hown2 ⊢
  have hne : h ≠ g := by omega
  have ho2 : w2.ownsRow B0 3 1 (.slice (some ⟨h, 0, none⟩) (n + 1) (n + 1)) (n + 1) (List.replicate (n + 1) (.int .i64 0)) := by rw [← made_zero]; simpa using hown2
  have hfz := own_frozen ho1 m
  have hst := own_cell ho1 (k := m) (u := .slice none 0 0) (by rw [List.getElem?_replicate, if_pos (by omega)])
  have HT : Hid (Tab (w2.setCell ⟨g, m, none⟩ (.slice (some ⟨h, 0, none⟩) (n + 1) (n + 1))) B0 g (fun _ => h) a b m) := by
    show Tab _ _ _ _ _ _ _
    rw [HM.out, HN.out] at *
    exact Tab.first hne ho1 ho2
  have hB3 : Below B0 w (w2.setCell ⟨g, m, none⟩ (.slice (some ⟨h, 0, none⟩) (n + 1) (n + 1))) := hB2.setCell (p := ⟨g, m, none⟩) hgB _
  have e1 : (m : Int) < (m : Int) + 1 := by omega
  clear hown1 hown2 ho1 ho2 hgrow2 hh hB1 hB2 hglt hsz1
  go_wp2_with fail
  go_loopw [6, 7, 8] (fun i _ _ wr => ∃ (k : Nat) (r : Nat → Nat), i = .int .i64 ((k : Int) - 1) ∧ k ≤ m ∧ Hid (Tab wr B0 g r a b k) ∧ Below B0 w wr) (fun i _ _ _ => (intOf i + 1).toNat)
  case atStart => exact ⟨m, _, rfl, Nat.le_refl _, HT, hB3⟩
  case round =>
    obtain ⟨k, r, rfl, hk, hT, hb⟩ := hrel
    clear HT hB3 hfz hst
    rcases k with _ | q
    · have e2 : ¬ (0 : Int) ≤ ((0 : Nat) : Int) - 1 := by omega
      go_wp2_with fail
      go_ret
      unfold TableTo
      rw [← HB0.out, ← HM.out]
      exact ⟨g, r, rfl, hT.out, hb⟩
    · rw [show (((q + 1 : Nat) : Int) - 1) = (q : Int) by omega]
      have hsz := hb.size
      have hszB : B0 ≤ wr.heap.size := by have := HB0.out; omega
      go_wp2_with (at_make; refine wpList_make_full _ rfl _ _ _ rfl B0 3 iI (.int .i64 0) 1 Try.underlying59 hI hI0 hI1 _ _ _ _ (n + 1) rfl rfl rfl rfl (by rw [hI2]; omega) (by unfold maxLen; omega) hszB ?_)
      intro w3 hown3 hgrow3
      have hb3 : Below B0 w w3 := hb.grown hgrow3 hszB (fun k hk => by cases hk)
      have hbr : Below wr.heap.size wr w3 := (Below.refl _ wr).grown hgrow3 (Nat.le_refl _) (fun k hk => by cases hk)
      have hT3 := Lib.hid (hT.out.below hbr)
      have hap : Hid (∀ i, q + 1 ≤ i → i ≤ a.length → wr.heap.size ≠ r i) := fun i h2 h3 => by have := (hT.out.apart i h2 h3).2; omega
      have hag : wr.heap.size ≠ g := by have := hT.out.glt.2; omega
      obtain ⟨h, hh⟩ : ∃ h, h = wr.heap.size := ⟨_, rfl⟩
      rw [← hh] at hown3 hap hag ⊢
      have hhB : B0 ≤ h := by omega
      have ho3 : w3.ownsRow B0 3 1 (.slice (some ⟨h, 0, none⟩) (n + 1) (n + 1)) (n + 1) (List.replicate (n + 1) (.int .i64 0)) := by rw [← made_zero]; simpa using hown3
      have hR3 : Hid (Row w3 B0 h a b q n) := by
        show Row _ _ _ _ _ _ _
        rw [HN.out] at *
        exact Row.start ho3
      clear hown3 hgrow3 hbr hT ho3 hb hsz hszB hh
      go_wp2_with fail
      go_loopw [8] (fun j wx => ∃ k : Nat, j = .int .i64 ((k : Int) - 1) ∧ k ≤ n ∧ Hid (Tab wx B0 g r a b (q + 1)) ∧ Hid (Row wx B0 h a b q k) ∧ Below B0 w wx) (fun j _ => (intOf j + 1).toNat)
      case atStart => exact ⟨n, rfl, Nat.le_refl _, hT3, hR3, hb3⟩
      case round =>
        obtain ⟨k, rfl, hkn, hT, hR, hb⟩ := hrel
        clear hT3 hR3 hb3
        rcases k with _ | p
        · have e2 : ¬ (0 : Int) ≤ ((0 : Nat) : Int) - 1 := by omega
          obtain ⟨ys, ho, hys⟩ := hR.out
          have hT4 : Hid (Tab (wr.setCell ⟨g, q, none⟩ (.slice (some ⟨h, 0, none⟩) (n + 1) (n + 1))) B0 g (fun i => if i = q then h else r i) a b q) := by
            show Tab _ _ _ _ _ _ _
            rw [HN.out]
            exact hT.out.next (by rw [← HM.out]; omega) hag hap.out ho (fun j hj => hys j (Nat.zero_le _) hj)
          obtain ⟨xs, hx⟩ := hT.out.outer
          have hfz := own_frozen hx q
          have hst := own_cell hx (List.getElem?_eq_getElem (show q < xs.length by rw [hx.1, ← HM.out]; omega))
          obtain ⟨old, hold⟩ : ∃ old, old = xs[q]'(by rw [hx.1, ← HM.out]; omega) := ⟨_, rfl⟩
          rw [← hold] at hst
          have hqm : (q : Int) < (m : Int) + 1 := by omega
          have hb5 : Below B0 w (wr.setCell ⟨g, q, none⟩ (.slice (some ⟨h, 0, none⟩) (n + 1) (n + 1))) := hb.setCell (p := ⟨g, q, none⟩) hgB _
          clear hx ho hys hR hT hold hb
          go_wp2_with fail
          go_roundw
          case rel => exact ⟨q, _, by go_num, by omega, hT4, hb5⟩
          case measure => simp [intOf]; try omega
        · rw [show (((p + 1 : Nat) : Int) - 1) = (p : Int) by omega]
          have cR := hR.out.cell (k := p + 1) (Nat.le_refl _) (by rw [← HN.out]; omega)
          obtain ⟨⟨old, hst⟩, hfz⟩ := hR.out.any (k := p) (by rw [← HN.out]; omega)
          have c1 := hT.out.cell (q + 1) (Nat.le_refl _) (by rw [← HM.out]; omega)
          have c2 := hT.out.row (q + 1) (Nat.le_refl _) (by rw [← HM.out]; omega) p (by rw [← HN.out]; omega)
          have c3 := hT.out.row (q + 1) (Nat.le_refl _) (by rw [← HM.out]; omega) (p + 1) (by rw [← HN.out]; omega)
          have hrne := hap.out (q + 1) (Nat.le_refl _) (by rw [← HM.out]; omega)
          have hstep := F_step a b q p (by rw [← HM.out]; omega) (by rw [← HN.out]; omega)
          have hP4 := F_le a b q (p + 1)
          have hQ4 := F_le a b (q + 1) p
          have hD4 := F_le a b (q + 1) (p + 1)
          obtain ⟨ba, oa, hAe, ca1⟩ := strs_cell (k := q) HAS.out (by rw [← HM.out]; omega) (by rw [← HB0.out]; exact hb)
          obtain ⟨bb, ob, hBe, cb1⟩ := strs_cell (k := p) HBS.out (by rw [← HN.out]; omega) (by rw [← HB0.out]; exact hb)
          have hba : ba < w.heap.size := by
            obtain ⟨b', o', ha', hlt', _⟩ := HAS.out.2.resolve_left (by rw [← HM.out]; omega)
            rw [hAe] at ha'
            injection ha' with ha'
            injection ha' with ha'
            rw [ha']
            exact hlt'
          have hbb : bb < w.heap.size := by
            obtain ⟨b', o', ha', hlt', _⟩ := HBS.out.2.resolve_left (by rw [← HN.out]; omega)
            rw [hBe] at ha'
            injection ha' with ha'
            injection ha' with ha'
            rw [ha']
            exact hlt'
          rw [← HB0.out] at hba hbb
          rw [hAe, hBe]
          obtain ⟨P, hP⟩ : ∃ P, P = F a b q (p + 1) := ⟨_, rfl⟩
          obtain ⟨Q, hQ⟩ : ∃ Q, Q = F a b (q + 1) p := ⟨_, rfl⟩
          obtain ⟨E, hE⟩ : ∃ E, E = F a b (q + 1) (p + 1) := ⟨_, rfl⟩
          obtain ⟨Z, hZ⟩ : ∃ Z, Z = F a b q p := ⟨_, rfl⟩
          obtain ⟨rq, hrq⟩ : ∃ rq, rq = r (q + 1) := ⟨_, rfl⟩
          obtain ⟨S, hS⟩ : ∃ S, S = a[q]'(by rw [← HM.out]; omega) := ⟨_, rfl⟩
          obtain ⟨T, hT0⟩ : ∃ T, T = b[p]'(by rw [← HN.out]; omega) := ⟨_, rfl⟩
          rw [← hP] at cR hstep hP4
          rw [← hQ] at c2 hstep hQ4
          rw [← hE] at c3 hstep hD4
          rw [← hZ] at hstep
          rw [← HM.out] at hP4 hQ4 hD4
          rw [← hS] at ca1 hstep
          rw [← hT0] at cb1 hstep
          rw [← hrq] at c1 c2 c3 hrne
          rw [← HN.out] at c1
          have HZ := Lib.hid hZ
          clear hP hQ hE hZ hS hT0 hrq
          have f1 : (p : Int) + 1 < (n : Int) + 1 := by omega
          have f2 : (p : Int) < (n : Int) + 1 := by omega
          have f3 : (q : Int) + 1 < (m : Int) + 1 := by omega
          have f4 : (q : Int) < (m : Int) := by omega
          have f5 : (p : Int) < (n : Int) := by omega
          -- behind the first store
          have k1 : (wr.setCell ⟨h, p, none⟩ (.int .i64 P)).cell? ⟨g, q + 1, none⟩ = some (.slice (some ⟨rq, 0, none⟩) (n + 1) (n + 1)) := (World.cell?_setCell_other _ _ _ _ (fun e => hag (by injection e))).trans c1
          have k2 : (wr.setCell ⟨h, p, none⟩ (.int .i64 P)).cell? ⟨rq, p, none⟩ = some (.int .i64 Q) := (World.cell?_setCell_other _ _ _ _ (fun e => hrne (by injection e))).trans c2
          have k3 : (wr.setCell ⟨h, p, none⟩ (.int .i64 P)).cell? ⟨rq, p + 1, none⟩ = some (.int .i64 E) := (World.cell?_setCell_other _ _ _ _ (fun e => hrne (by injection e))).trans c3
          have k4 : (wr.setCell ⟨h, p, none⟩ (.int .i64 P)).cell? ⟨h, p, none⟩ = some (.int .i64 P) := World.cell?_setCell_same wr _ _ hst
          have k5 : (wr.setCell ⟨h, p, none⟩ (.int .i64 P)).cell? ⟨ba, oa + q, none⟩ = some (.string S) := (World.cell?_setCell_other _ _ _ _ (fun e => by injection e; omega)).trans ca1
          have k6 : (wr.setCell ⟨h, p, none⟩ (.int .i64 P)).cell? ⟨bb, ob + p, none⟩ = some (.string T) := (World.cell?_setCell_other _ _ _ _ (fun e => by injection e; omega)).trans cb1
          have hT1 := Lib.hid (hT.out.store (j := p) hag hap.out (.int .i64 P))
          have hR1 := Lib.hid (hR.out.store (Nat.lt_succ_self p) (by rw [← HN.out]; omega) (.int .i64 P))
          have hb1 : Below B0 w (wr.setCell ⟨h, p, none⟩ (.int .i64 P)) := hb.setCell (p := ⟨h, p, none⟩) hhB _
          clear hT hR
          go_wp2_with fail
          generalize wr.setCell ⟨h, p, none⟩ (.int .i64 P) = W1 at k1 k2 k3 k4 k5 k6 hT1 hR1 hb1 ⊢
          clear hst hfz cR c1 c2 c3 ca1 cb1 hb
          obtain ⟨_, hfz1⟩ := hR1.out.any (k := p) (by rw [← HN.out]; omega)
          have wq : IntKind.i64.wrap ((q : Int) + 1) = (q : Int) + 1 := IntWalk.i64_in _ (by omega)
          have wp : IntKind.i64.wrap ((p : Int) + 1) = (p : Int) + 1 := IntWalk.i64_in _ (by omega)
          have wE : IntKind.i64.wrap ((E : Int) + 1) = (E : Int) + 1 := IntWalk.i64_in _ (by omega)
          have nq : ((q : Int) + 1).toNat = q + 1 := by omega
          have np : ((p : Int) + 1).toNat = p + 1 := by omega
          have zq : (0 : Int) ≤ (q : Int) + 1 := by omega
          have zp : (0 : Int) ≤ (p : Int) + 1 := by omega
          by_cases hPQ : P < Q
          · have g1 : (P : Int) < (Q : Int) := by omega
            go_region
            go_wp2_with fail
            have k1' : (W1.setCell ⟨h, p, none⟩ (.int .i64 Q)).cell? ⟨g, q + 1, none⟩ = some (.slice (some ⟨rq, 0, none⟩) (n + 1) (n + 1)) := (World.cell?_setCell_other _ _ _ _ (fun e => hag (by injection e))).trans k1
            have k2' : (W1.setCell ⟨h, p, none⟩ (.int .i64 Q)).cell? ⟨rq, p, none⟩ = some (.int .i64 Q) := (World.cell?_setCell_other _ _ _ _ (fun e => hrne (by injection e))).trans k2
            have k3' : (W1.setCell ⟨h, p, none⟩ (.int .i64 Q)).cell? ⟨rq, p + 1, none⟩ = some (.int .i64 E) := (World.cell?_setCell_other _ _ _ _ (fun e => hrne (by injection e))).trans k3
            have k4' : (W1.setCell ⟨h, p, none⟩ (.int .i64 Q)).cell? ⟨h, p, none⟩ = some (.int .i64 Q) := World.cell?_setCell_same W1 _ _ k4
            have k5' : (W1.setCell ⟨h, p, none⟩ (.int .i64 Q)).cell? ⟨ba, oa + q, none⟩ = some (.string S) := (World.cell?_setCell_other _ _ _ _ (fun e => by injection e; omega)).trans k5
            have k6' : (W1.setCell ⟨h, p, none⟩ (.int .i64 Q)).cell? ⟨bb, ob + p, none⟩ = some (.string T) := (World.cell?_setCell_other _ _ _ _ (fun e => by injection e; omega)).trans k6
            have hT2 := Lib.hid (hT1.out.store (j := p) hag hap.out (.int .i64 Q))
            have hR2 := Lib.hid (hR1.out.store (Nat.lt_succ_self p) (by rw [← HN.out]; omega) (.int .i64 Q))
            have hb2 : Below B0 w (W1.setCell ⟨h, p, none⟩ (.int .i64 Q)) := hb1.setCell (p := ⟨h, p, none⟩) hhB _
            clear hT1 hR1 hb1 k1 k2 k3 k4 k5 k6 hfz1
            generalize W1.setCell ⟨h, p, none⟩ (.int .i64 Q) = W2 at *
            have k4 := k4'
            obtain ⟨_, hfz2⟩ := hR2.out.any (k := p) (by rw [← HN.out]; omega)
            by_cases he : S = T
            · have e3 : (S.toList == T.toList) = true := by rw [he]; exact beq_self_eq_true _
              rw [if_pos he] at hstep
              clear he
              by_cases hx : Q < E + 1
              · have g2 : (Q : Int) < (E : Int) + 1 := by omega
                have hz : Z = E + 1 := by omega
                clear hstep
                go_region
                go_wp2_with fail
                go_roundw
                case rel => exact ⟨p, by go_num, by omega, Lib.hid (hT2.out.store hag hap.out _).drew1.drew1, Lib.hid (Row.drew1 (Row.drew1 ((hR2.out.store (Nat.lt_succ_self p) (by rw [← HN.out]; omega) _).done (by rw [← HN.out]; omega) (by rw [← HZ.out, show ((Z : Nat) : Int) = (E : Int) + 1 by omega]; exact World.cell?_setCell_same _ _ _ k4)))), (hb2.setCell (p := ⟨h, p, none⟩) hhB _).drew.drew⟩
                case measure => simp [intOf]; try omega
              · have g2 : ¬ (Q : Int) < (E : Int) + 1 := by omega
                have hz : Z = Q := by omega
                clear hstep
                go_region
                go_wp2_with fail
                go_roundw
                case rel => exact ⟨p, by go_num, by omega, Lib.hid hT2.out.drew1.drew1, Lib.hid (Row.drew1 (Row.drew1 (hR2.out.done (by rw [← HN.out]; omega) (by rw [← HZ.out, hz]; exact k4)))), hb2.drew.drew⟩
                case measure => simp [intOf]; try omega
            · have e3 : (S.toList == T.toList) = false := bytes_ne he
              rw [if_neg he] at hstep
              have hz : Z = Q := by omega
              clear hstep he
              go_region
              go_wp2_with fail
              go_roundw
              case rel => exact ⟨p, by go_num, by omega, Lib.hid hT2.out.drew1.drew1, Lib.hid (Row.drew1 (Row.drew1 (hR2.out.done (by rw [← HN.out]; omega) (by rw [← HZ.out, hz]; exact k4)))), hb2.drew.drew⟩
              case measure => simp [intOf]; try omega
          · have g1 : ¬ (P : Int) < (Q : Int) := by omega
            go_region
            go_wp2_with fail
            have hT2 := hT1
            have hR2 := hR1
            have hb2 := hb1
            clear hT1 hR1 hb1 hfz1
            obtain ⟨_, hfz2⟩ := hR2.out.any (k := p) (by rw [← HN.out]; omega)
            by_cases he : S = T
            · have e3 : (S.toList == T.toList) = true := by rw [he]; exact beq_self_eq_true _
              rw [if_pos he] at hstep
              clear he
              by_cases hx : P < E + 1
              · have g2 : (P : Int) < (E : Int) + 1 := by omega
                have hz : Z = E + 1 := by omega
                clear hstep
                go_region
                go_wp2_with fail
                go_roundw
                case rel => exact ⟨p, by go_num, by omega, Lib.hid (hT2.out.store hag hap.out _).drew1.drew1, Lib.hid (Row.drew1 (Row.drew1 ((hR2.out.store (Nat.lt_succ_self p) (by rw [← HN.out]; omega) _).done (by rw [← HN.out]; omega) (by rw [← HZ.out, show ((Z : Nat) : Int) = (E : Int) + 1 by omega]; exact World.cell?_setCell_same _ _ _ k4)))), (hb2.setCell (p := ⟨h, p, none⟩) hhB _).drew.drew⟩
                case measure => simp [intOf]; try omega
              · have g2 : ¬ (P : Int) < (E : Int) + 1 := by omega
                have hz : Z = P := by omega
                clear hstep
                go_region
                go_wp2_with fail
                go_roundw
                case rel => exact ⟨p, by go_num, by omega, Lib.hid hT2.out.drew1.drew1, Lib.hid (Row.drew1 (Row.drew1 (hR2.out.done (by rw [← HN.out]; omega) (by rw [← HZ.out, hz]; exact k4)))), hb2.drew.drew⟩
                case measure => simp [intOf]; try omega
            · have e3 : (S.toList == T.toList) = false := bytes_ne he
              rw [if_neg he] at hstep
              have hz : Z = P := by omega
              clear hstep he
              go_region
              go_wp2_with fail
              go_roundw
              case rel => exact ⟨p, by go_num, by omega, Lib.hid hT2.out.drew1.drew1, Lib.hid (Row.drew1 (Row.drew1 (hR2.out.done (by rw [← HN.out]; omega) (by rw [← HZ.out, hz]; exact k4)))), hb2.drew.drew⟩
              case measure => simp [intOf]; try omega
end Go.Proofs.Ytoncghamkedhcaa.Ud

namespace Go.Proofs.Ytoncghamkedhcaa.Ud
open Go.RowKit Tx Um Aq
set_option linter.unusedVariables false
def iv (n : Nat) : Value := .int .i64 (n : Int)
theorem iv_one (l : List Nat) : ∀ u ∈ l.map iv, u.oneCell' = true := by
  intro u hu
  obtain ⟨s, _, rfl⟩ := List.mem_map.1 hu
  rfl
def Ints (w : World) (B : Nat) (v : Value) (l : List Nat) : Prop := w.ownsRow B 3 1 v l.length (l.map iv)
theorem Ints.below {w w1 : World} {B : Nat} {v : Value} {l : List Nat} (h : Ints w B v l) (hb : Below w.heap.size w w1) : Ints w1 B v l := by
  refine ⟨h.1, ?_⟩
  rcases h.2 with h0 | ⟨g', cap', cur, hv, hg, hh, r⟩
  · exact .inl h0
  · exact .inr ⟨g', cap', cur, hv, hg, (hb.block g' (Array.getElem?_eq_some_iff.1 hh).1).trans hh, r⟩
theorem own_base {w : World} {B B2 n : Nat} {e : TypeId} {s : Nat} {v : Value} {xs : List Value} (h : w.ownsRow B e s v n xs) (hB : B2 ≤ B) : w.ownsRow B2 e s v n xs := by
  refine ⟨h.1, ?_⟩
  rcases h.2 with h0 | ⟨g, cap, cur, hv, hg, r⟩
  · exact .inl h0
  · exact .inr ⟨g, cap, cur, hv, by omega, r⟩
def IntsTo (l : List Nat) (w : World) (e : Ending) (w' : World) : Prop := ∃ v, e = .returned v ∧ Ints w' w.heap.size v l ∧ Below w.heap.size w w'
def St (a b : List ByteArray) (pre : List Nat) (i j : Nat) : Prop := i ≤ a.length ∧ j ≤ b.length ∧ steps a b = pre ++ steps (a.drop i) (b.drop j) ∧ pre.length ≤ i + j
theorem st_start (a b : List ByteArray) : St a b [] 0 0 := ⟨Nat.zero_le _, Nat.zero_le _, rfl, Nat.zero_le _⟩
theorem st_keep {a b : List ByteArray} {pre : List Nat} {i j : Nat} (h : St a b pre i j) (hi : i < a.length) (hj : j < b.length) (he : a[i] = b[j]) : St a b (pre ++ [0]) (i + 1) (j + 1) := by
  obtain ⟨h1, h2, h3, h4⟩ := h
  refine ⟨hi, hj, ?_, by simp; omega⟩
  rw [h3, List.drop_eq_getElem_cons hi, List.drop_eq_getElem_cons hj, steps_cons, if_pos he]
  simp
theorem st_drop {a b : List ByteArray} {pre : List Nat} {i j : Nat} (h : St a b pre i j) (hi : i < a.length) (hj : j = b.length ∨ ∃ hj : j < b.length, a[i] ≠ b[j] ∧ ¬ F a b (i + 1) j < F a b i (j + 1)) : St a b (pre ++ [1]) (i + 1) j := by
  obtain ⟨h1, h2, h3, h4⟩ := h
  refine ⟨hi, h2, ?_, by simp; omega⟩
  rw [h3]
  rcases hj with rfl | ⟨hj, h5, h6⟩
  · rw [List.drop_length, List.drop_eq_getElem_cons hi, steps_drop]
    simp
  · unfold F at h6
    have e : lcs (a.drop (i + 1)) (b[j] :: b.drop (j + 1)) = lcs (a.drop (i + 1)) (b.drop j) := by rw [← List.drop_eq_getElem_cons hj]
    have e2 : lcs (a[i] :: a.drop (i + 1)) (b.drop (j + 1)) = lcs (a.drop i) (b.drop (j + 1)) := by rw [← List.drop_eq_getElem_cons hi]
    conv => lhs; rw [List.drop_eq_getElem_cons hi, List.drop_eq_getElem_cons hj, steps_cons, if_neg h5, if_neg (by rw [e, e2]; exact h6), ← List.drop_eq_getElem_cons hj]
    simp
theorem st_add {a b : List ByteArray} {pre : List Nat} {i j : Nat} (h : St a b pre i j) (hj : j < b.length) (hi : i = a.length ∨ ∃ hi : i < a.length, a[i] ≠ b[j] ∧ F a b (i + 1) j < F a b i (j + 1)) : St a b (pre ++ [2]) i (j + 1) := by
  obtain ⟨h1, h2, h3, h4⟩ := h
  refine ⟨h1, hj, ?_, by simp; omega⟩
  rw [h3]
  rcases hi with rfl | ⟨hi, h5, h6⟩
  · rw [List.drop_length, List.drop_eq_getElem_cons hj, steps_add]
    simp
  · unfold F at h6
    have e : lcs (a.drop (i + 1)) (b[j] :: b.drop (j + 1)) = lcs (a.drop (i + 1)) (b.drop j) := by rw [← List.drop_eq_getElem_cons hj]
    have e2 : lcs (a[i] :: a.drop (i + 1)) (b.drop (j + 1)) = lcs (a.drop i) (b.drop (j + 1)) := by rw [← List.drop_eq_getElem_cons hi]
    conv => lhs; rw [List.drop_eq_getElem_cons hi, List.drop_eq_getElem_cons hj, steps_cons, if_neg h5, if_pos (by rw [e, e2]; exact h6), ← List.drop_eq_getElem_cons hi]
    simp
theorem st_end {a b : List ByteArray} {pre : List Nat} {i j : Nat} (h : St a b pre i j) (hi : i = a.length) (hj : j = b.length) : steps a b = pre := by
  rw [h.2.2.1, hi, hj, List.drop_length, List.drop_length, steps_nil, List.append_nil]
set_option maxRecDepth 100000 in
set_option maxHeartbeats 8000000 in
theorem steps_any (A B : Option Addr) (ca cb : Nat) (a b : List ByteArray) (w : World) (hm4 : a.length ≤ 400) (hn4 : b.length ≤ 400) (hA : Strs w A a.length a) (hB : Strs w B b.length b) :
    Calls Try.prog 33 #[.slice A a.length ca, .slice B b.length cb] w (IntsTo (steps a b) w) := by
  obtain ⟨iI, hI, hI0, hI1, hI2⟩ := info_parts infoInt
  have ct := table_any A B ca cb a b w hm4 hn4 hA hB
  unfold TableTo at ct
  have HAS := Lib.hid hA
  have HBS := Lib.hid hB
  clear hA hB
  have HST := Lib.hid (st_start a b)
  obtain ⟨m, hm⟩ : ∃ m, m = a.length := ⟨_, rfl⟩
  obtain ⟨n, hn⟩ : ∃ n, n = b.length := ⟨_, rfl⟩
  rw [← hm] at hm4 ct ⊢
  rw [← hn] at hn4 ct ⊢
  have HM := Lib.hid hm
  have HN := Lib.hid hn
  clear hm hn
  go_enter Try.func33, Try.ntmps33
  go_wp2_with fail
  go_at_call 35
  refine ct.mono ?_
  rintro e wt ⟨g, r, rfl, hT, hbt⟩
  have HT := Lib.hid hT
  have HBT := Lib.hid hbt
  clear hT hbt ct
  go_wp2_with fail
  go_loopw [6, 7, 8] (fun v i j wr => ∃ (pre : List Nat) (p q : Nat), i = .int .i64 p ∧ j = .int .i64 q ∧ Hid (St a b pre p q) ∧ Ints wr wt.heap.size v pre ∧ Below wt.heap.size wt wr) (fun _ i j _ => m + n - (intOf i).toNat - (intOf j).toNat)
  case atStart => exact ⟨[], 0, 0, rfl, rfl, HST, World.ownsRow_nil _ _ _ _, Below.refl _ _⟩
  case round =>
    obtain ⟨pre, p, q, rfl, rfl, HS, htx, hb⟩ := hrel
    have hp := HS.out.1
    have hq := HS.out.2.1
    have hpl := HS.out.2.2.2
    rw [← HM.out] at hp
    rw [← HN.out] at hq
    have hsz := hb.size
    clear HST
    by_cases hpm : p < m
    · have e1 : (p : Int) < (m : Int) := by omega
      by_cases hqn : q < n
      · have e2 : (q : Int) < (n : Int) := by omega
        have hBw : Below w.heap.size w wr := HBT.out.trans (hb.mono HBT.out.size)
        obtain ⟨ba, oa, hAe, c1⟩ := strs_cell (k := p) HAS.out (by rw [← HM.out]; omega) hBw
        obtain ⟨bb, ob, hBe, c2⟩ := strs_cell (k := q) HBS.out (by rw [← HN.out]; omega) hBw
        rw [hAe, hBe]
        obtain ⟨S, hS⟩ : ∃ S, S = a[p]'(by rw [← HM.out]; omega) := ⟨_, rfl⟩
        obtain ⟨T, hT0⟩ : ∃ T, T = b[q]'(by rw [← HN.out]; omega) := ⟨_, rfl⟩
        rw [← hS] at c1
        rw [← hT0] at c2
        by_cases he : S = T
        · have e3 : (S.toList == T.toList) = true := by rw [he]; exact beq_self_eq_true _
          have HS2 := Lib.hid (st_keep HS.out (by rw [← HM.out]; omega) (by rw [← HN.out]; omega) (by rw [← hS, ← hT0]; exact he))
          clear hS hT0 he HS
          go_wp2_with fail
          go_region
          have hown : (wr.drewN 1).ownsRow wt.heap.size 3 1 _ pre.length (pre.map iv) := htx
          have hbd : Below wt.heap.size wt (wr.drewN 1) := ⟨hb.os, hb.tape, hb.output, hb.size, hb.block⟩
          have hpl2 : pre.length ≤ 800 := by omega
          have hszd : wt.heap.size ≤ (wr.drewN 1).heap.size := hsz
          have hww : wr.drew = wr.drewN 1 := rfl
          rw [hww]
          generalize wr.drewN 1 = wd at hown hbd hszd ⊢
          clear htx hb hsz hww
          go_wp2_with (at_builtin; refine wpList_append_own _ rfl _ _ 59 rfl wt.heap.size 3 iI (.int .i64 0) 1 8 Try.underlying59 hI hI0 hI1 hI2 rfl (by decide) _ _ _ rfl (hown.alloc _) ⟨wd.heap.size, 0, none⟩ 1 1 [iv 0] rfl rfl ?c1 ?c2 ?c3 ?c4 ?c5 ?_)
          case c1 => exact cell_one_new _ _ _
          case c2 => exact iv_one [0]
          case c3 => unfold maxLen; omega
          case c4 => omega
          case c5 => simp; omega
          intro v' w2 hown' hgrow _
          have hb3 := below_step hbd hown hgrow
          have htx2 : Ints w2 wt.heap.size v' (pre ++ [0]) := by
            unfold Ints
            rw [List.length_append, List.map_append]
            exact hown'
          clear hown hown' hgrow hbd
          go_wp2_with fail
          go_roundw
          case rel => exact ⟨pre ++ [0], p + 1, q + 1, by go_num, by go_num, HS2, htx2, hb3⟩
          case measure => simp only [intOf]; omega
        · have e3 : (S.toList == T.toList) = false := bytes_ne he
          have e4 : ((q : Int) == (n : Int)) = false := beq_eq_false_iff_ne.2 (by omega)
          have e5 : ((p : Int) == (m : Int)) = false := beq_eq_false_iff_ne.2 (by omega)
          have hTw := HT.out.below hb
          have d1 := hTw.cell (p + 1) (Nat.zero_le _) (by rw [← HM.out]; omega)
          have d2 := hTw.cell p (Nat.zero_le _) (by rw [← HM.out]; omega)
          have d3 := hTw.row (p + 1) (Nat.zero_le _) (by rw [← HM.out]; omega) q (by rw [← HN.out]; omega)
          have d4 := hTw.row p (Nat.zero_le _) (by rw [← HM.out]; omega) (q + 1) (by rw [← HN.out]; omega)
          have hX4 := F_le a b (p + 1) q
          have hY4 := F_le a b p (q + 1)
          rw [← HN.out] at d1 d2
          rw [← HM.out] at hX4 hY4
          obtain ⟨r1, hr1⟩ : ∃ r1, r1 = r (p + 1) := ⟨_, rfl⟩
          obtain ⟨r2, hr2⟩ : ∃ r2, r2 = r p := ⟨_, rfl⟩
          rw [← hr1] at d1 d3
          rw [← hr2] at d2 d4
          have wq : IntKind.i64.wrap ((q : Int) + 1) = (q : Int) + 1 := IntWalk.i64_in _ (by omega)
          have wp : IntKind.i64.wrap ((p : Int) + 1) = (p : Int) + 1 := IntWalk.i64_in _ (by omega)
          have nq : ((q : Int) + 1).toNat = q + 1 := by omega
          have np : ((p : Int) + 1).toNat = p + 1 := by omega
          have zq : (0 : Int) ≤ (q : Int) + 1 := by omega
          have zp : (0 : Int) ≤ (p : Int) + 1 := by omega
          have f1 : (p : Int) + 1 < (m : Int) + 1 := by omega
          have f2 : (p : Int) < (m : Int) + 1 := by omega
          have f3 : (q : Int) + 1 < (n : Int) + 1 := by omega
          have f4 : (q : Int) < (n : Int) + 1 := by omega
          by_cases hlt : F a b (p + 1) q < F a b p (q + 1)
          · have HS2 := Lib.hid (st_add HS.out (by rw [← HN.out]; omega) (.inr ⟨by rw [← HM.out]; omega, by rw [← hS, ← hT0]; exact he, hlt⟩))
            obtain ⟨X, hX⟩ : ∃ X, X = F a b (p + 1) q := ⟨_, rfl⟩
            obtain ⟨Y, hY⟩ : ∃ Y, Y = F a b p (q + 1) := ⟨_, rfl⟩
            rw [← hX] at d3 hlt hX4
            rw [← hY] at d4 hlt hY4
            have g1 : (X : Int) < (Y : Int) := by omega
            clear hX hY hr1 hr2 hTw hS hT0 he HS
            go_wp2_with fail
            go_region
            go_wp2_with fail
            go_region
            have hown : (wr.drewN 2).ownsRow wt.heap.size 3 1 _ pre.length (pre.map iv) := htx
            have hbd : Below wt.heap.size wt (wr.drewN 2) := ⟨hb.os, hb.tape, hb.output, hb.size, hb.block⟩
            have hpl2 : pre.length ≤ 800 := by omega
            have hszd : wt.heap.size ≤ (wr.drewN 2).heap.size := hsz
            have hww : wr.drew.drew = wr.drewN 2 := rfl
            rw [hww]
            generalize wr.drewN 2 = wd at hown hbd hszd ⊢
            clear htx hb hsz hww
            go_wp2_with (at_builtin; refine wpList_append_own _ rfl _ _ 59 rfl wt.heap.size 3 iI (.int .i64 0) 1 8 Try.underlying59 hI hI0 hI1 hI2 rfl (by decide) _ _ _ rfl (hown.alloc _) ⟨wd.heap.size, 0, none⟩ 1 1 [iv 2] rfl rfl ?c1 ?c2 ?c3 ?c4 ?c5 ?_)
            case c1 => exact cell_one_new _ _ _
            case c2 => exact iv_one [2]
            case c3 => unfold maxLen; omega
            case c4 => omega
            case c5 => simp; omega
            intro v' w2 hown' hgrow _
            have hb3 := below_step hbd hown hgrow
            have htx2 : Ints w2 wt.heap.size v' (pre ++ [2]) := by
              unfold Ints
              rw [List.length_append, List.map_append]
              exact hown'
            clear hown hown' hgrow hbd
            go_wp2_with fail
            go_roundw
            case rel => exact ⟨pre ++ [2], p, q + 1, by go_num, by go_num, HS2, htx2, hb3⟩
            case measure => simp only [intOf]; omega
          · have HS2 := Lib.hid (st_drop HS.out (by rw [← HM.out]; omega) (.inr ⟨by rw [← HN.out]; omega, by rw [← hS, ← hT0]; exact he, hlt⟩))
            obtain ⟨X, hX⟩ : ∃ X, X = F a b (p + 1) q := ⟨_, rfl⟩
            obtain ⟨Y, hY⟩ : ∃ Y, Y = F a b p (q + 1) := ⟨_, rfl⟩
            rw [← hX] at d3 hlt hX4
            rw [← hY] at d4 hlt hY4
            have g1 : ¬ (X : Int) < (Y : Int) := by omega
            clear hX hY hr1 hr2 hTw hS hT0 he HS
            go_wp2_with fail
            go_region
            go_wp2_with fail
            go_region
            have hown : (wr.drewN 2).ownsRow wt.heap.size 3 1 _ pre.length (pre.map iv) := htx
            have hbd : Below wt.heap.size wt (wr.drewN 2) := ⟨hb.os, hb.tape, hb.output, hb.size, hb.block⟩
            have hpl2 : pre.length ≤ 800 := by omega
            have hszd : wt.heap.size ≤ (wr.drewN 2).heap.size := hsz
            have hww : wr.drew.drew = wr.drewN 2 := rfl
            rw [hww]
            generalize wr.drewN 2 = wd at hown hbd hszd ⊢
            clear htx hb hsz hww
            go_wp2_with (at_builtin; refine wpList_append_own _ rfl _ _ 59 rfl wt.heap.size 3 iI (.int .i64 0) 1 8 Try.underlying59 hI hI0 hI1 hI2 rfl (by decide) _ _ _ rfl (hown.alloc _) ⟨wd.heap.size, 0, none⟩ 1 1 [iv 1] rfl rfl ?c1 ?c2 ?c3 ?c4 ?c5 ?_)
            case c1 => exact cell_one_new _ _ _
            case c2 => exact iv_one [1]
            case c3 => unfold maxLen; omega
            case c4 => omega
            case c5 => simp; omega
            intro v' w2 hown' hgrow _
            have hb3 := below_step hbd hown hgrow
            have htx2 : Ints w2 wt.heap.size v' (pre ++ [1]) := by
              unfold Ints
              rw [List.length_append, List.map_append]
              exact hown'
            clear hown hown' hgrow hbd
            go_wp2_with fail
            go_roundw
            case rel => exact ⟨pre ++ [1], p + 1, q, by go_num, by go_num, HS2, htx2, hb3⟩
            case measure => simp only [intOf]; omega
      · have hqe : q = n := by omega
        have e2 : ¬ (q : Int) < (n : Int) := by omega
        have e4 : ((q : Int) == (n : Int)) = true := beq_iff_eq.2 (by omega)
        have HS2 := Lib.hid (st_drop HS.out (by rw [← HM.out]; omega) (.inl (by rw [← HN.out]; exact hqe)))
        clear HS hqe
        go_wp2_with fail
        go_region
        have hown : (wr.drewN 1).ownsRow wt.heap.size 3 1 _ pre.length (pre.map iv) := htx
        have hbd : Below wt.heap.size wt (wr.drewN 1) := ⟨hb.os, hb.tape, hb.output, hb.size, hb.block⟩
        have hpl2 : pre.length ≤ 800 := by omega
        have hszd : wt.heap.size ≤ (wr.drewN 1).heap.size := hsz
        have hww : wr.drew = wr.drewN 1 := rfl
        rw [hww]
        generalize wr.drewN 1 = wd at hown hbd hszd ⊢
        clear htx hb hsz hww
        go_wp2_with (at_builtin; refine wpList_append_own _ rfl _ _ 59 rfl wt.heap.size 3 iI (.int .i64 0) 1 8 Try.underlying59 hI hI0 hI1 hI2 rfl (by decide) _ _ _ rfl (hown.alloc _) ⟨wd.heap.size, 0, none⟩ 1 1 [iv 1] rfl rfl ?c1 ?c2 ?c3 ?c4 ?c5 ?_)
        case c1 => exact cell_one_new _ _ _
        case c2 => exact iv_one [1]
        case c3 => unfold maxLen; omega
        case c4 => omega
        case c5 => simp; omega
        intro v' w2 hown' hgrow _
        have hb3 := below_step hbd hown hgrow
        have htx2 : Ints w2 wt.heap.size v' (pre ++ [1]) := by
          unfold Ints
          rw [List.length_append, List.map_append]
          exact hown'
        clear hown hown' hgrow hbd
        go_wp2_with fail
        go_roundw
        case rel => exact ⟨pre ++ [1], p + 1, q, by go_num, by go_num, HS2, htx2, hb3⟩
        case measure => simp only [intOf]; omega
    · have hpe : p = m := by omega
      have e1 : ¬ (p : Int) < (m : Int) := by omega
      by_cases hqn : q < n
      · have e2 : (q : Int) < (n : Int) := by omega
        have e4 : ((q : Int) == (n : Int)) = false := beq_eq_false_iff_ne.2 (by omega)
        have e5 : ((p : Int) == (m : Int)) = true := beq_iff_eq.2 (by omega)
        have HS2 := Lib.hid (st_add HS.out (by rw [← HN.out]; omega) (.inl (by rw [← HM.out]; exact hpe)))
        clear HS hpe
        go_wp2_with fail
        go_region
        go_wp2_with fail
        go_region
        have hown : (wr.drewN 2).ownsRow wt.heap.size 3 1 _ pre.length (pre.map iv) := htx
        have hbd : Below wt.heap.size wt (wr.drewN 2) := ⟨hb.os, hb.tape, hb.output, hb.size, hb.block⟩
        have hpl2 : pre.length ≤ 800 := by omega
        have hszd : wt.heap.size ≤ (wr.drewN 2).heap.size := hsz
        have hww : wr.drew.drew = wr.drewN 2 := rfl
        rw [hww]
        generalize wr.drewN 2 = wd at hown hbd hszd ⊢
        clear htx hb hsz hww
        go_wp2_with (at_builtin; refine wpList_append_own _ rfl _ _ 59 rfl wt.heap.size 3 iI (.int .i64 0) 1 8 Try.underlying59 hI hI0 hI1 hI2 rfl (by decide) _ _ _ rfl (hown.alloc _) ⟨wd.heap.size, 0, none⟩ 1 1 [iv 2] rfl rfl ?c1 ?c2 ?c3 ?c4 ?c5 ?_)
        case c1 => exact cell_one_new _ _ _
        case c2 => exact iv_one [2]
        case c3 => unfold maxLen; omega
        case c4 => omega
        case c5 => simp; omega
        intro v' w2 hown' hgrow _
        have hb3 := below_step hbd hown hgrow
        have htx2 : Ints w2 wt.heap.size v' (pre ++ [2]) := by
          unfold Ints
          rw [List.length_append, List.map_append]
          exact hown'
        clear hown hown' hgrow hbd
        go_wp2_with fail
        go_roundw
        case rel => exact ⟨pre ++ [2], p, q + 1, by go_num, by go_num, HS2, htx2, hb3⟩
        case measure => simp only [intOf]; omega
      · have e2 : ¬ (q : Int) < (n : Int) := by omega
        have HE := Lib.hid (st_end HS.out (by rw [← HM.out]; exact hpe) (by rw [← HN.out]; omega))
        clear HS hpe
        go_wp2_with fail
        go_ret
        have hBw : Below w.heap.size w wr := HBT.out.trans (hb.mono HBT.out.size)
        unfold IntsTo
        rw [HE.out]
        exact ⟨_, rfl, own_base htx HBT.out.size, hBw⟩
end Go.Proofs.Ytoncghamkedhcaa.Ud

namespace Go.Proofs.Ytoncghamkedhcaa.Ud
open Go.RowKit Tx Um Aq
set_option linter.unusedVariables false
theorem infoEdit : (Try.prog.info? 68).map (fun i => (i.zero, i.size, i.bytes)) = some (some (.agg #[.int .i64 0, .int .i64 0]), 2, 16) := by kernel_rfl
theorem infoPair : (Try.prog.info? 49).map (fun i => (i.zero, i.size, i.bytes)) = some (some (.agg #[.int .i64 0, .int .i64 0]), 2, 16) := by kernel_rfl
def c2 (x : Nat × Nat) : List Value := [iv x.1, iv x.2]
theorem c2_one (x : Nat × Nat) : ∀ u ∈ c2 x, u.oneCell' = true := by
  intro u hu
  rcases List.mem_cons.1 hu with rfl | hu
  · rfl
  · obtain rfl := List.mem_singleton.1 hu
    rfl
theorem flat2_len (l : List (Nat × Nat)) : (l.flatMap c2).length = l.length * 2 := by
  induction l with
  | nil => rfl
  | cons x l ih => rw [List.flatMap_cons, List.length_append, ih, List.length_cons]; show 2 + _ = _; omega
theorem flat2_get (l : List (Nat × Nat)) (k : Nat) (x : Nat × Nat) (h : l[k]? = some x) : (l.flatMap c2)[k * 2]? = some (iv x.1) ∧ (l.flatMap c2)[k * 2 + 1]? = some (iv x.2) := by
  induction l generalizing k with
  | nil => cases h
  | cons y l ih =>
    rw [List.flatMap_cons]
    cases k with
    | zero =>
      injection h with h
      subst h
      exact ⟨rfl, rfl⟩
    | succ k =>
      obtain ⟨h1, h2⟩ := ih k h
      have e : (c2 y).length = 2 := rfl
      rw [List.getElem?_append_right (by omega), List.getElem?_append_right (by omega), e, show (k + 1) * 2 - 2 = k * 2 by omega, show (k + 1) * 2 + 1 - 2 = k * 2 + 1 by omega]
      exact ⟨h1, h2⟩
def Prs (E : TypeId) (w : World) (B : Nat) (v : Value) (l : List (Nat × Nat)) : Prop := w.ownsRow B E 2 v l.length (l.flatMap c2)
theorem Prs.below {E : TypeId} {w w1 : World} {B : Nat} {v : Value} {l : List (Nat × Nat)} (h : Prs E w B v l) (hb : Below w.heap.size w w1) : Prs E w1 B v l := by
  refine ⟨h.1, ?_⟩
  rcases h.2 with h0 | ⟨g', cap', cur, hv, hg, hh, r⟩
  · exact .inl h0
  · exact .inr ⟨g', cap', cur, hv, hg, (hb.block g' (Array.getElem?_eq_some_iff.1 hh).1).trans hh, r⟩
def PrsR (w : World) (a : Option Addr) (n : Nat) (l : List (Nat × Nat)) : Prop := l.length = n ∧ (n = 0 ∨ ∃ b off, a = some ⟨b, off, none⟩ ∧ b < w.heap.size ∧ ∀ (k : Nat) x, l[k]? = some x → w.cell? ⟨b, off + k * 2, none⟩ = some (iv x.1) ∧ w.cell? ⟨b, off + k * 2 + 1, none⟩ = some (iv x.2))
theorem PrsR.below {w w1 : World} {a : Option Addr} {n : Nat} {l : List (Nat × Nat)} (h : PrsR w a n l) (hb : Below w.heap.size w w1) : PrsR w1 a n l := by
  refine ⟨h.1, ?_⟩
  rcases h.2 with h0 | ⟨b, off, ha, hlt, hc⟩
  · exact .inl h0
  · exact .inr ⟨b, off, ha, Nat.lt_of_lt_of_le hlt hb.size, fun k x hx => ⟨(hb.cell (p := ⟨b, _, none⟩) hlt).trans (hc k x hx).1, (hb.cell (p := ⟨b, _, none⟩) hlt).trans (hc k x hx).2⟩⟩
theorem Prs.form {E : TypeId} {w : World} {B : Nat} {v : Value} {l : List (Nat × Nat)} (h : Prs E w B v l) : ∃ a c, v = .slice a l.length c ∧ PrsR w a l.length l := by
  have hh := h
  rcases h.2 with ⟨rfl, h0⟩ | ⟨g, cap, cur, rfl, hg, hh2, hn, hc, _⟩
  · exact ⟨none, 0, by rw [h0], ⟨rfl, .inl h0⟩⟩
  · refine ⟨some ⟨g, 0, none⟩, cap, rfl, ⟨rfl, .inr ⟨g, 0, rfl, (Array.getElem?_eq_some_iff.1 hh2).1, fun k x hx => ?_⟩⟩⟩
    obtain ⟨h1, h2⟩ := flat2_get l k x hx
    have e1 := hh.cells (g := g) rfl _ _ h1
    have e2 := hh.cells (g := g) rfl _ _ h2
    rw [WideShapes.add_plain] at e1 e2
    exact ⟨e1, e2⟩
theorem cell_two_new (w : World) (u v : Value) (e : TypeId) : ∀ (j : Nat) x, [u, v][j]? = some x → (w.alloc (.cells #[u, v] e)).cell? ((⟨w.heap.size, 0, none⟩ : Addr).add j) = some x := by
  intro j x hj
  rw [WideShapes.add_plain]
  match j, hj with
  | 0, hj => injection hj with hj; subst hj; show (w.alloc _).cell? ⟨w.heap.size, 0, none⟩ = _; go_simp
  | 1, hj => injection hj with hj; subst hj; show (w.alloc _).cell? ⟨w.heap.size, 1, none⟩ = _; go_simp
theorem below_drewN {B : Nat} {a w : World} (h : Below B a w) (n : Nat) : Below B a (w.drewN n) := ⟨h.os, h.tape, h.output, h.size, h.block⟩
theorem run_eql_pair (a b c d : Int) (w : World) : (Op.equalIn 10000 49 (.agg #[.int .i64 a, .int .i64 b]) (.agg #[.int .i64 c, .int .i64 d])).run Try.prog w = .ok ((a == c) && (b == d)) w := by
  obtain ⟨iI, hI, _⟩ := info_parts infoInt
  have hu : Try.prog.underlying 3 = some (.int .i64) := by kernel_rfl
  have hc : Try.prog.cellsOf 3 = 1 := by kernel_rfl
  have hk : Try.prog.plainKey 3 = true := by kernel_rfl
  have p0 : ∀ (x y : Int), (part 3 #[.int .i64 x, .int .i64 y] (0 * 1)).run Try.prog w = .ok (.int .i64 x) w := fun x y => run_part_plain w hk rfl
  have p1 : ∀ (x y : Int), (part 3 #[.int .i64 x, .int .i64 y] (1 * 1)).run Try.prog w = .ok (.int .i64 y) w := fun x y => run_part_plain w hk rfl
  rw [show (10000 : Nat) = 9999 + 1 from rfl, run_equalIn_array w 9999 _ _ (show Try.prog.underlying 49 = some (.array 2 3) by kernel_rfl) hI, hc, show List.range 2 = [0, 1] from rfl]
  simp only [Op.eqItems, Sem.run_bind, p0, Result.andThen_ok]
  have q1 : ∀ (x y : Int), (Op.equalIn 9999 3 (.int .i64 x) (.int .i64 y)).run Try.prog w = .ok (x == y) w := fun x y => run_equalIn_int w 9998 _ .i64 .i64 x y hu
  rw [q1]
  simp only [Result.andThen_ok]
  cases h1 : a == c
  · simp
  · simp only [Bool.not_true, Bool.false_eq_true, if_false, Sem.run_bind, p1, Result.andThen_ok, q1]
    cases h2 : b == d <;> simp
theorem run_neq_pair (a b c d : Int) (w : World) : (binOp .neq 49 (.agg #[.int .i64 a, .int .i64 b]) (.agg #[.int .i64 c, .int .i64 d])).run Try.prog w = .ok (.bool (!((a == c) && (b == d)))) w := by
  rw [run_neq_struct, run_eql_pair]
  rfl
theorem guardPr : Try.prog.eqGuardType Try.prog.depth 49 = false := by kernel_rfl
end Go.Proofs.Ytoncghamkedhcaa.Ud

namespace Go.Proofs.Ytoncghamkedhcaa.Um
set_option linter.unusedVariables false
theorem Makes.le {α : Type} {a b : List α} {s : List Nat} (h : Makes a b s) : ∀ x, x ∈ s → x = 0 ∨ x = 1 ∨ x = 2 := by
  induction h with
  | nil => intro x hx; cases hx
  | keep _ _ ih => intro x hx; rcases List.mem_cons.1 hx with rfl | hx; exact .inl rfl; exact ih x hx
  | drop _ _ ih => intro x hx; rcases List.mem_cons.1 hx with rfl | hx; exact .inr (.inl rfl); exact ih x hx
  | add _ _ ih => intro x hx; rcases List.mem_cons.1 hx with rfl | hx; exact .inr (.inr rfl); exact ih x hx
theorem runs_cons (x : Nat) (s : List Nat) : runs (x :: s) = match runs s with
    | [] => [(x, 1)]
    | (y, n) :: r => if x = y then (y, n + 1) :: r else (x, 1) :: (y, n) :: r := rfl
theorem runs_len (s : List Nat) : (runs s).length ≤ s.length := by
  induction s with
  | nil => exact Nat.le_refl _
  | cons x s ih =>
    rw [runs_cons]
    cases h : runs s with
    | nil => simp
    | cons p r =>
      obtain ⟨y, n⟩ := p
      rw [h] at ih
      by_cases e : x = y
      · show (if x = y then _ else _ : List (Nat × Nat)).length ≤ _
        rw [if_pos e]; simp at ih ⊢; omega
      · show (if x = y then _ else _ : List (Nat × Nat)).length ≤ _
        rw [if_neg e]; simp at ih ⊢; omega
def flat (l : List (Nat × Nat)) : List Nat := l.flatMap fun p => List.replicate p.2 p.1
def far : List (Nat × Nat) → Nat
  | [] => 0
  | p :: l => (if p.1 = 0 then 0 else p.2) + far l
def PK (s : List Nat) (k i j : Nat) (pre : List (Nat × Nat)) : Prop := pairs 0 0 s = pre ++ pairs i j (s.drop k) ∧ i ≤ k ∧ j ≤ k ∧ pre.length ≤ k
theorem pk_start (s : List Nat) : PK s 0 0 0 [] := ⟨rfl, Nat.le_refl _, Nat.le_refl _, Nat.le_refl _⟩
theorem drop_at {s : List Nat} {k x : Nat} (h : s[k]? = some x) : s.drop k = x :: s.drop (k + 1) := by
  obtain ⟨h1, h2⟩ := List.getElem?_eq_some_iff.1 h
  rw [List.drop_eq_getElem_cons h1, h2]
theorem pk_keep {s : List Nat} {k i j : Nat} {pre : List (Nat × Nat)} (h : PK s k i j pre) (hx : s[k]? = some 0) : PK s (k + 1) (i + 1) (j + 1) (pre ++ [(i, j)]) := by
  obtain ⟨h1, h2, h3, h4⟩ := h
  refine ⟨?_, by omega, by omega, by simp; omega⟩
  rw [h1, drop_at hx, pairs, List.append_assoc]
  rfl
theorem pk_drop {s : List Nat} {k i j : Nat} {pre : List (Nat × Nat)} (h : PK s k i j pre) (hx : s[k]? = some 1) : PK s (k + 1) (i + 1) j pre := by
  obtain ⟨h1, h2, h3, h4⟩ := h
  refine ⟨?_, by omega, by omega, by omega⟩
  rw [h1, drop_at hx, pairs]
theorem pk_add {s : List Nat} {k i j : Nat} {pre : List (Nat × Nat)} (h : PK s k i j pre) (hx : s[k]? = some 2) : PK s (k + 1) i (j + 1) pre := by
  obtain ⟨h1, h2, h3, h4⟩ := h
  refine ⟨?_, by omega, by omega, by omega⟩
  rw [h1, drop_at hx, pairs]
  all_goals simp
theorem pk_end {s : List Nat} {k i j : Nat} {pre : List (Nat × Nat)} (h : PK s k i j pre) (hk : k = s.length) : pairs 0 0 s = pre := by
  rw [h.1, hk, List.drop_length]
  exact List.append_nil _
end Go.Proofs.Ytoncghamkedhcaa.Um

namespace Go.Proofs.Ytoncghamkedhcaa.Ud
open Go.RowKit Tx Um Aq
set_option linter.unusedVariables false
theorem ints_cell {w : World} {B : Nat} {v : Value} {l : List Nat} (h : Ints w B v l) : ∃ a c, v = .slice a l.length c ∧ (l.length = 0 ∨ ∃ g, a = some ⟨g, 0, none⟩ ∧ g < w.heap.size ∧ ∀ (k : Nat) x, l[k]? = some x → w.cell? ⟨g, k, none⟩ = some (.int .i64 (x : Int))) := by
  have hh := h
  rcases h.2 with ⟨rfl, h0⟩ | ⟨g, cap, cur, rfl, hg, hh2, hn, hc, _⟩
  · exact ⟨none, 0, by rw [h0], .inl h0⟩
  · refine ⟨some ⟨g, 0, none⟩, cap, rfl, .inr ⟨g, rfl, (Array.getElem?_eq_some_iff.1 hh2).1, fun k x hx => ?_⟩⟩
    exact own_cell hh (by rw [List.getElem?_map, hx]; rfl)
def PrsTo (E : TypeId) (l : List (Nat × Nat)) (er : Nat) (w : World) (e : Ending) (w' : World) : Prop := ∃ v, e = .returned (.tuple #[v, .int .i64 (er : Int)]) ∧ Prs E w' w.heap.size v l ∧ Below w.heap.size w w'
def lng (a b : List ByteArray) : Bool := decide (400 < a.length) || decide (400 < b.length)
def scr (a b : List ByteArray) : List (Nat × Nat) := if lng a b then [] else runs (steps a b)
def kep (a b : List ByteArray) : List (Nat × Nat) := if lng a b then [] else pairs 0 0 (steps a b)
def err (a b : List ByteArray) : Nat := if lng a b then 4 else 0
end Go.Proofs.Ytoncghamkedhcaa.Ud

namespace Go.Proofs.Ytoncghamkedhcaa.Ud
open Go.RowKit Tx Um Aq
set_option linter.unusedVariables false
set_option maxRecDepth 100000 in
set_option maxHeartbeats 4000000 in
theorem refKept_any (A B : Option Addr) (ca cb : Nat) (a b : List ByteArray) (w : World) (hA : Strs w A a.length a) (hB : Strs w B b.length b) :
    Calls Try.prog 30 #[.slice A a.length ca, .slice B b.length cb] w (PrsTo 49 (kep a b) (err a b) w) := by
  obtain ⟨iE, hI, hI0, hI1, hI2⟩ := info_parts infoPair
  have hsl := (makes a b).lens
  have hle := (makes a b).le
  have hk := kept a b
  have hkl := lcs_le_left a b
  by_cases hm : 400 < a.length
  · have e1 : (400 : Int) < (a.length : Int) := by omega
    have HE : Hid (kep a b = [] ∧ err a b = 4) := by
      show _ ∧ _
      unfold kep err lng
      rw [decide_eq_true hm]
      exact ⟨rfl, rfl⟩
    clear hsl hk hkl hle
    go_enter Try.func30, Try.ntmps30
    go_wp2_with fail
    go_ret2
    unfold PrsTo
    rw [HE.out.1, HE.out.2]
    exact ⟨_, rfl, World.ownsRow_nil _ _ _ _, Below.refl _ _⟩
  · have e1 : ¬ (400 : Int) < (a.length : Int) := by omega
    by_cases hn : 400 < b.length
    · have e2 : (400 : Int) < (b.length : Int) := by omega
      have HE : Hid (kep a b = [] ∧ err a b = 4) := by
        show _ ∧ _
        unfold kep err lng
        rw [decide_eq_true hn, Bool.or_true]
        exact ⟨rfl, rfl⟩
      clear hsl hk hkl hle
      go_enter Try.func30, Try.ntmps30
      go_wp2_with fail
      go_ret2
      unfold PrsTo
      rw [HE.out.1, HE.out.2]
      exact ⟨_, rfl, World.ownsRow_nil _ _ _ _, Below.refl _ _⟩
    · have e2 : ¬ (400 : Int) < (b.length : Int) := by omega
      have HE : Hid (kep a b = pairs 0 0 (steps a b) ∧ err a b = 0) := by
        show _ ∧ _
        unfold kep err lng
        rw [decide_eq_false hm, decide_eq_false hn]
        exact ⟨rfl, rfl⟩
      have cs := steps_any A B ca cb a b w (by omega) (by omega) hA hB
      have hs800 : (steps a b).length ≤ 800 := by omega
      obtain ⟨s, hs⟩ : ∃ s, s = steps a b := ⟨_, rfl⟩
      rw [← hs] at cs hs800 HE hle
      have HLE := Lib.hid hle
      obtain ⟨m, hmm⟩ : ∃ m, m = a.length := ⟨_, rfl⟩
      obtain ⟨n, hnn⟩ : ∃ n, n = b.length := ⟨_, rfl⟩
      rw [← hmm] at e1 cs ⊢
      rw [← hnn] at e2 cs ⊢
      clear hs hmm hnn hsl hk hkl hm hn hA hB hle
      unfold IntsTo at cs
      go_enter Try.func30, Try.ntmps30
      go_wp2_with fail
      go_at_call 33
      refine cs.mono ?_
      rintro e w1 ⟨v, rfl, hv, hb1⟩
      obtain ⟨ad, cc, rfl, hcell⟩ := ints_cell hv
      have HC := Lib.hid hcell
      obtain ⟨L, hL⟩ : ∃ L, L = s.length := ⟨_, rfl⟩
      rw [← hL] at hs800 ⊢
      have HL := Lib.hid hL
      clear hL hcell hv cs
      have hsz1 := hb1.size
      go_wp2_with fail
      go_loopw [7, 8, 9, 10] (fun v i j k wr => ∃ (pre : List (Nat × Nat)) (p q t : Nat), i = .int .i64 p ∧ j = .int .i64 q ∧ k = .int .i64 t ∧ t ≤ L ∧ Hid (PK s t p q pre) ∧ Prs 49 wr w1.heap.size v pre ∧ Below w1.heap.size w1 wr) (fun _ _ _ k _ => L - (intOf k).toNat)
      case atStart => exact ⟨[], 0, 0, 0, rfl, rfl, rfl, Nat.zero_le _, pk_start s, World.ownsRow_nil _ _ _ _, Below.refl _ _⟩
      case round =>
        obtain ⟨pre, p, q, t, rfl, rfl, rfl, ht, HK, htx, hb⟩ := hrel
        have hp := HK.out.2.1
        have hq := HK.out.2.2.1
        have hpl := HK.out.2.2.2
        by_cases hlt : t < L
        · have e3 : (t : Int) < (L : Int) := by omega
          obtain ⟨g, rfl, hg, hc⟩ := HC.out.resolve_left (by rw [← HL.out]; omega)
          obtain ⟨x, hx⟩ : ∃ x, s[t]? = some x := ⟨_, List.getElem?_eq_getElem (by rw [← HL.out]; exact hlt)⟩
          have c1 := (hb.cell (p := ⟨g, t, none⟩) hg).trans (hc t x hx)
          have hx3 := HLE.out x (List.mem_iff_getElem?.2 ⟨t, hx⟩)
          clear hc
          rcases hx3 with rfl | rfl | rfl
          · have HN := Lib.hid (pk_keep HK.out hx)
            have hown : wr.ownsRow w1.heap.size 49 2 _ pre.length (pre.flatMap Ud.c2) := htx
            have hszd : w1.heap.size ≤ wr.heap.size := hb.size
            clear hx HK htx
            go_wp2_with (at_builtin; refine wpList_append_own _ rfl _ _ 70 rfl w1.heap.size 49 iE (.agg #[.int .i64 0, .int .i64 0]) 2 16 Try.underlying70 hI hI0 hI1 hI2 rfl (by decide) _ _ _ rfl (hown.alloc _) ⟨wr.heap.size, 0, none⟩ 1 1 (Ud.c2 (p, q)) rfl rfl ?c1 ?c2 ?c3 ?c4 ?c5 ?_)
            case c1 => exact cell_two_new _ _ _ _
            case c2 => exact c2_one (p, q)
            case c3 => unfold maxLen; omega
            case c4 => omega
            case c5 => simp; omega
            intro v' w2 hown' hgrow _
            have hb3 : Below w1.heap.size w1 w2 := (hb.alloc hszd _).grown hgrow (by simp; omega) (fun k hk => (hown.lt k hk).1)
            have htx2 : Prs 49 w2 w1.heap.size v' (pre ++ [(p, q)]) := by
              unfold Prs
              rw [List.length_append, List.flatMap_append]
              exact hown'
            have c3 := (hb3.cell (p := ⟨g, t, none⟩) hg).trans ((hb.cell (p := ⟨g, t, none⟩) hg).symm.trans c1)
            clear hown hown' hgrow hb c1
            go_wp2_with fail
            go_roundw
            case rel => exact ⟨pre ++ [(p, q)], p + 1, q + 1, t + 1, by go_num, by go_num, by go_num, by omega, HN, htx2, hb3⟩
            case measure => simp only [intOf]; omega
          · have HN := Lib.hid (pk_drop HK.out hx)
            clear hx HK
            go_wp2_with fail
            go_roundw
            case rel => exact ⟨pre, p + 1, q, t + 1, by go_num, rfl, by go_num, by omega, HN, htx, hb⟩
            case measure => simp only [intOf]; omega
          · have HN := Lib.hid (pk_add HK.out hx)
            clear hx HK
            go_wp2_with fail
            go_roundw
            case rel => exact ⟨pre, p, q + 1, t + 1, rfl, by go_num, by go_num, by omega, HN, htx, hb⟩
            case measure => simp only [intOf]; omega
        · have e3 : ¬ (t : Int) < (L : Int) := by omega
          have HEND : Hid (kep a b = pre) := by
            show kep a b = pre
            rw [HE.out.1]
            exact pk_end HK.out (by rw [← HL.out]; omega)
          have hB : Below w.heap.size w wr := hb1.trans (hb.mono hsz1)
          clear HK
          go_wp2_with fail
          go_ret2
          unfold PrsTo
          rw [HEND.out, HE.out.2]
          exact ⟨_, rfl, own_base htx hsz1, hB⟩
end Go.Proofs.Ytoncghamkedhcaa.Ud

namespace Go.Proofs.Ytoncghamkedhcaa.Um
set_option linter.unusedVariables false
def cA (l : List Nat) : Nat := l.count 0 + l.count 1
def cB (l : List Nat) : Nat := l.count 0 + l.count 2
theorem Makes.at {α : Type} {a b : List α} {s : List Nat} (h : Makes a b s) : ∀ (t x : Nat), s[t]? = some x →
    (x = 0 ∧ ∃ (hi : cA (s.take t) < a.length) (hj : cB (s.take t) < b.length), a[cA (s.take t)] = b[cB (s.take t)]) ∨ (x = 1 ∧ cA (s.take t) < a.length) ∨ (x = 2 ∧ cB (s.take t) < b.length) := by
  induction h with
  | nil => intro t x h; cases h
  | keep y h ih =>
    intro t x hx
    cases t with
    | zero => injection hx with hx; exact .inl ⟨hx.symm, by simp [cA], by simp [cB], rfl⟩
    | succ t =>
      have eA : cA ((0 :: ‹List Nat›).take (t + 1)) = cA (List.take t ‹List Nat›) + 1 := by simp [cA]; omega
      have eB : cB ((0 :: ‹List Nat›).take (t + 1)) = cB (List.take t ‹List Nat›) + 1 := by simp [cB]; omega
      rcases ih t x (by simpa using hx) with ⟨h0, hi, hj, he⟩ | ⟨h0, hi⟩ | ⟨h0, hj⟩
      · refine .inl ⟨h0, by rw [eA, List.length_cons]; omega, by rw [eB, List.length_cons]; omega, ?_⟩
        simp only [eA, eB, List.getElem_cons_succ]
        exact he
      · exact .inr (.inl ⟨h0, by rw [eA, List.length_cons]; omega⟩)
      · exact .inr (.inr ⟨h0, by rw [eB, List.length_cons]; omega⟩)
  | drop y h ih =>
    intro t x hx
    cases t with
    | zero => injection hx with hx; exact .inr (.inl ⟨hx.symm, by simp [cA]⟩)
    | succ t =>
      have eA : cA ((1 :: ‹List Nat›).take (t + 1)) = cA (List.take t ‹List Nat›) + 1 := by simp [cA]; omega
      have eB : cB ((1 :: ‹List Nat›).take (t + 1)) = cB (List.take t ‹List Nat›) := by simp [cB]
      rcases ih t x (by simpa using hx) with ⟨h0, hi, hj, he⟩ | ⟨h0, hi⟩ | ⟨h0, hj⟩
      · refine .inl ⟨h0, by rw [eA, List.length_cons]; omega, by rw [eB]; omega, ?_⟩
        simp only [eA, eB, List.getElem_cons_succ]
        exact he
      · exact .inr (.inl ⟨h0, by rw [eA, List.length_cons]; omega⟩)
      · exact .inr (.inr ⟨h0, by rw [eB]; omega⟩)
  | add y h ih =>
    intro t x hx
    cases t with
    | zero => injection hx with hx; exact .inr (.inr ⟨hx.symm, by simp [cB]⟩)
    | succ t =>
      have eA : cA ((2 :: ‹List Nat›).take (t + 1)) = cA (List.take t ‹List Nat›) := by simp [cA]
      have eB : cB ((2 :: ‹List Nat›).take (t + 1)) = cB (List.take t ‹List Nat›) + 1 := by simp [cB]; omega
      rcases ih t x (by simpa using hx) with ⟨h0, hi, hj, he⟩ | ⟨h0, hi⟩ | ⟨h0, hj⟩
      · refine .inl ⟨h0, by rw [eA]; omega, by rw [eB, List.length_cons]; omega, ?_⟩
        simp only [eA, eB, List.getElem_cons_succ]
        exact he
      · exact .inr (.inl ⟨h0, by rw [eA]; omega⟩)
      · exact .inr (.inr ⟨h0, by rw [eB, List.length_cons]; omega⟩)
def pos (R : List (Nat × Nat)) (n : Nat) : Nat := (flat (R.take n)).length
end Go.Proofs.Ytoncghamkedhcaa.Um

namespace Go.Proofs.Ytoncghamkedhcaa.Km
open Um
set_option linter.unusedVariables false
structure Hk (α : Type) where
  at_ : Nat
  old : List α
  new : List α
section
variable {α : Type}
inductive Cut : Nat → List α → List α → List (Hk α) → Prop
  | nil (p : Nat) (l : List α) : Cut p l l []
  | cons (p : Nat) (c o n : List α) {ra rb : List α} {H : List (Hk α)} (h : Cut (p + c.length + o.length) ra rb H) : Cut p (c ++ (o ++ ra)) (c ++ (n ++ rb)) (⟨p + c.length, o, n⟩ :: H)
theorem Cut.pre {p : Nat} {c ra rb : List α} {H : List (Hk α)} (h : Cut (p + c.length) ra rb H) : Cut p (c ++ ra) (c ++ rb) H := by
  cases h with
  | nil => exact .nil _ _
  | cons _ c2 o n h2 =>
    have := Cut.cons p (c ++ c2) o n (ra := _) (rb := _) (H := _) (by rw [List.length_append, ← Nat.add_assoc p]; exact h2)
    rw [List.length_append, ← Nat.add_assoc, List.append_assoc, List.append_assoc] at this
    exact this
structure G where
  f : Nat
  t : Nat
  u : Nat
  v : Nat
def Ok (a b : List α) (btw : Nat) : List G → Nat → Nat → Prop
  | [], i, j => i = j ∧ a.take i = b.take j
  | g :: r, i, j => g.f ≤ g.t ∧ g.t ≤ i ∧ g.u ≤ g.v ∧ g.v ≤ j ∧ i + g.v = j + g.t ∧ (a.take i).drop g.t = (b.take j).drop g.v ∧ (g.f < g.t ∨ g.u < g.v) ∧ Ok a b btw r g.f g.u ∧ ∀ l, r.head? = some l → l.t + btw < g.f
theorem take_ext {a b : List α} {i j t v : Nat} (h : (a.take i).drop t = (b.take j).drop v) (hi : i < a.length) (hj : j < b.length) (he : a[i] = b[j]) (ht : t ≤ i) (hv : v ≤ j) : (a.take (i + 1)).drop t = (b.take (j + 1)).drop v := by
  rw [List.take_succ_eq_append_getElem hi, List.take_succ_eq_append_getElem hj, List.drop_append_of_le_length (by rw [List.length_take]; omega), List.drop_append_of_le_length (by rw [List.length_take]; omega), h, he]
theorem ok_ext {a b : List α} {btw i j : Nat} {r : List G} (h : Ok a b btw r i j) (hi : i < a.length) (hj : j < b.length) (he : a[i] = b[j]) : Ok a b btw r (i + 1) (j + 1) := by
  cases r with
  | nil =>
    obtain ⟨h1, h2⟩ := h
    exact ⟨by omega, by rw [List.take_succ_eq_append_getElem hi, List.take_succ_eq_append_getElem hj, h2, he]⟩
  | cons g r =>
    obtain ⟨h1, h2, h3, h4, h5, h6, h7, h8, h9⟩ := h
    exact ⟨h1, by omega, h3, by omega, by omega, take_ext h6 hi hj he h2 h4, h7, h8, h9⟩
def add (btw i p j q : Nat) : List G → List G
  | [] => [⟨i, p, j, q⟩]
  | l :: r => if i - l.t ≤ btw then ⟨l.f, p, l.u, q⟩ :: r else ⟨i, p, j, q⟩ :: l :: r
theorem nil_mid (a : List α) (p t : Nat) (h : p ≤ t) : (a.take p).drop t = [] := List.drop_eq_nil_iff.2 (by rw [List.length_take]; omega)
theorem ok_add {a b : List α} {btw i j p q : Nat} {r : List G} (h : Ok a b btw r i j) (hp : i ≤ p) (hq : j ≤ q) (hg : i < p ∨ j < q) : Ok a b btw (add btw i p j q r) p q := by
  cases r with
  | nil => exact ⟨hp, Nat.le_refl _, hq, Nat.le_refl _, by show p + q = q + p; omega, by rw [nil_mid _ _ _ (Nat.le_refl _), nil_mid _ _ _ (Nat.le_refl _)], hg, h, fun l hl => by cases hl⟩
  | cons l r =>
    rw [show add btw i p j q (l :: r) = (if i - l.t ≤ btw then ⟨l.f, p, l.u, q⟩ :: r else ⟨i, p, j, q⟩ :: l :: r) from rfl]
    obtain ⟨h1, h2, h3, h4, h5, h6, h7, h8, h9⟩ := h
    by_cases hb : i - l.t ≤ btw
    · rw [if_pos hb]
      exact ⟨by show l.f ≤ p; omega, Nat.le_refl _, by show l.u ≤ q; omega, Nat.le_refl _, by show p + q = q + p; omega, by rw [nil_mid _ _ _ (Nat.le_refl _), nil_mid _ _ _ (Nat.le_refl _)], by show l.f < p ∨ l.u < q; omega, h8, h9⟩
    · rw [if_neg hb]
      exact ⟨hp, Nat.le_refl _, hq, Nat.le_refl _, by show p + q = q + p; omega, by rw [nil_mid _ _ _ (Nat.le_refl _), nil_mid _ _ _ (Nat.le_refl _)], hg, ⟨h1, h2, h3, h4, h5, h6, h7, h8, h9⟩, fun l2 hl => by
        injection hl with hl
        subst hl
        show l.t + btw < i
        omega⟩
def one (btw i j : Nat) (r : List G) (p q : Nat) : List G := if i < p ∨ j < q then add btw i p j q r else r
theorem ok_one {a b : List α} {btw i j p q : Nat} {r : List G} (h : Ok a b btw r i j) (hp : i ≤ p) (hq : j ≤ q) : Ok a b btw (one btw i j r p q) p q := by
  unfold one
  by_cases hg : i < p ∨ j < q
  · rw [if_pos hg]; exact ok_add h hp hq hg
  · rw [if_neg hg]
    obtain rfl : p = i := by omega
    obtain rfl : q = j := by omega
    exact h
def gp (btw : Nat) : List (Nat × Nat) → Nat → Nat → List G → List G
  | [], _, _, r => r
  | x :: k, i, j, r => gp btw k (x.1 + 1) (x.2 + 1) (one btw i j r x.1 x.2)
def Pth (a b : List α) : List (Nat × Nat) → Nat → Nat → Prop
  | [], i, j => i ≤ a.length ∧ j ≤ b.length
  | x :: k, i, j => i ≤ x.1 ∧ j ≤ x.2 ∧ (∃ (hi : x.1 < a.length) (hj : x.2 < b.length), a[x.1] = b[x.2]) ∧ Pth a b k (x.1 + 1) (x.2 + 1)
theorem gp_ok {a b : List α} {btw : Nat} (k : List (Nat × Nat)) : ∀ {i j : Nat} {r : List G}, Ok a b btw r i j → Pth a b k i j → Ok a b btw (gp btw (k ++ [(a.length, b.length)]) i j r) a.length b.length := by
  induction k with
  | nil =>
    intro i j r h hp
    exact ok_one h hp.1 hp.2
  | cons x k ih =>
    intro i j r h hp
    obtain ⟨h1, h2, ⟨hi, hj, he⟩, h3⟩ := hp
    exact ih (ok_ext (ok_one h h1 h2) hi hj he) h3
def hks (a b : List α) (ar : Nat) : List G → List (Hk α)
  | [] => []
  | g :: r => hks a b ar r ++ [⟨g.f - min ar g.f, (a.take (g.t + min ar (a.length - g.t))).drop (g.f - min ar g.f), (b.take (g.v + min ar (a.length - g.t))).drop (g.u - min ar g.f)⟩]
theorem drop_mid (l : List α) (i j : Nat) (h : i ≤ j) : (l.take j).drop i ++ l.drop j = l.drop i := by
  rw [← List.take_append_drop (j - i) (l.drop i), List.drop_drop]
  congr 1
  · rw [List.drop_take]
  · congr 1; omega
theorem mid_like {a b : List α} {t v i j p q : Nat} (h : (a.take i).drop t = (b.take j).drop v) (hb : i + v = j + t) (hp : t ≤ p) (hq : p ≤ q) (hi : q ≤ i) (p' q' : Nat) (ep : p' + t = p + v) (eq : q' + t = q + v) : (a.take q).drop p = (b.take q').drop p' := by
  have e1 : (a.take q).drop p = (((a.take i).drop t).take (q - t)).drop (p - t) := by
    rw [List.take_drop, List.drop_drop, List.take_take, Nat.min_eq_left (by omega)]
    congr 2
    · omega
    · congr 1; omega
  have e2 : (b.take q').drop p' = (((b.take j).drop v).take (q - t)).drop (p - t) := by
    rw [List.take_drop, List.drop_drop, List.take_take, Nat.min_eq_left (by omega)]
    congr 2
    · omega
    · congr 1; omega
  rw [e1, e2, h]
theorem hks_cut {a b : List α} {ar : Nat} (r : List G) : ∀ {i j pos pos' : Nat} {H : List (Hk α)}, Ok a b (2 * ar) r i j → i ≤ a.length → j ≤ b.length → pos ≤ i → pos' ≤ j → i + pos' = j + pos →
    (∀ g, r.head? = some g → g.t + min ar (a.length - g.t) ≤ pos) → Cut pos (a.drop pos) (b.drop pos') H → Cut 0 a b (hks a b ar r ++ H) := by
  induction r with
  | nil =>
    intro i j pos pos' H h hi hj hp hp' he _ hc
    obtain ⟨h1, h2⟩ := h
    obtain rfl : pos' = pos := by omega
    have e : a.take pos' = b.take pos' := by
      have := congrArg (List.take pos') h2
      rwa [List.take_take, List.take_take, Nat.min_eq_left (by omega), Nat.min_eq_left (by omega)] at this
    have hl : (a.take pos').length = pos' := by rw [List.length_take]; omega
    have := Cut.pre (p := 0) (c := a.take pos') (ra := a.drop pos') (rb := b.drop pos') (H := H) (by rw [hl, Nat.zero_add]; exact hc)
    rw [List.take_append_drop] at this
    rw [e, List.take_append_drop] at this
    exact this
  | cons g r ih =>
    intro i j pos pos' H h hi hj hp hp' he hy hc
    obtain ⟨h1, h2, h3, h4, h5, h6, h7, h8, h9⟩ := h
    have hy0 := hy g rfl
    rw [hks, List.append_assoc]
    obtain ⟨x, hx⟩ : ∃ x, x = min ar g.f := ⟨_, rfl⟩
    obtain ⟨y, hyy⟩ : ∃ y, y = min ar (a.length - g.t) := ⟨_, rfl⟩
    rw [← hx, ← hyy]
    rw [← hyy] at hy0
    have hux : x ≤ g.u := by
      cases r with
      | nil => have := h8.1; omega
      | cons l r =>
        obtain ⟨k1, k2, k3, k4, k5, k6, k7, k8, k9⟩ := h8
        have := h9 l rfl
        omega
    -- the kept part behind the piece
    have hmid : (a.take pos).drop (g.t + y) = (b.take pos').drop (g.v + y) := mid_like h6 h5 (by omega) hy0 hp _ _ (by omega) (by omega)
    have c1 : Cut (g.t + y) (a.drop (g.t + y)) (b.drop (g.v + y)) H := by
      have hl : ((a.take pos).drop (g.t + y)).length = pos - (g.t + y) := by rw [List.length_drop, List.length_take]; omega
      have := Cut.pre (p := g.t + y) (c := (a.take pos).drop (g.t + y)) (ra := a.drop pos) (rb := b.drop pos') (H := H) (by rw [hl, show g.t + y + (pos - (g.t + y)) = pos by omega]; exact hc)
      rw [drop_mid a _ _ hy0, hmid, drop_mid b _ _ (by omega)] at this
      exact this
    have c2 : Cut (g.f - x) (a.drop (g.f - x)) (b.drop (g.u - x)) (⟨g.f - x, (a.take (g.t + y)).drop (g.f - x), (b.take (g.v + y)).drop (g.u - x)⟩ :: H) := by
      have hl : ((a.take (g.t + y)).drop (g.f - x)).length = g.t + y - (g.f - x) := by rw [List.length_drop, List.length_take]; omega
      have := Cut.cons (g.f - x) ([] : List α) ((a.take (g.t + y)).drop (g.f - x)) ((b.take (g.v + y)).drop (g.u - x)) (ra := a.drop (g.t + y)) (rb := b.drop (g.v + y)) (H := H) (by rw [hl, List.length_nil, show g.f - x + 0 + (g.t + y - (g.f - x)) = g.t + y by omega]; exact c1)
      rw [List.nil_append, List.nil_append, drop_mid a _ _ (by omega), drop_mid b _ _ (by omega)] at this
      exact this
    refine ih h8 (by omega) (by omega) (pos := g.f - x) (pos' := g.u - x) (by omega) (by omega) (by omega) (fun l hl => ?_) c2
    have := h9 l hl
    omega
def btw (a b : List α) (ar : Nat) (k : List (Nat × Nat)) : List (Hk α) := hks a b ar (gp (2 * ar) (k ++ [(a.length, b.length)]) 0 0 [])
theorem btw_cut {a b : List α} {ar : Nat} {k : List (Nat × Nat)} (h : Pth a b k 0 0) : Cut 0 a b (btw a b ar k) := by
  have h1 := gp_ok (btw := 2 * ar) k (r := []) (⟨rfl, rfl⟩ : Ok a b (2 * ar) [] 0 0) h
  have h2 := hks_cut (ar := ar) _ (H := []) h1 (Nat.le_refl _) (Nat.le_refl _) (pos := a.length) (pos' := b.length) (Nat.le_refl _) (Nat.le_refl _) (by omega) (fun g hg => ?_) (by rw [List.drop_length, List.drop_length]; exact .nil _ _)
  · rw [List.append_nil] at h2; exact h2
  · cases hr : gp (2 * ar) (k ++ [(a.length, b.length)]) 0 0 [] with
    | nil => rw [hr] at hg; cases hg
    | cons l r =>
      rw [hr] at hg h1
      injection hg with hg
      subst hg
      have := h1.2.1
      omega
end
end Go.Proofs.Ytoncghamkedhcaa.Km

namespace Go.Proofs.Ytoncghamkedhcaa.Km
open Um
set_option linter.unusedVariables false
set_option linter.unusedSectionVars false
structure Hz (α : Type) where
  at_ : Int
  old : List α
  new : List α
section
variable {α : Type} [DecidableEq α]
def Hk.z {α : Type} (h : Hk α) : Hz α := ⟨h.at_, h.old, h.new⟩
def stands (a : List α) (p : Nat) (l : List α) : Bool := decide ((a.drop p).take l.length = l)
def ap (a : List α) : Nat → List (Hz α) → List α × Nat
  | p, [] => (a.drop p, 0)
  | p, h :: H => if h.at_ < p ∨ (a.length : Int) < h.at_ then ([], 3) else if stands a h.at_.toNat h.old = false then ([], 11) else
    if (ap a (h.at_.toNat + h.old.length) H).2 = 0 then ((a.take h.at_.toNat).drop p ++ (h.new ++ (ap a (h.at_.toNat + h.old.length) H).1), 0) else ([], (ap a (h.at_.toNat + h.old.length) H).2)
theorem stands_len {a : List α} {p : Nat} {l : List α} (h : stands a p l = true) : l.length ≤ a.length - p := by
  have := of_decide_eq_true h
  have := congrArg List.length this
  rw [List.length_take, List.length_drop] at this
  omega
theorem ap_at {a : List α} {p q : Nat} {o n : List α} {H : List (Hz α)} (hp : p ≤ q) (hq : q ≤ a.length) : ap a p (⟨q, o, n⟩ :: H) = if stands a q o = false then ([], 11) else if (ap a (q + o.length) H).2 = 0 then ((a.take q).drop p ++ (n ++ (ap a (q + o.length) H).1), 0) else ([], (ap a (q + o.length) H).2) := by
  rw [ap]
  simp only [Int.toNat_natCast]
  rw [if_neg (by omega)]
theorem ap_cons {a : List α} {p q : Nat} {o n r : List α} {H : List (Hz α)} (hp : p ≤ q) (hq : q ≤ a.length) (hs : stands a q o = true) (h : ap a (q + o.length) H = (r, 0)) : ap a p (⟨q, o, n⟩ :: H) = ((a.take q).drop p ++ (n ++ r), 0) := by
  rw [ap]
  simp only [Int.toNat_natCast]
  rw [if_neg (by omega), if_neg (by rw [hs]; simp), h]
  rfl
theorem drop_app {a : List α} {p : Nat} {c r : List α} (h : a.drop p = c ++ r) : a.drop (p + c.length) = r ∧ (a.take (p + c.length)).drop p = c := by
  constructor
  · rw [← List.drop_drop, h, List.drop_left]
  · rw [List.drop_take, h, Nat.add_sub_cancel_left, List.take_left]
theorem len_app {a : List α} {p : Nat} {c r : List α} (h : a.drop p = c ++ r) (hp : p ≤ a.length) : p + c.length ≤ a.length := by
  have := congrArg List.length h
  rw [List.length_drop, List.length_append] at this
  omega
theorem cut_ap {p : Nat} {ra rb : List α} {H : List (Hk α)} (h : Cut p ra rb H) : ∀ a : List α, a.drop p = ra → p ≤ a.length → ap a p (H.map Hk.z) = (rb, 0) := by
  induction h with
  | nil p l => intro a h1 _; rw [List.map_nil, ap, h1]
  | cons p c o n h ih =>
    intro a h1 hp
    obtain ⟨h2, h3⟩ := drop_app h1
    obtain ⟨h4, h5⟩ := drop_app h2
    have hl := len_app h1 hp
    have hl2 := len_app h2 hl
    have := ap_cons (a := a) (p := p) (q := p + c.length) (o := o) (n := n) (H := _) (by omega) hl (by unfold stands; rw [h2, List.take_left]; exact decide_eq_true rfl) (ih a h4 hl2)
    rw [h3] at this
    exact this
def bk : Int → List (Hz α) → List (Hz α)
  | _, [] => []
  | s, h :: H => ⟨h.at_ + s, h.new, h.old⟩ :: bk (s + h.new.length - h.old.length) H
theorem bk_back (H : List (Hz α)) : ∀ s : Int, bk (-s) (bk s H) = H := by
  induction H with
  | nil => intro s; rfl
  | cons h H ih =>
    intro s
    rw [bk, bk]
    have e : (-s + (h.old.length : Int) - (h.new.length : Int)) = -(s + (h.new.length : Int) - (h.old.length : Int)) := by omega
    simp only [e, ih]
    congr 1
    obtain ⟨x, y, z⟩ := h
    simp only [Hz.mk.injEq, and_self, and_true]
    omega
theorem cut_back {p : Nat} {ra rb : List α} {H : List (Hk α)} (h : Cut p ra rb H) : ∀ (q : Nat) (s : Int), (q : Int) = p + s → ∃ H', Cut q rb ra H' ∧ H'.map Hk.z = bk s (H.map Hk.z) := by
  induction h with
  | nil p l => intro q s hq; exact ⟨[], .nil _ _, rfl⟩
  | cons p c o n h ih =>
    intro q s hq
    obtain ⟨H', h1, h2⟩ := ih (q + c.length + n.length) (s + n.length - o.length) (by omega)
    refine ⟨⟨q + c.length, n, o⟩ :: H', .cons q c n o h1, ?_⟩
    rw [List.map_cons, h2, List.map_cons, bk]
    show (⟨((q + c.length : Nat) : Int), n, o⟩ : Hz α) :: _ = ⟨((p + c.length : Nat) : Int) + s, n, o⟩ :: _
    rw [show ((q + c.length : Nat) : Int) = ((p + c.length : Nat) : Int) + s by omega]
    rfl
def within (H : List (Hk α)) (i : Nat) : Bool := H.any fun h => decide (h.at_ ≤ i) && decide (i < h.at_ + h.old.length)
theorem cut_changed {p : Nat} {ra rb : List α} {H : List (Hk α)} (h : Cut p ra rb H) : ∀ (a : List α) (i : Nat) (x : α), a.drop p = ra → p ≤ a.length → (hi : i < a.length) → x ≠ a[i] →
    (within H i = true → ap (a.set i x) p (H.map Hk.z) = ([], 11)) ∧ (within H i = false → (ap (a.set i x) p (H.map Hk.z)).2 = 0 ∧ (ap (a.set i x) p (H.map Hk.z)).1.length = rb.length) := by
  induction h with
  | nil p l =>
    intro a i x h1 hp hi hx
    refine ⟨fun h => (by cases h), fun _ => ?_⟩
    rw [List.map_nil, ap]
    refine ⟨rfl, ?_⟩
    rw [← h1]
    simp
  | cons p c o n h ih =>
    intro a i x h1 hp hi hx
    obtain ⟨h2, h3⟩ := drop_app h1
    obtain ⟨h4, h5⟩ := drop_app h2
    have hl := len_app h1 hp
    have hl2 := len_app h2 hl
    obtain ⟨i1, i2⟩ := ih a i x h4 hl2 hi hx
    have hw : within (⟨p + c.length, o, n⟩ :: ‹List (Hk α)›) i = ((decide (p + c.length ≤ i) && decide (i < p + c.length + o.length)) || within ‹List (Hk α)› i) := rfl
    by_cases hin : p + c.length ≤ i ∧ i < p + c.length + o.length
    · -- the change stands in this piece
      have hst : stands (a.set i x) (p + c.length) o = false := by
        unfold stands
        apply decide_eq_false
        intro he
        have e1 : o[i - (p + c.length)]? = some x := by
          rw [← he, List.getElem?_take, if_pos (by omega), List.getElem?_drop, show p + c.length + (i - (p + c.length)) = i by omega, List.getElem?_set_self hi]
        have e2 : o[i - (p + c.length)]? = a[i]? := by
          have : o = (a.drop (p + c.length)).take o.length := by rw [h2, List.take_left]
          rw [this, List.getElem?_take, if_pos (by omega), List.getElem?_drop, show p + c.length + (i - (p + c.length)) = i by omega]
        rw [e1, List.getElem?_eq_getElem hi] at e2
        injection e2 with e2
        exact hx e2
      refine ⟨fun _ => ?_, fun hf => ?_⟩
      · have e := ap_at (a := a.set i x) (p := p) (q := p + c.length) (o := o) (n := n) (H := (‹List (Hk α)›).map Hk.z) (by omega) (by rw [List.length_set]; exact hl)
        rw [if_pos hst] at e
        exact e
      · rw [hw, decide_eq_true hin.1, decide_eq_true hin.2] at hf
        cases hf
    · have hst : stands (a.set i x) (p + c.length) o = true := by
        unfold stands
        apply decide_eq_true
        have e : ((a.set i x).drop (p + c.length)).take o.length = (a.drop (p + c.length)).take o.length := by
          apply List.ext_getElem?
          intro k
          rw [List.getElem?_take, List.getElem?_take]
          by_cases hk : k < o.length
          · rw [if_pos hk, if_pos hk, List.getElem?_drop, List.getElem?_drop, List.getElem?_set_ne (by omega)]
          · rw [if_neg hk, if_neg hk]
        rw [e, h2, List.take_left]
      have hwi : within (⟨p + c.length, o, n⟩ :: ‹List (Hk α)›) i = within ‹List (Hk α)› i := by
        rw [hw]
        have : (decide (p + c.length ≤ i) && decide (i < p + c.length + o.length)) = false := by
          rw [Bool.and_eq_false_iff]
          by_cases h6 : p + c.length ≤ i
          · exact .inr (decide_eq_false (fun h => hin ⟨h6, h⟩))
          · exact .inl (decide_eq_false h6)
        rw [this, Bool.false_or]
      have hap : ∀ r : List α × Nat, r = ap (a.set i x) (p + c.length + o.length) ((‹List (Hk α)›).map Hk.z) → ap (a.set i x) p ((⟨p + c.length, o, n⟩ :: ‹List (Hk α)›).map Hk.z) = if r.2 = 0 then (((a.set i x).take (p + c.length)).drop p ++ (n ++ r.1), 0) else ([], r.2) := by
        intro r hr
        have e := ap_at (a := a.set i x) (p := p) (q := p + c.length) (o := o) (n := n) (H := (‹List (Hk α)›).map Hk.z) (by omega) (by rw [List.length_set]; exact hl)
        rw [if_neg (by rw [hst]; simp), ← hr] at e
        exact e
      refine ⟨fun ht => ?_, fun hf => ?_⟩
      · rw [hwi] at ht
        rw [hap _ rfl, i1 ht]
        rfl
      · rw [hwi] at hf
        obtain ⟨k1, k2⟩ := i2 hf
        rw [hap _ rfl, if_pos k1]
        refine ⟨rfl, ?_⟩
        simp only [List.length_append, k2]
        rw [List.length_drop, List.length_take, List.length_set]
        omega
end
end Go.Proofs.Ytoncghamkedhcaa.Km

namespace Go.Proofs.Ytoncghamkedhcaa.Km
open Um
set_option linter.unusedVariables false
set_option linter.unusedSectionVars false
section
variable {α : Type} [DecidableEq α]
theorem pth_less {a b : List α} {k : List (Nat × Nat)} {i j i2 j2 : Nat} (h : Pth a b k i2 j2) (hi : i ≤ i2) (hj : j ≤ j2) : Pth a b k i j := by
  cases k with
  | nil => exact ⟨by have := h.1; omega, by have := h.2; omega⟩
  | cons x k =>
    obtain ⟨h1, h2, h3, h4⟩ := h
    exact ⟨by omega, by omega, h3, h4⟩
theorem drop_head {a : List α} {i : Nat} {x : α} {r : List α} (h : a.drop i = x :: r) : ∃ hi : i < a.length, a[i] = x ∧ a.drop (i + 1) = r := by
  have hi : i < a.length := by
    rcases Nat.lt_or_ge i a.length with h1 | h1
    · exact h1
    · rw [List.drop_of_length_le h1] at h; cases h
  rw [List.drop_eq_getElem_cons hi] at h
  injection h with h1 h2
  exact ⟨hi, h1, h2⟩
theorem pth_makes {a b : List α} {ra rb : List α} {s : List Nat} (h : Makes ra rb s) : ∀ i j, a.drop i = ra → b.drop j = rb → i ≤ a.length → j ≤ b.length → Pth a b (pairs i j s) i j := by
  induction h with
  | nil => intro i j h1 h2 hi hj; exact ⟨hi, hj⟩
  | keep x h ih =>
    intro i j h1 h2 hi hj
    obtain ⟨p1, p2, p3⟩ := drop_head h1
    obtain ⟨q1, q2, q3⟩ := drop_head h2
    exact ⟨Nat.le_refl _, Nat.le_refl _, ⟨p1, q1, by rw [p2, q2]⟩, ih (i + 1) (j + 1) p3 q3 p1 q1⟩
  | drop x h ih =>
    intro i j h1 h2 hi hj
    obtain ⟨p1, p2, p3⟩ := drop_head h1
    exact pth_less (ih (i + 1) j p3 h2 p1 hj) (by omega) (Nat.le_refl _)
  | add x h ih =>
    intro i j h1 h2 hi hj
    obtain ⟨q1, q2, q3⟩ := drop_head h2
    exact pth_less (ih i (j + 1) h1 q3 hi q1) (Nat.le_refl _) (by omega)
theorem pth_steps (a b : List α) : Pth a b (pairs 0 0 (steps a b)) 0 0 := pth_makes (makes a b) 0 0 rfl rfl (Nat.zero_le _) (Nat.zero_le _)
theorem pieces_cut (a b : List α) (ar : Nat) : Cut 0 a b (btw a b ar (pairs 0 0 (steps a b))) := btw_cut (pth_steps a b)
theorem steps_self (a : List α) : steps a a = List.replicate a.length 0 := by
  induction a with
  | nil => rw [steps_nil]; rfl
  | cons x a ih => rw [steps_cons, if_pos rfl, ih]; rfl
theorem gp_diag (bt n : Nat) : ∀ i : Nat, gp bt (pairs i i (List.replicate n 0) ++ [(i + n, i + n)]) i i [] = [] := by
  induction n with
  | zero =>
    intro i
    show gp bt [] (i + 0 + 1) (i + 0 + 1) (one bt i i [] (i + 0) (i + 0)) = []
    unfold gp one
    rw [if_neg (by omega)]
  | succ n ih =>
    intro i
    have e : pairs i i (List.replicate (n + 1) 0) = (i, i) :: pairs (i + 1) (i + 1) (List.replicate n 0) := rfl
    rw [e, List.cons_append]
    show gp bt _ (i + 1) (i + 1) (one bt i i [] i i) = []
    have o : one bt i i [] i i = [] := by unfold one; rw [if_neg (by omega)]
    rw [o, show i + (n + 1) = i + 1 + n by omega]
    exact ih (i + 1)
theorem pieces_none (a b : List α) (ar : Nat) : btw a b ar (pairs 0 0 (steps a b)) = [] ↔ a = b := by
  constructor
  · intro h
    have := pieces_cut a b ar
    rw [h] at this
    cases this
    rfl
  · rintro rfl
    unfold btw
    have := gp_diag (2 * ar) a.length 0
    rw [Nat.zero_add] at this
    rw [steps_self, this]
    rfl
def Grd (a b : List α) : List (Nat × Nat) → Nat → Nat → Prop
  | [], i, j => ∀ (hi : i < a.length) (hj : j < b.length), a[i] ≠ b[j]
  | x :: k, i, j => ((i < x.1 ∨ j < x.2) → ∀ (hi : i < a.length) (hj : j < b.length), a[i] ≠ b[j]) ∧ Grd a b k (x.1 + 1) (x.2 + 1)
theorem grd_tail {a b : List α} {k : List (Nat × Nat)} {i j : Nat} (h : ∀ x r, k = x :: r → Grd a b r (x.1 + 1) (x.2 + 1)) (hne : ∀ (hi : i < a.length) (hj : j < b.length), a[i] ≠ b[j]) : Grd a b k i j := by
  cases k with
  | nil => exact hne
  | cons x k => exact ⟨fun _ => hne, h x k rfl⟩
theorem grd_steps (n : Nat) {a b : List α} : ∀ i j, i ≤ a.length → j ≤ b.length → (a.length - i) + (b.length - j) ≤ n → Grd a b (pairs i j (steps (a.drop i) (b.drop j))) i j := by
  induction n with
  | zero =>
    intro i j hi hj hn
    rw [List.drop_of_length_le (by omega), List.drop_of_length_le (by omega), steps_nil]
    intro hi2; omega
  | succ n ih =>
    intro i j hi hj hn
    have tail : ∀ i2 j2 k, Grd a b k i2 j2 → ∀ x r, k = x :: r → Grd a b r (x.1 + 1) (x.2 + 1) := by
      intro i2 j2 k hg x r he
      subst he
      exact hg.2
    by_cases h1 : i < a.length
    · by_cases h2 : j < b.length
      · rw [List.drop_eq_getElem_cons h1, List.drop_eq_getElem_cons h2, steps_cons]
        by_cases he : a[i] = b[j]
        · rw [if_pos he, pairs]
          exact ⟨fun h => by exfalso; rcases h with h | h <;> exact Nat.lt_irrefl _ h, ih (i + 1) (j + 1) h1 h2 (by omega)⟩
        · rw [if_neg he]
          have hne : ∀ (hi : i < a.length) (hj : j < b.length), a[i] ≠ b[j] := fun _ _ => he
          split
          · rw [pairs]
            · have := ih i (j + 1) hi h2 (by omega)
              rw [List.drop_eq_getElem_cons h1] at this
              exact grd_tail (tail _ _ _ this) hne
            all_goals simp
          · rw [pairs]
            have := ih (i + 1) j h1 hj (by omega)
            rw [List.drop_eq_getElem_cons h2] at this
            exact grd_tail (tail _ _ _ this) hne
      · rw [show b.drop j = [] from List.drop_of_length_le (by omega), List.drop_eq_getElem_cons h1, steps_drop, pairs]
        have := ih (i + 1) j h1 hj (by omega)
        rw [show b.drop j = [] from List.drop_of_length_le (by omega)] at this
        exact grd_tail (tail _ _ _ this) (fun _ h => absurd h h2)
    · by_cases h2 : j < b.length
      · rw [show a.drop i = [] from List.drop_of_length_le (by omega), List.drop_eq_getElem_cons h2, steps_add, pairs]
        · have := ih i (j + 1) hi h2 (by omega)
          rw [show a.drop i = [] from List.drop_of_length_le (by omega)] at this
          exact grd_tail (tail _ _ _ this) (fun h _ => absurd h h1)
        all_goals simp
      · rw [List.drop_of_length_le (by omega), List.drop_of_length_le (by omega), steps_nil]
        intro hi2; omega
def Ne (a b : List α) (r : List G) : Prop := ∀ g, g ∈ r → ∀ (hi : g.f < a.length) (hj : g.u < b.length), a[g.f] ≠ b[g.u]
theorem ne_one {a b : List α} {bt i j p q : Nat} {r : List G} (h : Ne a b r) (hg : (i < p ∨ j < q) → ∀ (hi : i < a.length) (hj : j < b.length), a[i] ≠ b[j]) : Ne a b (one bt i j r p q) := by
  unfold one
  by_cases hc : i < p ∨ j < q
  · rw [if_pos hc]
    have hn := hg hc
    cases r with
    | nil => intro g hg; obtain rfl := List.mem_singleton.1 hg; exact hn
    | cons l r =>
      rw [show add bt i p j q (l :: r) = (if i - l.t ≤ bt then ⟨l.f, p, l.u, q⟩ :: r else ⟨i, p, j, q⟩ :: l :: r) from rfl]
      split
      · intro g hg
        rcases List.mem_cons.1 hg with rfl | hg
        · exact h l (by simp)
        · exact h g (by simp [hg])
      · intro g hg
        rcases List.mem_cons.1 hg with rfl | hg
        · exact hn
        · exact h g hg
  · rw [if_neg hc]; exact h
theorem ne_gp {a b : List α} {bt : Nat} (k : List (Nat × Nat)) : ∀ {i j : Nat} {r : List G}, Ne a b r → Grd a b k i j → Ne a b (gp bt (k ++ [(a.length, b.length)]) i j r) := by
  induction k with
  | nil => intro i j r h hg; exact ne_one h (fun _ => hg)
  | cons x k ih => intro i j r h hg; exact ih (ne_one h hg.1) hg.2
theorem gaps_ne (a b : List α) (bt : Nat) : Ne a b (gp bt (pairs 0 0 (steps a b) ++ [(a.length, b.length)]) 0 0 []) :=
  ne_gp _ (fun g hg => by cases hg) (grd_steps _ 0 0 (Nat.zero_le _) (Nat.zero_le _) (Nat.le_refl _))
end
end Go.Proofs.Ytoncghamkedhcaa.Km

namespace Go.Proofs.Ytoncghamkedhcaa.Km
open Um
set_option linter.unusedVariables false
set_option linter.unusedSectionVars false
section
variable {α : Type} [DecidableEq α]
def fin (L : List (Hk α)) : Nat := match L.getLast? with
  | some h => h.at_ + h.old.length
  | none => 0
theorem fin_nil : fin ([] : List (Hk α)) = 0 := rfl
theorem fin_snoc (L : List (Hk α)) (h : Hk α) : fin (L ++ [h]) = h.at_ + h.old.length := by unfold fin; rw [List.getLast?_concat]
def Put (m ar : Nat) (L : List (Hk α)) (h : Hk α) : Prop :=
  fin L ≤ h.at_ ∧ 0 < h.old.length + h.new.length ∧ h.at_ + h.old.length ≤ m ∧ (ar = 0 → L ≠ [] → h.at_ ≠ fin L) ∧ (ar = 0 → ∀ x y, h.old.head? = some x → h.new.head? = some y → x ≠ y)
def Apt (m ar : Nat) (H : List (Hk α)) : Prop := ∀ k h, H[k]? = some h → Put m ar (H.take k) h
theorem apt_snoc {m ar : Nat} {L : List (Hk α)} {h : Hk α} (h1 : Apt m ar L) (h2 : Put m ar L h) : Apt m ar (L ++ [h]) := by
  intro k x hx
  by_cases hk : k < L.length
  · rw [List.getElem?_append_left hk] at hx
    rw [List.take_append_of_le_length (by omega)]
    exact h1 k x hx
  · have hl := (List.getElem?_eq_some_iff.1 hx).1
    rw [List.length_append, List.length_singleton] at hl
    obtain rfl : k = L.length := by omega
    rw [List.getElem?_append_right (Nat.le_refl _), Nat.sub_self] at hx
    injection hx with hx
    subst hx
    rw [List.take_left]
    exact h2
theorem head_mid (l : List α) (i j : Nat) (x : α) (h : ((l.take j).drop i).head? = some x) : ∃ hi : i < l.length, l[i] = x := by
  rw [List.head?_drop, List.getElem?_take] at h
  split at h
  · obtain ⟨h1, h2⟩ := List.getElem?_eq_some_iff.1 h
    exact ⟨h1, h2⟩
  · cases h
theorem hks_apt {a b : List α} {ar : Nat} (r : List G) : ∀ {i j : Nat}, Ok a b (2 * ar) r i j → Ne a b r → i ≤ a.length → j ≤ b.length → Apt a.length ar (hks a b ar r) ∧ (∀ g, r.head? = some g → fin (hks a b ar r) = g.t + min ar (a.length - g.t)) := by
  induction r with
  | nil =>
    intro i j h hn hi hj
    exact ⟨fun k h hk => (by cases hk), fun g hg => (by cases hg)⟩
  | cons g r ih =>
    intro i j h hn hi hj
    obtain ⟨h1, h2, h3, h4, h5, h6, h7, h8, h9⟩ := h
    obtain ⟨k1, k2⟩ := ih h8 (fun g2 hg2 => hn g2 (by simp [hg2])) (by omega) (by omega)
    have hg0 := hn g (by simp)
    obtain ⟨x, hx⟩ : ∃ x, x = min ar g.f := ⟨_, rfl⟩
    obtain ⟨y, hy⟩ : ∃ y, y = min ar (a.length - g.t) := ⟨_, rfl⟩
    have hux : x ≤ g.u ∧ g.v + y ≤ b.length + ar ∧ g.u - x ≤ g.u := by
      cases r with
      | nil => have := h8.1; omega
      | cons l r =>
        obtain ⟨_, _, _, m4, m5, _⟩ := h8
        have := h9 l rfl
        omega
    have hol : ((a.take (g.t + y)).drop (g.f - x)).length = g.t + y - (g.f - x) := by rw [List.length_drop, List.length_take]; omega
    have hfin : fin (hks a b ar r) ≤ g.f - x ∧ (ar = 0 → r ≠ [] → fin (hks a b ar r) ≠ g.f - x) := by
      cases r with
      | nil => exact ⟨by rw [hks, fin_nil]; exact Nat.zero_le _, fun _ h => absurd rfl h⟩
      | cons l r =>
        have e := k2 l rfl
        have := h9 l rfl
        rw [e]
        exact ⟨by omega, fun h _ => by omega⟩
    have hne : hks a b ar r ≠ [] → r ≠ [] := fun h e => h (by rw [e]; rfl)
    rw [hks, ← hx, ← hy]
    refine ⟨apt_snoc k1 ⟨hfin.1, ?_, ?_, fun h e => (hfin.2 h (hne e)).symm, fun h p q hp hq => ?_⟩, fun g2 hg2 => ?_⟩
    · show 0 < ((a.take (g.t + y)).drop (g.f - x)).length + ((b.take (g.v + y)).drop (g.u - x)).length
      rw [hol, List.length_drop, List.length_take]
      omega
    · show g.f - x + ((a.take (g.t + y)).drop (g.f - x)).length ≤ a.length
      rw [hol]; omega
    · subst h
      obtain ⟨e1, e2⟩ := head_mid a _ _ p hp
      obtain ⟨e3, e4⟩ := head_mid b _ _ q hq
      have x0 : x = 0 := by omega
      subst x0
      simp only [Nat.sub_zero] at e1 e2 e3 e4
      rw [← e2, ← e4]
      exact hg0 e1 e3
    · injection hg2 with hg2
      subst hg2
      rw [fin_snoc]
      show g.f - x + ((a.take (g.t + y)).drop (g.f - x)).length = _
      rw [hol, ← hy]; omega
theorem pieces_apt (a b : List α) (ar : Nat) : Apt a.length ar (btw a b ar (pairs 0 0 (steps a b))) :=
  (hks_apt _ (gp_ok (btw := 2 * ar) _ (r := []) (⟨rfl, rfl⟩ : Ok a b (2 * ar) [] 0 0) (pth_steps a b)) (gaps_ne a b _) (Nat.le_refl _) (Nat.le_refl _)).1
end
end Go.Proofs.Ytoncghamkedhcaa.Km

namespace Go.Proofs.Ytoncghamkedhcaa.Kd
open Go.RowKit Tx Um Ud Aq Km
set_option linter.unusedVariables false
theorem info4 : (Try.prog.info? 56).map (fun i => (i.zero, i.size, i.bytes)) = some (some (.agg #[.int .i64 0, .int .i64 0, .int .i64 0, .int .i64 0]), 4, 32) := by kernel_rfl
def g4 (x : G) : List Value := [iv x.f, iv x.t, iv x.u, iv x.v]
theorem g4_one (x : G) : ∀ u ∈ g4 x, u.oneCell' = true := by
  intro u hu
  simp only [g4, List.mem_cons, List.not_mem_nil, or_false] at hu
  rcases hu with rfl | rfl | rfl | rfl <;> rfl
theorem flat4_len (l : List G) : (l.flatMap g4).length = l.length * 4 := by
  induction l with
  | nil => rfl
  | cons x l ih => rw [List.flatMap_cons, List.length_append, ih, List.length_cons]; show 4 + _ = _; omega
theorem flat4_get (l : List G) (k : Nat) (x : G) (h : l[k]? = some x) : (l.flatMap g4)[k * 4]? = some (iv x.f) ∧ (l.flatMap g4)[k * 4 + 1]? = some (iv x.t) ∧ (l.flatMap g4)[k * 4 + 2]? = some (iv x.u) ∧ (l.flatMap g4)[k * 4 + 3]? = some (iv x.v) := by
  induction l generalizing k with
  | nil => cases h
  | cons y l ih =>
    rw [List.flatMap_cons]
    cases k with
    | zero =>
      injection h with h
      subst h
      exact ⟨rfl, rfl, rfl, rfl⟩
    | succ k =>
      obtain ⟨h1, h2, h3, h4⟩ := ih k h
      have e : (g4 y).length = 4 := rfl
      rw [List.getElem?_append_right (by omega), List.getElem?_append_right (by omega), List.getElem?_append_right (by omega), List.getElem?_append_right (by omega), e, show (k + 1) * 4 - 4 = k * 4 by omega, show (k + 1) * 4 + 1 - 4 = k * 4 + 1 by omega, show (k + 1) * 4 + 2 - 4 = k * 4 + 2 by omega, show (k + 1) * 4 + 3 - 4 = k * 4 + 3 by omega]
      exact ⟨h1, h2, h3, h4⟩
theorem flat4_set (l : List G) (x : G) (p q : Nat) : (((l ++ [x]).flatMap g4).set (l.length * 4 + 1) (.int .i64 (p : Int))).set (l.length * 4 + 3) (.int .i64 (q : Int)) = (l ++ [(⟨x.f, p, x.u, q⟩ : G)]).flatMap g4 := by
  have h := flat4_len l
  rw [List.flatMap_append, List.flatMap_append, List.set_append_right _ _ (by omega), List.set_append_right _ _ (by omega), show l.length * 4 + 1 - (l.flatMap g4).length = 1 by omega, show l.length * 4 + 3 - (l.flatMap g4).length = 3 by omega]
  rfl
def Gs (w : World) (B : Nat) (v : Value) (l : List G) : Prop := w.ownsRow B 56 4 v l.length (l.flatMap g4)
theorem Gs.below {w w1 : World} {B : Nat} {v : Value} {l : List G} (h : Gs w B v l) (hb : Below w.heap.size w w1) : Gs w1 B v l := by
  refine ⟨h.1, ?_⟩
  rcases h.2 with h0 | ⟨g', cap', cur, hv, hg, hh, r⟩
  · exact .inl h0
  · exact .inr ⟨g', cap', cur, hv, hg, (hb.block g' (Array.getElem?_eq_some_iff.1 hh).1).trans hh, r⟩
theorem Gs.form {w : World} {B : Nat} {v : Value} {l : List G} (h : Gs w B v l) : ∃ a c, v = .slice a l.length c ∧ (l.length = 0 ∨ ∃ g, a = some ⟨g, 0, none⟩ ∧ B ≤ g ∧ g < w.heap.size ∧ (∀ k, w.frozen? ⟨g, k, none⟩ = false) ∧
    ∀ (k : Nat) x, l[k]? = some x → w.cell? ⟨g, k * 4, none⟩ = some (iv x.f) ∧ w.cell? ⟨g, k * 4 + 1, none⟩ = some (iv x.t) ∧ w.cell? ⟨g, k * 4 + 2, none⟩ = some (iv x.u) ∧ w.cell? ⟨g, k * 4 + 3, none⟩ = some (iv x.v)) := by
  have hh := h
  rcases h.2 with ⟨rfl, h0⟩ | ⟨g, cap, cur, rfl, hg, hh2, hn, hc, _⟩
  · exact ⟨none, 0, by rw [h0], .inl h0⟩
  · refine ⟨some ⟨g, 0, none⟩, cap, rfl, .inr ⟨g, rfl, hg, (Array.getElem?_eq_some_iff.1 hh2).1, fun k => by simp [World.frozen?, hh2], fun k x hx => ?_⟩⟩
    obtain ⟨h1, h2, h3, h4⟩ := flat4_get l k x hx
    have e1 := hh.cells (g := g) rfl _ _ h1
    have e2 := hh.cells (g := g) rfl _ _ h2
    have e3 := hh.cells (g := g) rfl _ _ h3
    have e4 := hh.cells (g := g) rfl _ _ h4
    rw [WideShapes.add_plain, Nat.zero_add] at e1 e2 e3 e4
    exact ⟨e1, e2, e3, e4⟩
theorem own_put4 {w : World} {base g n cap size : Nat} {e : TypeId} {xs : List Value} (h : w.ownsRow base e size (.slice (some ⟨g, 0, none⟩) n cap) n xs) (k : Nat) (u : Value) :
    (w.setCell ⟨g, k, none⟩ u).ownsRow base e size (.slice (some ⟨g, 0, none⟩) n cap) n (xs.set k u) := by
  refine ⟨by rw [List.length_set]; exact h.1, ?_⟩
  rcases h.2 with ⟨h0, _⟩ | ⟨g', cap', cur, hv, hb, hh, hn, hc, hs, ht⟩
  · cases h0
  · injection hv with hg _ hcap
    injection hg with hg
    injection hg with hg
    subst hg
    subst hcap
    refine .inr ⟨g, cap, cur.setIfInBounds k u, rfl, hb, ?_, hn, hc, by simpa using hs, ?_⟩
    · simp [World.setCell, Array.getElem?_modify, hh]
    · rw [Array.toList_setIfInBounds, List.take_set, ht]
theorem Gs.last {w : World} {B g c : Nat} {r : List G} {l : G} (h : Gs w B (.slice (some ⟨g, 0, none⟩) (r.length + 1) c) (r.reverse ++ [l])) (p q : Nat) :
    Gs ((w.setCell ⟨g, r.length * 4 + 1, none⟩ (.int .i64 (p : Int))).setCell ⟨g, r.length * 4 + 3, none⟩ (.int .i64 (q : Int))) B (.slice (some ⟨g, 0, none⟩) (r.length + 1) c) (r.reverse ++ [⟨l.f, p, l.u, q⟩]) := by
  have hl : (r.reverse ++ [l]).length = r.length + 1 := by simp
  have hl2 : (r.reverse ++ [(⟨l.f, p, l.u, q⟩ : G)]).length = r.length + 1 := by simp
  unfold Gs at h ⊢
  rw [hl] at h
  rw [hl2, ← flat4_set]
  have e : r.length = r.reverse.length := by simp
  have := own_put4 (own_put4 h (r.length * 4 + 1) (.int .i64 (p : Int))) (r.length * 4 + 3) (.int .i64 (q : Int))
  rw [← e]
  exact this
theorem cell_four_new (w : World) (u v x y : Value) (e : TypeId) : ∀ (j : Nat) z, [u, v, x, y][j]? = some z → (w.alloc (.cells #[u, v, x, y] e)).cell? ((⟨w.heap.size, 0, none⟩ : Addr).add j) = some z := by
  intro j z hj
  rw [WideShapes.add_plain]
  match j, hj with
  | 0, hj => injection hj with hj; subst hj; show (w.alloc _).cell? ⟨w.heap.size, 0, none⟩ = _; go_simp
  | 1, hj => injection hj with hj; subst hj; show (w.alloc _).cell? ⟨w.heap.size, 1, none⟩ = _; go_simp
  | 2, hj => injection hj with hj; subst hj; show (w.alloc _).cell? ⟨w.heap.size, 2, none⟩ = _; go_simp
  | 3, hj => injection hj with hj; subst hj; show (w.alloc _).cell? ⟨w.heap.size, 3, none⟩ = _; go_simp
def Rs : List (Nat × Nat) → Nat → Nat → Prop
  | [], _, _ => True
  | x :: k, i, j => i ≤ x.1 ∧ j ≤ x.2 ∧ Rs k (x.1 + 1) (x.2 + 1)
theorem rs_pth {α : Type} {a b : List α} (k : List (Nat × Nat)) : ∀ {i j : Nat}, Pth a b k i j → Rs (k ++ [(a.length, b.length)]) i j ∧ ∀ x, x ∈ k ++ [(a.length, b.length)] → x.1 ≤ a.length ∧ x.2 ≤ b.length := by
  induction k with
  | nil =>
    intro i j h
    refine ⟨⟨h.1, h.2, trivial⟩, fun x hx => ?_⟩
    obtain rfl := List.mem_singleton.1 hx
    exact ⟨Nat.le_refl _, Nat.le_refl _⟩
  | cons y k ih =>
    intro i j h
    obtain ⟨h1, h2, ⟨hi, hj, _⟩, h3⟩ := h
    obtain ⟨k1, k2⟩ := ih h3
    refine ⟨⟨h1, h2, k1⟩, fun x hx => ?_⟩
    rcases List.mem_cons.1 hx with rfl | hx
    · exact ⟨by omega, by omega⟩
    · exact k2 x hx
theorem add_cons (bt i p j q : Nat) (l : G) (r : List G) : add bt i p j q (l :: r) = if i - l.t ≤ bt then ⟨l.f, p, l.u, q⟩ :: r else ⟨i, p, j, q⟩ :: l :: r := rfl
theorem one_app {bt i j p q : Nat} {r : List G} (h : i < p ∨ j < q) (hl : ∀ l, r.head? = some l → ¬ i - l.t ≤ bt) : (one bt i j r p q).reverse = r.reverse ++ [⟨i, p, j, q⟩] := by
  unfold one
  rw [if_pos h]
  cases r with
  | nil => rfl
  | cons l r =>
    rw [add_cons, if_neg (hl l rfl)]
    simp
theorem one_last {bt i j p q : Nat} {r : List G} {l : G} (h : i < p ∨ j < q) (hl : i - l.t ≤ bt) : (one bt i j (l :: r) p q).reverse = r.reverse ++ [⟨l.f, p, l.u, q⟩] := by
  unfold one
  rw [if_pos h]
  rw [add_cons, if_pos hl]
  simp
theorem one_none {bt i j p q : Nat} {r : List G} (h : ¬ (i < p ∨ j < q)) : one bt i j r p q = r := by
  unfold one
  rw [if_neg h]
def Gt (K : List (Nat × Nat)) (bt t i j : Nat) (r : List G) : Prop := gp bt K 0 0 [] = gp bt (K.drop t) i j r ∧ Rs (K.drop t) i j ∧ (∀ l, r.head? = some l → l.t ≤ i) ∧ r.length ≤ t ∧ i ≤ 401 ∧ j ≤ 401
theorem gt_next {K : List (Nat × Nat)} {bt t i j : Nat} {r : List G} {x : Nat × Nat} (h : Gt K bt t i j r) (hx : K[t]? = some x) (hm : x.1 ≤ 400 ∧ x.2 ≤ 400) : i ≤ x.1 ∧ j ≤ x.2 ∧ Gt K bt (t + 1) (x.1 + 1) (x.2 + 1) (one bt i j r x.1 x.2) := by
  obtain ⟨h1, h2, h3, h4, h5, h6⟩ := h
  have e : K.drop t = x :: K.drop (t + 1) := by
    obtain ⟨q1, q2⟩ := List.getElem?_eq_some_iff.1 hx
    rw [List.drop_eq_getElem_cons q1, q2]
  rw [e] at h1 h2
  obtain ⟨k1, k2, k3⟩ := h2
  refine ⟨k1, k2, h1, k3, fun l hl => ?_, ?_, by omega, by omega⟩
  · unfold one at hl
    by_cases hg : i < x.1 ∨ j < x.2
    · rw [if_pos hg] at hl
      cases r with
      | nil =>
        injection hl with hl
        subst hl
        exact Nat.le_succ _
      | cons l' r =>
        rw [add_cons] at hl
        by_cases hb : i - l'.t ≤ bt
        · rw [if_pos hb] at hl
          injection hl with hl
          subst hl
          exact Nat.le_succ _
        · rw [if_neg hb] at hl
          injection hl with hl
          subst hl
          exact Nat.le_succ _
    · rw [if_neg hg] at hl
      have := h3 l hl
      omega
  · unfold one
    by_cases hg : i < x.1 ∨ j < x.2
    · rw [if_pos hg]
      cases r with
      | nil => show 1 ≤ t + 1; omega
      | cons l' r =>
        rw [add_cons]
        simp only [List.length_cons] at h4
        by_cases hb : i - l'.t ≤ bt
        · rw [if_pos hb]
          simp only [List.length_cons]
          omega
        · rw [if_neg hb]
          simp only [List.length_cons]
          omega
    · rw [if_neg hg]
      omega
def GapsTo (l : List G) (w : World) (e : Ending) (w' : World) : Prop := ∃ v, e = .returned v ∧ Gs w' w.heap.size v l ∧ Below w.heap.size w w'
end Go.Proofs.Ytoncghamkedhcaa.Kd

namespace Go.Proofs.Ytoncghamkedhcaa.Kd
open Go.RowKit Tx Um Ud Aq Km
set_option linter.unusedVariables false
set_option maxRecDepth 100000 in
theorem least_any (x y : Int) (w : World) : Calls Try.prog 19 #[.int .i64 x, .int .i64 y] w fun e w' => e = .returned (.int .i64 (min x y)) ∧ w = w' := by
  by_cases h : y < x
  · have e : Hid (min x y = y) := by show min x y = y; omega
    go_enter Try.func19, Try.ntmps19
    go_wp2
    go_ret
    exact ⟨by rw [e.out]; rfl, rfl⟩
  · have e : Hid (min x y = x) := by show min x y = x; omega
    go_enter Try.func19, Try.ntmps19
    go_wp2
    go_ret
    exact ⟨by rw [e.out]; rfl, rfl⟩
theorem stands_long {a l : List ByteArray} {p : Nat} (h : a.length - p < l.length) : stands a p l = false := by
  cases hs : stands a p l
  · rfl
  · have := stands_len hs; omega
theorem stands_no {a l : List ByteArray} {p k : Nat} (hk : k < l.length) (hp : p + k < a.length) (h : a[p + k] ≠ l[k]) : stands a p l = false := by
  unfold stands
  apply decide_eq_false
  intro he
  have h1 : l[k]? = a[p + k]? := by
    conv => lhs; rw [← he]
    rw [List.getElem?_take, if_pos hk, List.getElem?_drop]
  rw [List.getElem?_eq_getElem hk, List.getElem?_eq_getElem hp] at h1
  injection h1 with h1
  exact h h1.symm
theorem stands_yes {a l : List ByteArray} {p : Nat} (hp : p + l.length ≤ a.length) (h : ∀ k, (hk : k < l.length) → a[p + k]? = l[k]?) : stands a p l = true := by
  unfold stands
  apply decide_eq_true
  apply List.ext_getElem?
  intro k
  rw [List.getElem?_take]
  by_cases hk : k < l.length
  · rw [if_pos hk, List.getElem?_drop, h k hk]
  · rw [if_neg hk, List.getElem?_eq_none (by omega)]
set_option maxRecDepth 100000 in
set_option maxHeartbeats 1000000 in
theorem stands_any (A B : Option Addr) (ca cb p : Nat) (a l : List ByteArray) (w : World) (hA : Strs w A a.length a) (hB : Strs w B l.length l) (ha : a.length ≤ 4611686018427387903) (hl : l.length ≤ 4611686018427387903) (hp : p ≤ a.length) :
    Calls Try.prog 23 #[.slice A a.length ca, .int .i64 p, .slice B l.length cb] w fun e w' => e = .returned (.bool (stands a p l)) ∧ Below w.heap.size w w' := by
  have HA := Lib.hid hA
  have HB := Lib.hid hB
  by_cases h1 : a.length - p < l.length
  · have HS := Lib.hid (stands_long h1)
    obtain ⟨m, hm⟩ : ∃ m, m = a.length := ⟨_, rfl⟩
    obtain ⟨n, hn⟩ : ∃ n, n = l.length := ⟨_, rfl⟩
    rw [← hm] at ha hp h1 ⊢
    rw [← hn] at hl h1 ⊢
    have e1 : (m : Int) - (p : Int) < (n : Int) := by omega
    have w1 : IntKind.i64.wrap ((m : Int) - (p : Int)) = (m : Int) - (p : Int) := IntWalk.i64_in _ (by omega)
    clear hm hn hA hB
    go_enter Try.func23, Try.ntmps23
    go_wp2_with fail
    go_ret
    exact ⟨by rw [HS.out]; rfl, Below.refl _ _⟩
  · have HY := Lib.hid (fun h => stands_yes (a := a) (l := l) (p := p) (by omega) h)
    obtain ⟨m, hm⟩ : ∃ m, m = a.length := ⟨_, rfl⟩
    obtain ⟨n, hn⟩ : ∃ n, n = l.length := ⟨_, rfl⟩
    rw [← hm] at ha hp h1 ⊢
    rw [← hn] at hl h1 ⊢
    have HM := Lib.hid hm
    have HN := Lib.hid hn
    have e1 : ¬ (m : Int) - (p : Int) < (n : Int) := by omega
    have w1 : IntKind.i64.wrap ((m : Int) - (p : Int)) = (m : Int) - (p : Int) := IntWalk.i64_in _ (by omega)
    clear hm hn hA hB
    go_enter Try.func23, Try.ntmps23
    go_wp2_with fail
    go_loopw [7] (fun i wr => ∃ k : Nat, k ≤ n ∧ i = .int .i64 k ∧ Hid (∀ j, (hj : j < k) → a[p + j]? = l[j]?) ∧ Below w.heap.size w wr) (fun i _ => n - (intOf i).toNat)
    case atStart => exact ⟨0, Nat.zero_le _, rfl, fun j hj => by omega, Below.refl _ _⟩
    case round =>
      obtain ⟨k, hk, rfl, HT, hW⟩ := hrel
      by_cases hlt : k < n
      · obtain ⟨t, ht⟩ : ∃ t, t = p + k := ⟨_, rfl⟩
        have hka : t < a.length := by rw [← HM.out]; omega
        have hkb : k < l.length := by rw [← HN.out]; exact hlt
        obtain ⟨ba, oa, rfl, c1⟩ := strs_cell HA.out hka hW
        obtain ⟨bb, ob, rfl, c2⟩ := strs_cell HB.out hkb hW
        obtain ⟨S, hS⟩ : ∃ S, S = a[t] := ⟨_, rfl⟩
        obtain ⟨T, hT0⟩ : ∃ T, T = l[k] := ⟨_, rfl⟩
        rw [← hS] at c1
        rw [← hT0] at c2
        have wt : IntKind.i64.wrap (t : Int) = (t : Int) := IntWalk.i64_in _ (by omega)
        have wpk : IntKind.i64.wrap ((p : Int) + (k : Int)) = (t : Int) := (IntWalk.i64_in _ (by omega)).trans (by omega)
        have spk : (p : Int) + (k : Int) = (t : Int) := by omega
        have hlt1 : (k : Int) < (n : Int) := by omega
        have hlt2 : (t : Int) < (m : Int) := by omega
        by_cases he : S = T
        · have e2 : (S.toList == T.toList) = true := by rw [he]; exact beq_self_eq_true _
          have HNX : Hid (∀ j, (hj : j < k + 1) → a[p + j]? = l[j]?) := fun j hj => by
            by_cases e : j = k
            · rw [e, ← ht, List.getElem?_eq_getElem hka, List.getElem?_eq_getElem hkb, ← hS, ← hT0, he]
            · exact HT.out j (by omega)
          clear hS hT0 he HT hka hkb ht
          go_wp2_with fail
          go_quiet (fail)
          go_wp2_with fail
          go_roundw
          case rel => exact ⟨k + 1, by omega, by go_num, HNX, below_drewN hW _⟩
          case measure => simp [intOf]; omega
        · have e2 : (S.toList == T.toList) = false := bytes_ne he
          have HE : Hid (stands a p l = false) := stands_no hkb (by rw [← ht]; exact hka) (by
            simp only [← ht]
            rw [← hS, ← hT0]
            exact he)
          clear hS hT0 he HT hka hkb ht
          go_wp2_with fail
          go_quiet (fail)
          go_wp2_with fail
          go_ret
          exact ⟨by rw [HE.out]; rfl, below_drewN hW _⟩
      · have hkn : k = n := by omega
        have HE : Hid (stands a p l = true) := HY.out (fun j hj => HT.out j (by rw [hkn, HN.out]; exact hj))
        clear HT hkn
        go_wp2_with fail
        go_ret
        exact ⟨by rw [HE.out]; rfl, hW⟩
end Go.Proofs.Ytoncghamkedhcaa.Kd

namespace Go.Proofs.Ytoncghamkedhcaa.Kd
open Go.RowKit Tx Um Ud Aq Km
set_option linter.unusedVariables false
theorem infoH : (Try.prog.info? 33).map (fun i => (i.zero, i.size, i.bytes)) = some (some (.agg #[.int .i64 0, .slice none 0 0, .slice none 0 0]), 3, 56) := by kernel_rfl
def Rd (w : World) (u : Value) (l : List ByteArray) : Prop := ∃ A c, u = .slice A l.length c ∧ Strs w A l.length l ∧ (A = none → c = 0)
theorem Rd.below {w w1 : World} {u : Value} {l : List ByteArray} (h : Rd w u l) (hb : Below w.heap.size w w1) : Rd w1 u l := by
  obtain ⟨A, c, rfl, h1, h2⟩ := h
  exact ⟨A, c, rfl, h1.below hb, h2⟩
theorem Rd.one {w : World} {u : Value} {l : List ByteArray} (h : Rd w u l) : u.oneCell' = true := by
  obtain ⟨A, c, rfl, _⟩ := h
  rfl
theorem rd_sub {w : World} {A : Option Addr} {c lo hi : Nat} {l : List ByteArray} (h : Strs w A l.length l) (h1 : lo ≤ hi) (h2 : hi ≤ l.length) (hc : l.length ≤ c) (hnil : A = none → c = 0) : Rd w (sliced A lo hi c 1) ((l.take hi).drop lo) := by
  have e : ((l.take hi).drop lo).length = hi - lo := by rw [List.length_drop, List.length_take]; omega
  unfold sliced
  refine ⟨_, c - lo, by rw [e], ?_, fun hz => ?_⟩
  rotate_left
  · cases A with
    | none => rw [hnil rfl]; exact Nat.zero_sub _
    | some ad => split at hz <;> simp at hz
  rw [e]
  refine ⟨e, ?_⟩
  by_cases h0 : hi - lo = 0
  · exact .inl h0
  · obtain ⟨b, off, ha, hb, hcell⟩ := h.2.resolve_left (by omega)
    subst ha
    refine .inr ⟨b, off + lo, ?_, hb, fun k x hx => ?_⟩
    · rw [if_neg (by omega)]
      simp [Addr.add]
    · have hk := (List.getElem?_eq_some_iff.1 hx).1
      rw [List.getElem?_drop, List.getElem?_take, if_pos (by omega)] at hx
      rw [Nat.add_assoc]
      exact hcell (lo + k) x hx
def h3 (x : Int × Value × Value) : List Value := [.int .i64 x.1, x.2.1, x.2.2]
theorem flat3_get (l : List (Int × Value × Value)) (k : Nat) (x : Int × Value × Value) (h : l[k]? = some x) : (l.flatMap h3)[k * 3]? = some (.int .i64 x.1) ∧ (l.flatMap h3)[k * 3 + 1]? = some x.2.1 ∧ (l.flatMap h3)[k * 3 + 2]? = some x.2.2 := by
  induction l generalizing k with
  | nil => cases h
  | cons y l ih =>
    rw [List.flatMap_cons]
    cases k with
    | zero =>
      injection h with h
      subst h
      exact ⟨rfl, rfl, rfl⟩
    | succ k =>
      obtain ⟨k1, k2, k3⟩ := ih k h
      have e : (h3 y).length = 3 := rfl
      rw [List.getElem?_append_right (by omega), List.getElem?_append_right (by omega), List.getElem?_append_right (by omega), e, show (k + 1) * 3 - 3 = k * 3 by omega, show (k + 1) * 3 + 1 - 3 = k * 3 + 1 by omega, show (k + 1) * 3 + 2 - 3 = k * 3 + 2 by omega]
      exact ⟨k1, k2, k3⟩
def Hu (w : World) (B : Nat) (v : Value) (cs : List (Int × Value × Value)) : Prop := w.ownsRow B 33 3 v cs.length (cs.flatMap h3)
theorem Hu.below {w w1 : World} {B : Nat} {v : Value} {cs : List (Int × Value × Value)} (h : Hu w B v cs) (hb : Below w.heap.size w w1) : Hu w1 B v cs := by
  refine ⟨h.1, ?_⟩
  rcases h.2 with h0 | ⟨g', cap', cur, hv, hg, hh, r⟩
  · exact .inl h0
  · exact .inr ⟨g', cap', cur, hv, hg, (hb.block g' (Array.getElem?_eq_some_iff.1 hh).1).trans hh, r⟩
def Is (w : World) : List (Int × Value × Value) → List (Hz ByteArray) → Prop
  | [], [] => True
  | c :: cs, h :: hs => c.1 = h.at_ ∧ Rd w c.2.1 h.old ∧ Rd w c.2.2 h.new ∧ Is w cs hs
  | _, _ => False
theorem Is.below {w w1 : World} (hb : Below w.heap.size w w1) : ∀ {cs : List (Int × Value × Value)} {hs : List (Hz ByteArray)}, Is w cs hs → Is w1 cs hs
  | [], [], _ => trivial
  | _ :: _, _ :: _, h => ⟨h.1, h.2.1.below hb, h.2.2.1.below hb, Is.below hb h.2.2.2⟩
theorem Is.len {w : World} : ∀ {cs : List (Int × Value × Value)} {hs : List (Hz ByteArray)}, Is w cs hs → cs.length = hs.length
  | [], [], _ => rfl
  | _ :: _, _ :: _, h => by rw [List.length_cons, List.length_cons, Is.len h.2.2.2]
theorem Is.snoc {w : World} {c : Int × Value × Value} {x : Hz ByteArray} (h1 : c.1 = x.at_) (h2 : Rd w c.2.1 x.old) (h3 : Rd w c.2.2 x.new) : ∀ {cs : List (Int × Value × Value)} {hs : List (Hz ByteArray)}, Is w cs hs → Is w (cs ++ [c]) (hs ++ [x])
  | [], [], _ => ⟨h1, h2, h3, trivial⟩
  | _ :: _, _ :: _, h => ⟨h.1, h.2.1, h.2.2.1, Is.snoc h1 h2 h3 h.2.2.2⟩
theorem Is.get {w : World} : ∀ {cs : List (Int × Value × Value)} {hs : List (Hz ByteArray)}, Is w cs hs → ∀ (k : Nat) x, hs[k]? = some x → ∃ c, cs[k]? = some c ∧ c.1 = x.at_ ∧ Rd w c.2.1 x.old ∧ Rd w c.2.2 x.new
  | [], [], _ => fun k x hx => by cases hx
  | c :: cs, h :: hs, hi => fun k x hx => by
    cases k with
    | zero =>
      injection hx with hx
      subst hx
      exact ⟨c, rfl, hi.1, hi.2.1, hi.2.2.1⟩
    | succ k => exact Is.get hi.2.2.2 k x hx
def HzR (w : World) (a : Option Addr) (n : Nat) (hs : List (Hz ByteArray)) : Prop := hs.length = n ∧ (n = 0 ∨ ∃ b off, a = some ⟨b, off, none⟩ ∧ b < w.heap.size ∧ ∀ (k : Nat) x, hs[k]? = some x → ∃ uo un,
  w.cell? ⟨b, off + k * 3, none⟩ = some (.int .i64 x.at_) ∧ w.cell? ⟨b, off + k * 3 + 1, none⟩ = some uo ∧ w.cell? ⟨b, off + k * 3 + 2, none⟩ = some un ∧ Rd w uo x.old ∧ Rd w un x.new)
theorem HzR.below {w w1 : World} {a : Option Addr} {n : Nat} {hs : List (Hz ByteArray)} (h : HzR w a n hs) (hb : Below w.heap.size w w1) : HzR w1 a n hs := by
  refine ⟨h.1, ?_⟩
  rcases h.2 with h0 | ⟨b, off, ha, hlt, hc⟩
  · exact .inl h0
  · refine .inr ⟨b, off, ha, Nat.lt_of_lt_of_le hlt hb.size, fun k x hx => ?_⟩
    obtain ⟨uo, un, c0, c1, c2, r1, r2⟩ := hc k x hx
    exact ⟨uo, un, (hb.cell (p := ⟨b, _, none⟩) hlt).trans c0, (hb.cell (p := ⟨b, _, none⟩) hlt).trans c1, (hb.cell (p := ⟨b, _, none⟩) hlt).trans c2, r1.below hb, r2.below hb⟩
theorem Hu.form {w : World} {B : Nat} {v : Value} {cs : List (Int × Value × Value)} {hs : List (Hz ByteArray)} (h : Hu w B v cs) (hi : Is w cs hs) : ∃ a c, v = .slice a hs.length c ∧ HzR w a hs.length hs := by
  have hh := h
  have hl := hi.len
  rcases h.2 with ⟨rfl, h0⟩ | ⟨g, cap, cur, rfl, hg, hh2, hn, hc, _⟩
  · exact ⟨none, 0, by rw [← hl, h0], rfl, .inl (by omega)⟩
  · refine ⟨some ⟨g, 0, none⟩, cap, by rw [hl], rfl, .inr ⟨g, 0, rfl, (Array.getElem?_eq_some_iff.1 hh2).1, fun k x hx => ?_⟩⟩
    obtain ⟨c, hck, k1, k2, k3⟩ := hi.get k x hx
    obtain ⟨h1, h2, h3⟩ := flat3_get cs k c hck
    have e1 := hh.cells (g := g) rfl _ _ h1
    have e2 := hh.cells (g := g) rfl _ _ h2
    have e3 := hh.cells (g := g) rfl _ _ h3
    rw [WideShapes.add_plain] at e1 e2 e3
    rw [k1] at e1
    exact ⟨_, _, e1, e2, e3, k2, k3⟩
theorem cell_three_new (w : World) (u v x : Value) (e : TypeId) : ∀ (j : Nat) z, [u, v, x][j]? = some z → (w.alloc (.cells #[u, v, x] e)).cell? ((⟨w.heap.size, 0, none⟩ : Addr).add j) = some z := by
  intro j z hj
  rw [WideShapes.add_plain]
  match j, hj with
  | 0, hj => injection hj with hj; subst hj; show (w.alloc _).cell? ⟨w.heap.size, 0, none⟩ = _; go_simp
  | 1, hj => injection hj with hj; subst hj; show (w.alloc _).cell? ⟨w.heap.size, 1, none⟩ = _; go_simp
  | 2, hj => injection hj with hj; subst hj; show (w.alloc _).cell? ⟨w.heap.size, 2, none⟩ = _; go_simp
def pc (a b : List ByteArray) (ar : Nat) (g : G) : Hk ByteArray := ⟨g.f - min ar g.f, (a.take (g.t + min ar (a.length - g.t))).drop (g.f - min ar g.f), (b.take (g.v + min ar (a.length - g.t))).drop (g.u - min ar g.f)⟩
theorem hks_map (a b : List ByteArray) (ar : Nat) (r : List G) : hks a b ar r = r.reverse.map (pc a b ar) := by
  induction r with
  | nil => rfl
  | cons g r ih =>
    rw [hks, ih, List.reverse_cons, List.map_append]
    rfl
def Fit4 (a b : List ByteArray) (ar : Nat) (g : G) : Prop := g.f ≤ g.t ∧ g.t ≤ a.length ∧ g.u ≤ g.v ∧ g.v ≤ b.length ∧ min ar g.f ≤ g.u ∧ g.v + min ar (a.length - g.t) ≤ b.length
theorem ok_all {a b : List ByteArray} {ar : Nat} (r : List G) : ∀ {i j : Nat}, Ok a b (2 * ar) r i j → i ≤ a.length → j ≤ b.length → (∀ g, r.head? = some g → g.v + min ar (a.length - g.t) ≤ b.length) → ∀ g, g ∈ r → Fit4 a b ar g := by
  induction r with
  | nil => intro i j _ _ _ _ g hg; cases hg
  | cons l r ih =>
    intro i j h hi hj hy g hg
    obtain ⟨h1, h2, h3, h4, h5, h6, h7, h8, h9⟩ := h
    have hy0 := hy l rfl
    rcases List.mem_cons.1 hg with rfl | hg
    · refine ⟨h1, by omega, h3, by omega, ?_, hy0⟩
      cases r with
      | nil => have := h8.1; omega
      | cons l2 r =>
        obtain ⟨k1, k2, k3, k4, k5, k6, k7, k8, k9⟩ := h8
        have := h9 l2 rfl
        omega
    · refine ih h8 (by omega) (by omega) (fun l2 hl => ?_) g hg
      cases r with
      | nil => cases hl
      | cons l3 r =>
        injection hl with hl
        subst hl
        obtain ⟨k1, k2, k3, k4, k5, k6, k7, k8, k9⟩ := h8
        have := h9 l3 rfl
        omega
theorem gaps_fit (a b : List ByteArray) (ar : Nat) : ∀ g, g ∈ (gp (2 * ar) (pairs 0 0 (steps a b) ++ [(a.length, b.length)]) 0 0 []).reverse → Fit4 a b ar g := by
  intro g hg
  have h := gp_ok (btw := 2 * ar) (pairs 0 0 (steps a b)) (r := []) (⟨rfl, rfl⟩ : Ok a b (2 * ar) [] 0 0) (pth_steps a b)
  refine ok_all _ h (Nat.le_refl _) (Nat.le_refl _) (fun l hl => ?_) g (List.mem_reverse.1 hg)
  cases hr : gp (2 * ar) (pairs 0 0 (steps a b) ++ [(a.length, b.length)]) 0 0 [] with
  | nil => rw [hr] at hl; cases hl
  | cons l2 r =>
    rw [hr] at hl h
    injection hl with hl
    subst hl
    obtain ⟨k1, k2, k3, k4, k5, _⟩ := h
    omega
end Go.Proofs.Ytoncghamkedhcaa.Kd

namespace Go.Proofs.Ytoncghamkedhcaa.Sw
open Go.RowKit Tx
set_option linter.unusedVariables false
section
variable {P : Program} (w : World)
theorem wp_own {o : Oper} {a : Act} {K : Act → World → Prop} {Q : Exit → Act → World → Prop} (s x : Operand) (t : TypeId)
    (ho : o.op = .call { callee := .builtin .append, args := #[s, x], argTypes := #[t, t] })
    (base : Nat) (e : TypeId) (i : TypeInfo) (z : Value) (size bytes : Nat) (ht : P.underlying t = some (.slice e)) (hi : P.info? e = some i) (hz : i.zero = some z)
    (hsize : i.size = size) (hby : i.bytes = bytes) (hzs : z.cells.size = size) (hsz : 0 < size)
    (v : Value) (n : Nat) (xs : List Value) (hs : a.eval s = v) (hown : w.ownsRow base e size v n xs)
    (ad : Addr) (m c : Nat) (news : List Value) (hx : a.eval x = .slice (some ad) m c) (hl : news.length = m * size) (hnews : ∀ j u, news[j]? = some u → w.cell? (ad.add j) = some u) (h1 : ∀ u ∈ news, u.oneCell' = true)
    (h63 : n + m ≤ maxLen) (hbytes : (n + m) * bytes ≤ 140737488355328) (hbase : base ≤ w.heap.size)
    (h : ∀ v' w', w'.ownsRow base e size v' (n + m) (xs ++ news) → w.grownBy w' v.ownBlock → K (a.put o.dst v') w') : o.wp P a w K Q := by
  obtain ⟨v', w', hr, h2, h3, h4⟩ := run_append_own (P := P) w base t o.type e i z size bytes ht hi hz hsize hby hzs hsz v n xs hown ad m c news hl hnews h1 h63 hbytes hbase
  unfold Oper.wp execOp
  simp only [ho, resolve, invoke, builtin, Sem.run_bind, Sem.run_pure, Result.andThen_ok, List.map_toArray, List.map_cons, List.map_nil, hs, hx, hr]
  exact h v' w' h2 h3
theorem step_own {ops : Array Oper} {o : Oper} {a : Act} {K : Act → World → Prop} {Q : Exit → Act → World → Prop} {E : Prop} (hgd : o.guard = none) (s x : Operand) (t : TypeId)
    (ho : o.op = .call { callee := .builtin .append, args := #[s, x], argTypes := #[t, t] })
    (base : Nat) (e : TypeId) (i : TypeInfo) (z : Value) (size bytes : Nat) (ht : P.underlying t = some (.slice e)) (hi : P.info? e = some i) (hz : i.zero = some z)
    (hsize : i.size = size) (hby : i.bytes = bytes) (hzs : z.cells.size = size) (hsz : 0 < size)
    (v : Value) (n : Nat) (xs : List Value) (hs : a.eval s = v) (hown : w.ownsRow base e size v n xs)
    (ad : Addr) (m c : Nat) (news : List Value) (hx : a.eval x = .slice (some ad) m c) (hl : news.length = m * size) (hnews : ∀ j u, news[j]? = some u → w.cell? (ad.add j) = some u) (h1 : ∀ u ∈ news, u.oneCell' = true)
    (h63 : n + m ≤ maxLen) (hbytes : (n + m) * bytes ≤ 140737488355328) (hbase : base ≤ w.heap.size)
    (h : ∀ v' w', w'.ownsRow base e size v' (n + m) (xs ++ news) → w.grownBy w' v.ownBlock → K (a.put o.dst v') w') :
    if Region.wanted o (yielded ops a.tmps) = true then Oper.wp P o a w K Q else E := by
  have hw : Region.wanted o (yielded ops a.tmps) = true := by simp [Region.wanted, hgd]
  rw [if_pos hw]
  exact wp_own w s x t ho base e i z size bytes ht hi hz hsize hby hzs hsz v n xs hs hown ad m c news hx hl hnews h1 h63 hbytes hbase h
end
end Go.Proofs.Ytoncghamkedhcaa.Sw

namespace Go.Proofs.Ytoncghamkedhcaa.Kd
open Go.RowKit Tx Um Ud Aq Km
set_option linter.unusedVariables false
set_option maxRecDepth 100000 in
set_option maxHeartbeats 2000000 in
theorem gaps_any (A B : Option Addr) (ca cb bt : Nat) (a b : List ByteArray) (w : World) (hA : Strs w A a.length a) (hB : Strs w B b.length b) (hm4 : a.length ≤ 400) (hn4 : b.length ≤ 400) (hbt : bt ≤ 800) :
    Calls Try.prog 20 #[.slice A a.length ca, .slice B b.length cb, .int .i64 (bt : Int)] w (GapsTo (gp bt (pairs 0 0 (steps a b) ++ [(a.length, b.length)]) 0 0 []).reverse w) := by
  obtain ⟨iE, hI, hI0, hI1, hI2⟩ := info_parts infoPair
  obtain ⟨iG, hG, hG0, hG1, hG2⟩ := info_parts info4
  have ck := refKept_any A B ca cb a b w hA hB
  have hl : lng a b = false := by unfold lng; rw [decide_eq_false (by omega), decide_eq_false (by omega)]; rfl
  have hkp : kep a b = pairs 0 0 (steps a b) := by unfold kep; rw [hl]; rfl
  have her : err a b = 0 := by unfold err; rw [hl]; rfl
  unfold PrsTo at ck
  rw [hkp, her] at ck
  have hkl : (pairs 0 0 (steps a b)).length ≤ 400 := by
    have := pairs_len (steps a b) 0 0
    have := kept a b
    have := lcs_le_left a b
    omega
  obtain ⟨hrs, hmx⟩ := rs_pth _ (pth_steps a b)
  have hKl : (pairs 0 0 (steps a b) ++ [(a.length, b.length)]).length = (pairs 0 0 (steps a b)).length + 1 := by simp
  obtain ⟨kp, hkpp⟩ : ∃ kp, kp = pairs 0 0 (steps a b) := ⟨_, rfl⟩
  rw [← hkpp] at ck hkl hrs hmx hKl ⊢
  obtain ⟨m, hm⟩ : ∃ m, m = a.length := ⟨_, rfl⟩
  obtain ⟨n, hn⟩ : ∃ n, n = b.length := ⟨_, rfl⟩
  rw [← hm] at ck hm4 hrs hmx hKl ⊢
  rw [← hn] at ck hn4 hrs hmx hKl ⊢
  have HMX : Hid (∀ x, x ∈ kp ++ [(m, n)] → x.1 ≤ 400 ∧ x.2 ≤ 400) := fun x hx => by have := hmx x hx; omega
  have HST : Hid (Gt (kp ++ [(m, n)]) bt 0 0 0 []) := ⟨rfl, hrs, (fun l hl => by cases hl), Nat.le_refl _, Nat.zero_le _, Nat.zero_le _⟩
  have CK := Lib.hid ck
  clear hA hB hl hkp her hkpp hrs hmx ck hm hn
  go_enter Try.func20, Try.ntmps20
  go_wp2_with fail
  go_at_call 30
  refine CK.out.mono ?_
  rintro e w1 ⟨v, rfl, hv, hb1⟩
  have hown : w1.ownsRow w.heap.size 49 2 v kp.length (kp.flatMap Ud.c2) := hv
  have hszd := hb1.size
  obtain ⟨va, vc, rfl, _⟩ := hv.form
  clear hv CK
  go_wp2_with (at_builtin; refine wpList_append_own _ rfl _ _ 70 rfl w.heap.size 49 iE (.agg #[.int .i64 0, .int .i64 0]) 2 16 Try.underlying70 hI hI0 hI1 hI2 rfl (by decide) _ _ _ rfl (hown.alloc _) ⟨w1.heap.size, 0, none⟩ 1 1 (Ud.c2 (m, n)) rfl rfl ?c1 ?c2 ?c3 ?c4 ?c5 ?_)
  case c1 => exact cell_two_new _ _ _ _
  case c2 => exact c2_one (m, n)
  case c3 => unfold maxLen; omega
  case c4 => omega
  case c5 => simp; omega
  intro v' w2 hown' hgrow _
  have hb2 : Below w.heap.size w w2 := (hb1.alloc hszd _).grown hgrow (by simp; omega) (fun k hk => (hown.lt k hk).1)
  have hp2 : Prs 49 w2 w.heap.size v' (kp ++ [(m, n)]) := by
    unfold Prs
    rw [List.length_append, List.flatMap_append]
    exact hown'
  obtain ⟨ka, kc, rfl, hkr⟩ := hp2.form
  obtain ⟨K, hK⟩ : ∃ K, K = kp ++ [(m, n)] := ⟨_, rfl⟩
  rw [← hK] at hkr HMX HST hKl ⊢
  obtain ⟨L, hL⟩ : ∃ L, L = K.length := ⟨_, rfl⟩
  rw [← hL] at hKl hkr ⊢
  have HL := Lib.hid hL
  have HKK := Lib.hid hK
  have HKR := Lib.hid hkr
  have HB2 := Lib.hid hb2
  have hL4 : L ≤ 401 := by omega
  clear hown hown' hgrow hb1 hszd hp2 hkr hb2 hK hL hKl hkl
  go_wp2_with fail
  go_loopw [9, 10, 11, 12, 13] (fun v i j t _ wr => ∃ (tn p q : Nat) (r : List G), t = .int .i64 (tn : Int) ∧ i = .int .i64 (p : Int) ∧ j = .int .i64 (q : Int) ∧ tn ≤ L ∧ Hid (Gt K bt tn p q r) ∧ Gs wr w2.heap.size v r.reverse ∧ Hid (Below w2.heap.size w2 wr)) (fun _ _ _ t _ _ => L - (intOf t).toNat)
  case atStart => exact ⟨0, 0, 0, [], rfl, rfl, rfl, Nat.zero_le _, HST, World.ownsRow_nil _ _ _ _, Below.refl _ _⟩
  case round =>
    obtain ⟨t, p, q, r, rfl, rfl, rfl, ht, HS, hgs, HB⟩ := hrel
    clear HST
    obtain ⟨_, _, hhd, hrl, hp4, hq4⟩ := HS.out
    by_cases hlt : t < L
    · have e1 : (t : Int) < (L : Int) := by omega
      obtain ⟨⟨X, Y⟩, hx⟩ : ∃ y, K[t]? = some y := ⟨_, List.getElem?_eq_getElem (by rw [← HL.out]; exact hlt)⟩
      obtain ⟨gk, ok, rfl, hgk, hck⟩ := HKR.out.2.resolve_left (by omega)
      obtain ⟨a0, a1⟩ := hck t (X, Y) hx
      have d0 : wr.cell? ⟨gk, ok + t * 2, none⟩ = some (.int .i64 (X : Int)) := (HB.out.cell (p := ⟨gk, _, none⟩) hgk).trans a0
      have d1 : wr.cell? ⟨gk, ok + t * 2 + 1, none⟩ = some (.int .i64 (Y : Int)) := (HB.out.cell (p := ⟨gk, _, none⟩) hgk).trans a1
      obtain ⟨hX4, hY4⟩ := HMX.out (X, Y) (List.mem_iff_getElem?.2 ⟨t, hx⟩)
      simp only at hX4 hY4
      obtain ⟨hpX, hqY, hnx⟩ := gt_next HS.out hx ⟨hX4, hY4⟩
      simp only at hpX hqY hnx
      have HNX := Lib.hid hnx
      have wX : IntKind.i64.wrap ((X : Int) + 1) = (X : Int) + 1 := IntWalk.i64_in _ (by omega)
      have wY : IntKind.i64.wrap ((Y : Int) + 1) = (Y : Int) + 1 := IntWalk.i64_in _ (by omega)
      clear hck a0 a1 hx hnx HS
      have hszr := HB.out.size
      by_cases hg : p < X ∨ q < Y
      · by_cases hgx : p < X
        · cases r with
          | nil =>
            have g1 : (p : Int) < (X : Int) := by omega
            obtain ⟨a0, c0, hv0, _⟩ := hgs.form
            have HO : Hid (wr.ownsRow w2.heap.size 56 4 u9 0 []) := hgs
            have HONE : Hid ((one bt p q [] X Y).reverse = ([] : List G) ++ [⟨p, X, q, Y⟩]) := one_app hg (fun l hl => by cases hl)
            rw [show u9 = .slice a0 0 c0 from hv0] at HO ⊢
            have wk : IntKind.i64.wrap ((0 : Int) - 1) = -1 := rfl
            clear hv0 hgs hhd hg hpX hqY hrl
            have hown := HO.out.drew
            have hbd := HB.out.drew
            have hszd : w2.heap.size ≤ wr.drew.heap.size := hbd.size
            have hgk' : gk < wr.drew.heap.size := Nat.lt_of_lt_of_le hgk hszd
            go_wp2_with fail
            go_region_law (refine Sw.step_own _ rfl (.tmp 84) (.tmp 98) 54 rfl w2.heap.size 56 iG (.agg #[.int .i64 0, .int .i64 0, .int .i64 0, .int .i64 0]) 4 32 Try.underlying54 hG hG0 hG1 hG2 rfl (by decide) _ _ _ rfl (hown.alloc (.cells #[.int .i64 (p : Int), .int .i64 (X : Int), .int .i64 (q : Int), .int .i64 (Y : Int)] 56)) ⟨wr.drew.heap.size, 0, none⟩ 1 1 (g4 ⟨p, X, q, Y⟩) rfl rfl (cell_four_new _ _ _ _ _ _) (g4_one ⟨p, X, q, Y⟩) (by unfold maxLen; omega) (by omega) (hbd.alloc hszd _).size ?_; intro v3 w3 hown3 hgrow3)
            all_goals
              have hb3 : Below w2.heap.size w2 w3 := (hbd.alloc hszd _).grown hgrow3 (by simp; omega) (fun k hk => (hown.lt k hk).1)
              have k0 : w3.cell? ⟨gk, ok + t * 2, none⟩ = some (.int .i64 (X : Int)) := (hb3.cell (p := ⟨gk, _, none⟩) hgk).trans ((HB.out.cell (p := ⟨gk, _, none⟩) hgk).symm.trans d0)
              have k1 : w3.cell? ⟨gk, ok + t * 2 + 1, none⟩ = some (.int .i64 (Y : Int)) := (hb3.cell (p := ⟨gk, _, none⟩) hgk).trans ((HB.out.cell (p := ⟨gk, _, none⟩) hgk).symm.trans d1)
              have hgs3 : Gs w3 w2.heap.size v3 (one bt p q [] X Y).reverse := by
                rw [HONE.out]
                unfold Gs
                rw [List.length_append, List.flatMap_append]
                simpa using hown3
              have HG3 := Lib.hid hgs3
              clear hown hown3 hgrow3 hbd hgk' hgs3 HB HO d0 d1 hszr hszd
              go_wp2_with fail
              go_region
              all_goals
                go_wp2_with fail
                all_goals
                  go_roundw
                  case rel => exact ⟨t + 1, X + 1, Y + 1, _, by go_num, by go_num, by go_num, by omega, HNX, HG3.out, Lib.hid hb3.drew⟩
                  case measure => simp only [intOf]; omega
          | cons l r' =>
            by_cases hb : p - l.t ≤ bt
            · have g1 : (p : Int) < (X : Int) := by omega
              have hle : l.t ≤ p := hhd l rfl
              have hrv : (l :: r').reverse = r'.reverse ++ [l] := by simp
              rw [hrv] at hgs
              obtain ⟨a0, c0, hv0, hc0⟩ := hgs.form
              have hll : (r'.reverse ++ [l]).length = r'.length + 1 := by simp
              rw [hll] at hv0 hc0
              subst hv0
              obtain ⟨gg, rfl, hgB, hgl, hfz, hcl⟩ := hc0.resolve_left (by omega)
              obtain ⟨_, t1, _, t3⟩ := hcl r'.length l (by rw [List.getElem?_append_right (by simp)]; simp)
              have hfz1 := hfz (r'.length * 4 + 1)
              have hfz3 := hfz (r'.length * 4 + 3)
              unfold iv at t1 t3
              have hgne : gk ≠ gg := by omega
              have HONE : Hid ((one bt p q (l :: r') X Y).reverse = r'.reverse ++ [⟨l.f, X, l.u, Y⟩]) := one_last hg hb
              have HP := Lib.hid (Gs.last hgs X Y)
              have HB8 := Lib.hid ((HB.out.setCell (p := ⟨gg, r'.length * 4 + 1, none⟩) hgB (.int .i64 (X : Int))).setCell (p := ⟨gg, r'.length * 4 + 3, none⟩) hgB (.int .i64 (Y : Int)))
              have k0 : ((wr.setCell ⟨gg, r'.length * 4 + 1, none⟩ (.int .i64 (X : Int))).setCell ⟨gg, r'.length * 4 + 3, none⟩ (.int .i64 (Y : Int))).cell? ⟨gk, ok + t * 2, none⟩ = some (.int .i64 (X : Int)) := (World.cell?_setCell_other _ _ _ _ (fun e => hgne (by injection e with e; exact e.symm))).trans ((World.cell?_setCell_other _ _ _ _ (fun e => hgne (by injection e with e; exact e.symm))).trans d0)
              have k1 : ((wr.setCell ⟨gg, r'.length * 4 + 1, none⟩ (.int .i64 (X : Int))).setCell ⟨gg, r'.length * 4 + 3, none⟩ (.int .i64 (Y : Int))).cell? ⟨gk, ok + t * 2 + 1, none⟩ = some (.int .i64 (Y : Int)) := (World.cell?_setCell_other _ _ _ _ (fun e => hgne (by injection e with e; exact e.symm))).trans ((World.cell?_setCell_other _ _ _ _ (fun e => hgne (by injection e with e; exact e.symm))).trans d1)
              have HLL := Lib.hid hll
              obtain ⟨T, hT⟩ : ∃ T, T = l.t := ⟨_, rfl⟩
              rw [← hT] at t1 hb hle
              simp only [List.length_cons] at hrl
              obtain ⟨k, hk⟩ : ∃ k, k = r'.length := ⟨_, rfl⟩
              rw [← hk] at hrl t1 t3 hfz1 hfz3 HLL HP HB8 k0 k1 ⊢
              have wk : IntKind.i64.wrap (((k + 1 : Nat) : Int) - 1) = (k : Int) := (IntWalk.i64_in _ (by omega)).trans (by omega)
              have wT : IntKind.i64.wrap ((p : Int) - (T : Int)) = (p : Int) - (T : Int) := IntWalk.i64_in _ (by omega)
              have f1 : (0 : Int) ≤ (k : Int) := by omega
              have f2 : (k : Int) < ((k + 1 : Nat) : Int) := by omega
              have f3 : (p : Int) - (T : Int) ≤ (bt : Int) := by omega
              clear hg hgs hhd hrv hc0 hcl hfz hT hk hpX hqY hb hle hll
              go_wp2_with fail
              go_region
              go_wp2_with fail
              go_region
              go_wp2_with fail
              go_roundw
              case rel => exact ⟨t + 1, X + 1, Y + 1, _, by go_num, by go_num, by go_num, by omega, HNX, by rw [HONE.out]; exact HP.out, Lib.hid HB8.out.drew.drew⟩
              case measure => simp only [intOf]; omega
            · have g1 : (p : Int) < (X : Int) := by omega
              have hle : l.t ≤ p := hhd l rfl
              have hrv : (l :: r').reverse = r'.reverse ++ [l] := by simp
              rw [hrv] at hgs
              obtain ⟨a0, c0, hv0, hc0⟩ := hgs.form
              have hll : (r'.reverse ++ [l]).length = r'.length + 1 := by simp
              rw [hll] at hv0 hc0
              subst hv0
              obtain ⟨gg, rfl, hgB, hgl, hfz, hcl⟩ := hc0.resolve_left (by omega)
              obtain ⟨_, t1, _, t3⟩ := hcl r'.length l (by rw [List.getElem?_append_right (by simp)]; simp)
              have hfz1 := hfz (r'.length * 4 + 1)
              have hfz3 := hfz (r'.length * 4 + 3)
              unfold iv at t1 t3
              have hgne : gk ≠ gg := by omega
              have HONE : Hid ((one bt p q (l :: r') X Y).reverse = (r'.reverse ++ [l]) ++ [⟨p, X, q, Y⟩]) := by
                show _ = _
                rw [one_app hg (fun l2 hl => by injection hl with hl; subst hl; exact hb), hrv]
              have HO : Hid (wr.ownsRow w2.heap.size 56 4 (.slice (some ⟨gg, 0, none⟩) (r'.length + 1) c0) (r'.length + 1) ((r'.reverse ++ [l]).flatMap g4)) := by
                have h := hgs
                unfold Gs at h
                rw [hll] at h
                exact h
              have HLL := Lib.hid hll
              obtain ⟨T, hT⟩ : ∃ T, T = l.t := ⟨_, rfl⟩
              rw [← hT] at t1 hb hle
              simp only [List.length_cons] at hrl
              obtain ⟨k, hk⟩ : ∃ k, k = r'.length := ⟨_, rfl⟩
              rw [← hk] at hrl t1 t3 hfz1 hfz3 HLL HO ⊢
              have wk : IntKind.i64.wrap (((k + 1 : Nat) : Int) - 1) = (k : Int) := (IntWalk.i64_in _ (by omega)).trans (by omega)
              have wT : IntKind.i64.wrap ((p : Int) - (T : Int)) = (p : Int) - (T : Int) := IntWalk.i64_in _ (by omega)
              have f1 : (0 : Int) ≤ (k : Int) := by omega
              have f2 : (k : Int) < ((k + 1 : Nat) : Int) := by omega
              have f3 : ¬ (p : Int) - (T : Int) ≤ (bt : Int) := by omega
              clear hg hgs hhd hrv hc0 hcl hfz hT hk hpX hqY hb hle hll
              clear t3 hfz1 hfz3
              have hown := HO.out.drew
              have hbd := HB.out.drew
              have hszd : w2.heap.size ≤ wr.drew.heap.size := hbd.size
              have hgk' : gk < wr.drew.heap.size := Nat.lt_of_lt_of_le hgk hszd
              go_wp2_with fail
              go_region_law (refine Sw.step_own _ rfl (.tmp 84) (.tmp 98) 54 rfl w2.heap.size 56 iG (.agg #[.int .i64 0, .int .i64 0, .int .i64 0, .int .i64 0]) 4 32 Try.underlying54 hG hG0 hG1 hG2 rfl (by decide) _ _ _ rfl (hown.alloc (.cells #[.int .i64 (p : Int), .int .i64 (X : Int), .int .i64 (q : Int), .int .i64 (Y : Int)] 56)) ⟨wr.drew.heap.size, 0, none⟩ 1 1 (g4 ⟨p, X, q, Y⟩) rfl rfl (cell_four_new _ _ _ _ _ _) (g4_one ⟨p, X, q, Y⟩) (by unfold maxLen; omega) (by omega) (hbd.alloc hszd _).size ?_; intro v3 w3 hown3 hgrow3)
              all_goals
                have hb3 : Below w2.heap.size w2 w3 := (hbd.alloc hszd _).grown hgrow3 (by simp; omega) (fun k hk => (hown.lt k hk).1)
                have k0 : w3.cell? ⟨gk, ok + t * 2, none⟩ = some (.int .i64 (X : Int)) := (hb3.cell (p := ⟨gk, _, none⟩) hgk).trans ((HB.out.cell (p := ⟨gk, _, none⟩) hgk).symm.trans d0)
                have k1 : w3.cell? ⟨gk, ok + t * 2 + 1, none⟩ = some (.int .i64 (Y : Int)) := (hb3.cell (p := ⟨gk, _, none⟩) hgk).trans ((HB.out.cell (p := ⟨gk, _, none⟩) hgk).symm.trans d1)
                have hgs3 : Gs w3 w2.heap.size v3 (one bt p q (l :: r') X Y).reverse := by
                  rw [HONE.out]
                  unfold Gs
                  rw [List.length_append, List.flatMap_append]
                  rw [HLL.out]
                  simpa using hown3
                have HG3 := Lib.hid hgs3
                clear hown hown3 hgrow3 hbd hgk' hgs3 HB HO d0 d1 hszr hszd
                go_wp2_with fail
                go_region
                all_goals
                  go_wp2_with fail
                  all_goals
                    go_roundw
                    case rel => exact ⟨t + 1, X + 1, Y + 1, _, by go_num, by go_num, by go_num, by omega, HNX, HG3.out, Lib.hid hb3.drew⟩
                    case measure => simp only [intOf]; omega
        · cases r with
          | nil =>
            have g1 : ¬ (p : Int) < (X : Int) := by omega
            have g2 : (q : Int) < (Y : Int) := by omega
            obtain ⟨a0, c0, hv0, _⟩ := hgs.form
            have HO : Hid (wr.ownsRow w2.heap.size 56 4 u9 0 []) := hgs
            have HONE : Hid ((one bt p q [] X Y).reverse = ([] : List G) ++ [⟨p, X, q, Y⟩]) := one_app hg (fun l hl => by cases hl)
            rw [show u9 = .slice a0 0 c0 from hv0] at HO ⊢
            have wk : IntKind.i64.wrap ((0 : Int) - 1) = -1 := rfl
            clear hv0 hgs hhd hg hpX hqY hrl
            have hown := HO.out.drew
            have hbd := HB.out.drew
            have hszd : w2.heap.size ≤ wr.drew.heap.size := hbd.size
            have hgk' : gk < wr.drew.heap.size := Nat.lt_of_lt_of_le hgk hszd
            go_wp2_with fail
            go_region_law (refine Sw.step_own _ rfl (.tmp 84) (.tmp 98) 54 rfl w2.heap.size 56 iG (.agg #[.int .i64 0, .int .i64 0, .int .i64 0, .int .i64 0]) 4 32 Try.underlying54 hG hG0 hG1 hG2 rfl (by decide) _ _ _ rfl (hown.alloc (.cells #[.int .i64 (p : Int), .int .i64 (X : Int), .int .i64 (q : Int), .int .i64 (Y : Int)] 56)) ⟨wr.drew.heap.size, 0, none⟩ 1 1 (g4 ⟨p, X, q, Y⟩) rfl rfl (cell_four_new _ _ _ _ _ _) (g4_one ⟨p, X, q, Y⟩) (by unfold maxLen; omega) (by omega) (hbd.alloc hszd _).size ?_; intro v3 w3 hown3 hgrow3)
            all_goals
              have hb3 : Below w2.heap.size w2 w3 := (hbd.alloc hszd _).grown hgrow3 (by simp; omega) (fun k hk => (hown.lt k hk).1)
              have k0 : w3.cell? ⟨gk, ok + t * 2, none⟩ = some (.int .i64 (X : Int)) := (hb3.cell (p := ⟨gk, _, none⟩) hgk).trans ((HB.out.cell (p := ⟨gk, _, none⟩) hgk).symm.trans d0)
              have k1 : w3.cell? ⟨gk, ok + t * 2 + 1, none⟩ = some (.int .i64 (Y : Int)) := (hb3.cell (p := ⟨gk, _, none⟩) hgk).trans ((HB.out.cell (p := ⟨gk, _, none⟩) hgk).symm.trans d1)
              have hgs3 : Gs w3 w2.heap.size v3 (one bt p q [] X Y).reverse := by
                rw [HONE.out]
                unfold Gs
                rw [List.length_append, List.flatMap_append]
                simpa using hown3
              have HG3 := Lib.hid hgs3
              clear hown hown3 hgrow3 hbd hgk' hgs3 HB HO d0 d1 hszr hszd
              go_wp2_with fail
              go_region
              all_goals
                go_wp2_with fail
                all_goals
                  go_roundw
                  case rel => exact ⟨t + 1, X + 1, Y + 1, _, by go_num, by go_num, by go_num, by omega, HNX, HG3.out, Lib.hid hb3.drew⟩
                  case measure => simp only [intOf]; omega
          | cons l r' =>
            by_cases hb : p - l.t ≤ bt
            · have g1 : ¬ (p : Int) < (X : Int) := by omega
              have g2 : (q : Int) < (Y : Int) := by omega
              have hle : l.t ≤ p := hhd l rfl
              have hrv : (l :: r').reverse = r'.reverse ++ [l] := by simp
              rw [hrv] at hgs
              obtain ⟨a0, c0, hv0, hc0⟩ := hgs.form
              have hll : (r'.reverse ++ [l]).length = r'.length + 1 := by simp
              rw [hll] at hv0 hc0
              subst hv0
              obtain ⟨gg, rfl, hgB, hgl, hfz, hcl⟩ := hc0.resolve_left (by omega)
              obtain ⟨_, t1, _, t3⟩ := hcl r'.length l (by rw [List.getElem?_append_right (by simp)]; simp)
              have hfz1 := hfz (r'.length * 4 + 1)
              have hfz3 := hfz (r'.length * 4 + 3)
              unfold iv at t1 t3
              have hgne : gk ≠ gg := by omega
              have HONE : Hid ((one bt p q (l :: r') X Y).reverse = r'.reverse ++ [⟨l.f, X, l.u, Y⟩]) := one_last hg hb
              have HP := Lib.hid (Gs.last hgs X Y)
              have HB8 := Lib.hid ((HB.out.setCell (p := ⟨gg, r'.length * 4 + 1, none⟩) hgB (.int .i64 (X : Int))).setCell (p := ⟨gg, r'.length * 4 + 3, none⟩) hgB (.int .i64 (Y : Int)))
              have k0 : ((wr.setCell ⟨gg, r'.length * 4 + 1, none⟩ (.int .i64 (X : Int))).setCell ⟨gg, r'.length * 4 + 3, none⟩ (.int .i64 (Y : Int))).cell? ⟨gk, ok + t * 2, none⟩ = some (.int .i64 (X : Int)) := (World.cell?_setCell_other _ _ _ _ (fun e => hgne (by injection e with e; exact e.symm))).trans ((World.cell?_setCell_other _ _ _ _ (fun e => hgne (by injection e with e; exact e.symm))).trans d0)
              have k1 : ((wr.setCell ⟨gg, r'.length * 4 + 1, none⟩ (.int .i64 (X : Int))).setCell ⟨gg, r'.length * 4 + 3, none⟩ (.int .i64 (Y : Int))).cell? ⟨gk, ok + t * 2 + 1, none⟩ = some (.int .i64 (Y : Int)) := (World.cell?_setCell_other _ _ _ _ (fun e => hgne (by injection e with e; exact e.symm))).trans ((World.cell?_setCell_other _ _ _ _ (fun e => hgne (by injection e with e; exact e.symm))).trans d1)
              have HLL := Lib.hid hll
              obtain ⟨T, hT⟩ : ∃ T, T = l.t := ⟨_, rfl⟩
              rw [← hT] at t1 hb hle
              simp only [List.length_cons] at hrl
              obtain ⟨k, hk⟩ : ∃ k, k = r'.length := ⟨_, rfl⟩
              rw [← hk] at hrl t1 t3 hfz1 hfz3 HLL HP HB8 k0 k1 ⊢
              have wk : IntKind.i64.wrap (((k + 1 : Nat) : Int) - 1) = (k : Int) := (IntWalk.i64_in _ (by omega)).trans (by omega)
              have wT : IntKind.i64.wrap ((p : Int) - (T : Int)) = (p : Int) - (T : Int) := IntWalk.i64_in _ (by omega)
              have f1 : (0 : Int) ≤ (k : Int) := by omega
              have f2 : (k : Int) < ((k + 1 : Nat) : Int) := by omega
              have f3 : (p : Int) - (T : Int) ≤ (bt : Int) := by omega
              clear hg hgs hhd hrv hc0 hcl hfz hT hk hpX hqY hb hle hll
              go_wp2_with fail
              go_region
              go_wp2_with fail
              go_region
              go_wp2_with fail
              go_roundw
              case rel => exact ⟨t + 1, X + 1, Y + 1, _, by go_num, by go_num, by go_num, by omega, HNX, by rw [HONE.out]; exact HP.out, Lib.hid HB8.out.drew.drew⟩
              case measure => simp only [intOf]; omega
            · have g1 : ¬ (p : Int) < (X : Int) := by omega
              have g2 : (q : Int) < (Y : Int) := by omega
              have hle : l.t ≤ p := hhd l rfl
              have hrv : (l :: r').reverse = r'.reverse ++ [l] := by simp
              rw [hrv] at hgs
              obtain ⟨a0, c0, hv0, hc0⟩ := hgs.form
              have hll : (r'.reverse ++ [l]).length = r'.length + 1 := by simp
              rw [hll] at hv0 hc0
              subst hv0
              obtain ⟨gg, rfl, hgB, hgl, hfz, hcl⟩ := hc0.resolve_left (by omega)
              obtain ⟨_, t1, _, t3⟩ := hcl r'.length l (by rw [List.getElem?_append_right (by simp)]; simp)
              have hfz1 := hfz (r'.length * 4 + 1)
              have hfz3 := hfz (r'.length * 4 + 3)
              unfold iv at t1 t3
              have hgne : gk ≠ gg := by omega
              have HONE : Hid ((one bt p q (l :: r') X Y).reverse = (r'.reverse ++ [l]) ++ [⟨p, X, q, Y⟩]) := by
                show _ = _
                rw [one_app hg (fun l2 hl => by injection hl with hl; subst hl; exact hb), hrv]
              have HO : Hid (wr.ownsRow w2.heap.size 56 4 (.slice (some ⟨gg, 0, none⟩) (r'.length + 1) c0) (r'.length + 1) ((r'.reverse ++ [l]).flatMap g4)) := by
                have h := hgs
                unfold Gs at h
                rw [hll] at h
                exact h
              have HLL := Lib.hid hll
              obtain ⟨T, hT⟩ : ∃ T, T = l.t := ⟨_, rfl⟩
              rw [← hT] at t1 hb hle
              simp only [List.length_cons] at hrl
              obtain ⟨k, hk⟩ : ∃ k, k = r'.length := ⟨_, rfl⟩
              rw [← hk] at hrl t1 t3 hfz1 hfz3 HLL HO ⊢
              have wk : IntKind.i64.wrap (((k + 1 : Nat) : Int) - 1) = (k : Int) := (IntWalk.i64_in _ (by omega)).trans (by omega)
              have wT : IntKind.i64.wrap ((p : Int) - (T : Int)) = (p : Int) - (T : Int) := IntWalk.i64_in _ (by omega)
              have f1 : (0 : Int) ≤ (k : Int) := by omega
              have f2 : (k : Int) < ((k + 1 : Nat) : Int) := by omega
              have f3 : ¬ (p : Int) - (T : Int) ≤ (bt : Int) := by omega
              clear hg hgs hhd hrv hc0 hcl hfz hT hk hpX hqY hb hle hll
              clear t3 hfz1 hfz3
              have hown := HO.out.drew
              have hbd := HB.out.drew
              have hszd : w2.heap.size ≤ wr.drew.heap.size := hbd.size
              have hgk' : gk < wr.drew.heap.size := Nat.lt_of_lt_of_le hgk hszd
              go_wp2_with fail
              go_region_law (refine Sw.step_own _ rfl (.tmp 84) (.tmp 98) 54 rfl w2.heap.size 56 iG (.agg #[.int .i64 0, .int .i64 0, .int .i64 0, .int .i64 0]) 4 32 Try.underlying54 hG hG0 hG1 hG2 rfl (by decide) _ _ _ rfl (hown.alloc (.cells #[.int .i64 (p : Int), .int .i64 (X : Int), .int .i64 (q : Int), .int .i64 (Y : Int)] 56)) ⟨wr.drew.heap.size, 0, none⟩ 1 1 (g4 ⟨p, X, q, Y⟩) rfl rfl (cell_four_new _ _ _ _ _ _) (g4_one ⟨p, X, q, Y⟩) (by unfold maxLen; omega) (by omega) (hbd.alloc hszd _).size ?_; intro v3 w3 hown3 hgrow3)
              all_goals
                have hb3 : Below w2.heap.size w2 w3 := (hbd.alloc hszd _).grown hgrow3 (by simp; omega) (fun k hk => (hown.lt k hk).1)
                have k0 : w3.cell? ⟨gk, ok + t * 2, none⟩ = some (.int .i64 (X : Int)) := (hb3.cell (p := ⟨gk, _, none⟩) hgk).trans ((HB.out.cell (p := ⟨gk, _, none⟩) hgk).symm.trans d0)
                have k1 : w3.cell? ⟨gk, ok + t * 2 + 1, none⟩ = some (.int .i64 (Y : Int)) := (hb3.cell (p := ⟨gk, _, none⟩) hgk).trans ((HB.out.cell (p := ⟨gk, _, none⟩) hgk).symm.trans d1)
                have hgs3 : Gs w3 w2.heap.size v3 (one bt p q (l :: r') X Y).reverse := by
                  rw [HONE.out]
                  unfold Gs
                  rw [List.length_append, List.flatMap_append]
                  rw [HLL.out]
                  simpa using hown3
                have HG3 := Lib.hid hgs3
                clear hown hown3 hgrow3 hbd hgk' hgs3 HB HO d0 d1 hszr hszd
                go_wp2_with fail
                go_region
                all_goals
                  go_wp2_with fail
                  all_goals
                    go_roundw
                    case rel => exact ⟨t + 1, X + 1, Y + 1, _, by go_num, by go_num, by go_num, by omega, HNX, HG3.out, Lib.hid hb3.drew⟩
                    case measure => simp only [intOf]; omega
      · have hr1 := one_none (bt := bt) (r := r) hg
        rw [hr1] at HNX
        have g1 : ¬ (p : Int) < (X : Int) := by omega
        have g2 : ¬ (q : Int) < (Y : Int) := by omega
        have HGS := Lib.hid hgs
        clear hr1 hg hgs hhd hpX hqY
        go_wp2_with fail
        go_region
        go_wp2_with fail
        go_roundw
        case rel => exact ⟨t + 1, X + 1, Y + 1, r, by go_num, by go_num, by go_num, by omega, HNX, HGS.out, Lib.hid HB.out.drew⟩
        case measure => simp only [intOf]; omega
    · have e1 : ¬ (t : Int) < (L : Int) := by omega
      have HE : Hid (GapsTo (gp bt K 0 0 []).reverse w (.returned u9) wr) := by
        show GapsTo _ _ _ _
        obtain ⟨h1, _⟩ := HS.out
        rw [List.drop_eq_nil_iff.2 (by rw [← HL.out]; omega)] at h1
        rw [h1]
        exact ⟨_, rfl, own_base hgs HB2.out.size, HB2.out.trans (HB.out.mono HB2.out.size)⟩
      clear HS hgs hhd
      go_wp2_with fail
      go_ret
      rw [← HKK.out]
      exact HE.out
end Go.Proofs.Ytoncghamkedhcaa.Kd

namespace Go.Proofs.Ytoncghamkedhcaa.Rg
open Go.RowKit
set_option linter.unusedVariables false
def Only (R : Act → World → Prop) : Exit → Act → World → Prop
  | .normal, a, w => R a w
  | _, _, _ => False
theorem wp_only {P : Program} {c : Code} {Q : Exit → Act → World → Prop} {R : Act → World → Prop} {a : Act} {w : World} (hR : ∀ a w, R a w → Q .normal a w) (h : c.wp P (Only R) a w) : c.wp P Q a w :=
  Code.wp_mono (fun e a w h => by cases e <;> first | exact hR _ _ h | exact (h : False).elim) h
def regOps (n : Nat) : Code → Option (Array Oper)
  | .region id ops _ => if id = n then some ops else none
  | .seq a b => (match regOps n a with | some x => some x | none => regOps n b)
  | .cond _ a b => (match regOps n a with | some x => some x | none => regOps n b)
  | .block _ a => regOps n a
  | .loop a => regOps n a
  | .scope a => regOps n a
  | .rangeFunc _ _ a b => (match regOps n a with | some x => some x | none => regOps n b)
  | _ => none
def opsOf (f : Func) (n : Nat) : Array Oper := match f.body with | some c => (regOps n c).getD #[] | none => #[]
def opOf (ops : Array Oper) (i : Nat) : Oper := (ops[i]?).getD default
section
variable {P : Program} {ops : Array Oper} {R : Act → World → Prop} {S : World → Prop}
theorem opOf_some {i : Nat} (h : decide (i < ops.size) = true) : ops[i]? = some (opOf ops i) := by
  have h := of_decide_eq_true h
  rw [opOf, Array.getElem?_eq_getElem h]
  rfl
theorem take (i : Nat) (d : Option Tmp) (v : Value) {fuel : Nat} {listed : Array Bool} {a : Act} {w : World} (hs : Region.noSelect ops = true)
    (hi : decide (i < ops.size) = true) (hd : (opOf ops i).dst = d) (hf : Region.free .any ops listed i = true) (hr : (Region.ready .any ops listed).contains i = true)
    (hw : Region.wanted (opOf ops i) (yielded ops a.tmps) = true) (hS : S w)
    (hy : ∀ w, S w → (execOp a.eval (opOf ops i)).run P w = .ok (.value v) w)
    (h : wpAnyH P .any ops (Only R) S fuel (listed.setIfInBounds i true) (a.put d v) w) : wpAnyH P .any ops (Only R) S (fuel + 1) listed a w := by
  subst hd
  exact wpAnyH_take (opOf_some hi) hs hf hr (fun _ _ _ h => h) (Or.inl ⟨hw, hy⟩) hS h
theorem skip (i : Nat) (d : Option Tmp) {fuel : Nat} {listed : Array Bool} {a : Act} {w : World} (hs : Region.noSelect ops = true)
    (hi : decide (i < ops.size) = true) (hd : (opOf ops i).dst = d) (hf : Region.free .any ops listed i = true) (hr : (Region.ready .any ops listed).contains i = true)
    (hw : Region.wanted (opOf ops i) (yielded ops a.tmps) = false) (hS : S w)
    (h : wpAnyH P .any ops (Only R) S fuel (listed.setIfInBounds i true) (a.put d undef) w) : wpAnyH P .any ops (Only R) S (fuel + 1) listed a w := by
  subst hd
  exact wpAnyH_take (opOf_some hi) hs hf hr (fun _ _ _ h => h) (Or.inr ⟨hw, rfl⟩) hS h
theorem enters {f : FuncId} {fn : Func} (hf : P.funcs[f]? = some fn) (hn : (fn.name == "runtime.NumGoroutine") = false) (hb : fn.body.isNone = false) (args : Array Value) (w : World) : (callFunc f args).run P w = .ok (.enter f args) w := by
  have h1 : fn.name ≠ "runtime.NumGoroutine" := by simpa using hn
  have h2 : fn.body ≠ none := fun h => by rw [h] at hb; cases hb
  simp [callFunc, hf, h1, h2]
theorem call (i : Nat) (d : Option Tmp) (f : FuncId) (args : Array Value) {fn : Func} {xs : Array Operand} {ats : Array TypeId} {fuel : Nat} {listed : Array Bool} {a : Act} {w : World}
    (hi : decide (i < ops.size) = true) (hd : (opOf ops i).dst = d) (hr : Region.ready .any ops listed = [i])
    (hw : Region.wanted (opOf ops i) (yielded ops a.tmps) = true) (ho : (opOf ops i).op = .call { callee := .value (.func f), args := xs, argTypes := ats })
    (hf : P.funcs[f]? = some fn) (hn : (fn.name == "runtime.NumGoroutine") = false) (hb : fn.body.isNone = false) (hx : xs.map a.eval = args)
    (h : Calls P f args w fun e w' => ∃ v, e = .returned v ∧ S w' ∧ (S w' → wpAnyH P .any ops (Only R) S fuel (listed.setIfInBounds i true) (a.put d v) w')) :
    wpAnyH P .any ops (Only R) S (fuel + 1) listed a w := by
  subst hd
  refine wpAnyH_all hr (by simp) fun j hj => ?_
  obtain rfl : j = i := by simpa using hj
  unfold wpOp
  rw [opOf_some hi]
  simp only [hw, if_true]
  refine .inl ?_
  have he : execOp a.eval (opOf ops j) = callFunc f args := by
    rw [← hx]
    generalize opOf ops j = o at ho
    obtain ⟨dst, op, ty, pos, after, guard⟩ := o
    subst ho
    have := execOp_call_go a dst f xs ats ty pos after guard
    simpa using this
  unfold Oper.wp
  rw [he, enters hf hn hb]
  refine Calls.mono h fun e w' hh => ?_
  obtain ⟨v, rfl, hS, hh⟩ := hh
  exact ⟨hS, hh hS⟩
theorem done {fuel : Nat} {listed : Array Bool} {a : Act} {w : World} (hr : Region.ready .any ops listed = []) (h : R a w) : wpAnyH P .any ops (Only R) S fuel listed a w :=
  wpAnyH_done hr h fuel
theorem y_move {o : Oper} {a : Act} {x : Operand} {v : Value} (ho : o.op = .move x ∨ o.op = .assign x) (hv : a.eval x = v) : ∀ w, S w → (execOp a.eval o).run P w = .ok (.value v) w := by
  intro w _
  obtain ⟨dst, op, ty, pos, after, guard⟩ := o
  rcases ho with ho | ho <;> (simp only at ho; subst ho; rw [← hv]; rfl)
theorem y_bin {o : Oper} {a : Act} {b : BinOp} {T R' : TypeId} {x y : Operand} {vx vy v : Value} (ho : o.op = .binOp b T x y R') (hx : a.eval x = vx) (hy : a.eval y = vy)
    (hv : ∀ w, S w → (do eqGuard b T x y vx vy; binOp b T vx vy : Sem Value).run P w = .ok v w) : ∀ w, S w → (execOp a.eval o).run P w = .ok (.value v) w := by
  intro w hw
  obtain ⟨dst, op, ty, pos, after, guard⟩ := o
  simp only at ho
  subst ho
  have := hv w hw
  simp only [execOp, hx, hy]
  simp only [Sem.run_bind] at this ⊢
  rw [this]
  rfl
theorem y_un {o : Oper} {a : Act} {b : UnOp} {T : TypeId} {x : Operand} {vx v : Value} (ho : o.op = .unOp b T x) (hx : a.eval x = vx)
    (hv : ∀ w, S w → (Op.unary b vx).run P w = .ok v w) : ∀ w, S w → (execOp a.eval o).run P w = .ok (.value v) w := by
  intro w hw
  obtain ⟨dst, op, ty, pos, after, guard⟩ := o
  simp only at ho
  subst ho
  have := hv w hw
  simp only [execOp, hx, Sem.run_bind]
  rw [this]
  rfl
theorem y_at {o : Oper} {a : Act} {T : TypeId} {x y : Operand} {vx vy v : Value} (ho : o.op = .indexAddr T x y) (hx : a.eval x = vx) (hy : a.eval y = vy)
    (hv : ∀ w, S w → (Instr.indexAt T vx vy).run P w = .ok v w) : ∀ w, S w → (execOp a.eval o).run P w = .ok (.value v) w := by
  intro w hw
  obtain ⟨dst, op, ty, pos, after, guard⟩ := o
  simp only at ho
  subst ho
  have := hv w hw
  simp only [execOp, hx, hy, Sem.run_bind]
  rw [this]
  rfl
theorem y_load {o : Oper} {a : Act} {T : TypeId} {x : Operand} {vx v : Value} (ho : o.op = .load T x) (hx : a.eval x = vx)
    (hv : ∀ w, S w → (Instr.loadAt T vx).run P w = .ok v w) : ∀ w, S w → (execOp a.eval o).run P w = .ok (.value v) w := by
  intro w hw
  obtain ⟨dst, op, ty, pos, after, guard⟩ := o
  simp only at ho
  subst ho
  have := hv w hw
  simp only [execOp, hx, Sem.run_bind]
  rw [this]
  rfl
theorem y_pick {o : Oper} {a : Act} {c x y : Operand} {b : Bool} {v : Value} (ho : o.op = .pick c x y) (hc : a.eval c = .bool b) (hv : (if b then a.eval x else a.eval y) = v) :
    ∀ w, S w → (execOp a.eval o).run P w = .ok (.value v) w := by
  intro w hw
  obtain ⟨dst, op, ty, pos, after, guard⟩ := o
  simp only at ho
  subst ho
  rw [← hv]
  simp only [execOp, hc]
  rfl
theorem y_field {o : Oper} {a : Act} {T k : Nat} {x : Operand} {vx v : Value} (ho : o.op = .fieldAddr T x k) (hx : a.eval x = vx)
    (hv : ∀ w, S w → (Instr.fieldAt T vx k).run P w = .ok v w) : ∀ w, S w → (execOp a.eval o).run P w = .ok (.value v) w := by
  intro w hw
  obtain ⟨dst, op, ty, pos, after, guard⟩ := o
  simp only at ho
  subst ho
  have := hv w hw
  simp only [execOp, hx, Sem.run_bind]
  rw [this]
  rfl
theorem y_len {o : Oper} {a : Act} {x : Operand} {ats : Array TypeId} {vx : Value} {n : Nat} (ho : o.op = .call { callee := .builtin .len, args := #[x], argTypes := ats }) (hx : a.eval x = vx)
    (hv : ∀ ty w, S w → (Builtin.len_ ats ty #[vx]).run P w = .ok (.int .i64 n) w) : ∀ w, S w → (execOp a.eval o).run P w = .ok (.value (.int .i64 n)) w := by
  intro w hw
  obtain ⟨dst, op, ty, pos, after, guard⟩ := o
  simp only at ho
  subst ho
  have h2 := hv ty w hw
  rw [← hx] at h2
  generalize a.eval = ρ at h2 ⊢
  simp [go_sem, h2]
theorem store (i : Nat) {T : TypeId} {x y : Operand} {vx vy : Value} {w1 : World} {fuel : Nat} {listed : Array Bool} {a : Act} {w : World}
    (hi : decide (i < ops.size) = true) (hd : (opOf ops i).dst = none) (hr : Region.ready .any ops listed = [i])
    (hw : Region.wanted (opOf ops i) (yielded ops a.tmps) = true) (ho : (opOf ops i).op = .store T x y) (hx : a.eval x = vx) (hy : a.eval y = vy)
    (hv : (Instr.storeAt T vx vy).run P w = .ok () w1) (hS : S w1)
    (h : S w1 → wpAnyH P .any ops (Only R) S fuel (listed.setIfInBounds i true) a w1) :
    wpAnyH P .any ops (Only R) S (fuel + 1) listed a w := by
  refine wpAnyH_all hr (by simp) fun j hj => ?_
  obtain rfl : j = i := by simpa using hj
  unfold wpOp
  rw [opOf_some hi]
  simp only [hw, if_true]
  refine .inl ?_
  have he : (execOp a.eval (opOf ops j)).run P w = .ok .skip w1 := by
    generalize opOf ops j = o at ho
    obtain ⟨dst, op, ty, pos, after, guard⟩ := o
    simp only at ho
    subst ho
    simp only [execOp, hx, hy, Sem.run_bind]
    rw [hv]
    rfl
  unfold Oper.wp
  rw [he, Oper.upon_skip, hd]
  exact ⟨hS, h hS⟩
theorem one {i : Nat} {fuel : Nat} {listed : Array Bool} {a : Act} {w : World} (hr : Region.ready .any ops listed = [i])
    (h : wpOp P ops (Only R) i (fun a' w' => S w' ∧ wpAnyH P .any ops (Only R) S fuel (listed.setIfInBounds i true) a' w') a w) : wpAnyH P .any ops (Only R) S (fuel + 1) listed a w :=
  wpAnyH_all hr (by simp) fun j hj => by obtain rfl : j = i := by simpa using hj
                                         exact h
theorem two {i j : Nat} {fuel : Nat} {listed : Array Bool} {a : Act} {w : World} (hr : Region.ready .any ops listed = [i, j])
    (h1 : wpOp P ops (Only R) i (fun a' w' => S w' ∧ wpAnyH P .any ops (Only R) S fuel (listed.setIfInBounds i true) a' w') a w)
    (h2 : wpOp P ops (Only R) j (fun a' w' => S w' ∧ wpAnyH P .any ops (Only R) S fuel (listed.setIfInBounds j true) a' w') a w) : wpAnyH P .any ops (Only R) S (fuel + 1) listed a w :=
  wpAnyH_all hr (by simp) fun k hk => by
    rcases (by simpa using hk : k = i ∨ k = j) with rfl | rfl
    · exact h1
    · exact h2
end
end Go.Proofs.Ytoncghamkedhcaa.Rg

namespace Go.Proofs.Ytoncghamkedhcaa.Rg
open Go.RowKit
set_option linter.unusedVariables false
section
variable {P : Program} {S : World → Prop}
end
section
variable {P : Program} {ops : Array Oper} {R : Act → World → Prop} {S : World → Prop}
theorem bld (i : Nat) (d : Option Tmp) {T : TypeId} {len : Nat} {parts : Array (Nat × Operand)} {vs : Array (Nat × Value)} {v : Value} {w1 : World} {fuel : Nat} {listed : Array Bool} {a : Act} {w : World}
    (hi : decide (i < ops.size) = true) (hd : (opOf ops i).dst = d) (hr : Region.ready .any ops listed = [i])
    (hw : Region.wanted (opOf ops i) (yielded ops a.tmps) = true) (ho : (opOf ops i).op = .buildSlice T len parts) (hx : (parts.map fun (i, x) => (i, a.eval x)) = vs)
    (hv : (Instr.buildSlice T len vs).run P w = .ok v w1) (hS : S w1)
    (h : S w1 → wpAnyH P .any ops (Only R) S fuel (listed.setIfInBounds i true) (a.put d v) w1) : wpAnyH P .any ops (Only R) S (fuel + 1) listed a w := by
  refine one hr ?_
  subst hd
  unfold wpOp
  rw [opOf_some hi]
  simp only [hw, if_true]
  refine .inl ?_
  have he : (execOp a.eval (opOf ops i)).run P w = .ok (.value v) w1 := by
    generalize opOf ops i = o at ho
    obtain ⟨dst, op, ty, pos, after, guard⟩ := o
    simp only at ho
    subst ho
    simp only [execOp, Sem.run_bind]
    rw [hx, hv]
    rfl
  unfold Oper.wp
  rw [he, Oper.upon_value]
  exact ⟨hS, h hS⟩
end
end Go.Proofs.Ytoncghamkedhcaa.Rg

namespace Go.Proofs.Ytoncghamkedhcaa.Rg
open Go.RowKit
set_option linter.unusedVariables false
set_option linter.unusedSimpArgs false
set_option linter.unnecessarySimpa false
section
variable {P : Program} {ops : Array Oper} {R : Act → World → Prop} {S : World → Prop}
theorem app1 (i : Nat) (d : Option Tmp) {T : TypeId} {x y : Operand} {vx vy : Value} {fuel : Nat} {listed : Array Bool} {a : Act} {w : World}
    (hi : decide (i < ops.size) = true) (hd : (opOf ops i).dst = d) (hr : Region.ready .any ops listed = [i])
    (hw : Region.wanted (opOf ops i) (yielded ops a.tmps) = true) (ho : (opOf ops i).op = .call { callee := .builtin .append, args := #[x, y], argTypes := #[T, T] }) (hx : a.eval x = vx) (hy : a.eval y = vy)
    (h : ∀ ty, ∃ v w1, (Builtin.append_ #[T, T] ty #[vx, vy]).run P w = .ok v w1 ∧ S w1 ∧ (S w1 → wpAnyH P .any ops (Only R) S fuel (listed.setIfInBounds i true) (a.put d v) w1)) :
    wpAnyH P .any ops (Only R) S (fuel + 1) listed a w := by
  refine one hr ?_
  subst hd
  unfold wpOp
  rw [opOf_some hi]
  simp only [hw, if_true]
  refine .inl ?_
  obtain ⟨v, w1, hrun, hS, hk⟩ := h (opOf ops i).type
  generalize opOf ops i = o at ho hrun hk ⊢
  obtain ⟨dst, op, ty, pos, after, guard⟩ := o
  simp only at ho hrun hk ⊢
  subst ho
  unfold Oper.wp
  simp only [execOp, resolve, invoke, builtin, Sem.run_bind, Sem.run_pure, Result.andThen_ok, List.map_toArray, List.map_cons, List.map_nil, hx, hy, hrun]
  exact ⟨hS, hk hS⟩
end
end Go.Proofs.Ytoncghamkedhcaa.Rg

namespace Go.Proofs.Ytoncghamkedhcaa.Rg
open Go.RowKit
set_option linter.unusedVariables false
section
variable {P : Program} {S : World → Prop}
theorem y_build {o : Oper} {a : Act} {T : TypeId} {parts : Array (Nat × Operand)} {vs : Array (Nat × Value)} {v : Value} (ho : o.op = .build T parts) (hx : (parts.map fun (i, x) => (i, a.eval x)) = vs)
    (hv : ∀ w, S w → (Instr.build T vs).run P w = .ok v w) : ∀ w, S w → (execOp a.eval o).run P w = .ok (.value v) w := by
  intro w hw
  obtain ⟨dst, op, ty, pos, after, guard⟩ := o
  simp only at ho
  subst ho
  have := hv w hw
  simp only [execOp, Sem.run_bind]
  rw [hx, this]
  rfl
theorem y_sl2 {o : Oper} {a : Act} {T : TypeId} {x l h : Operand} {vx vl vh v : Value} (ho : o.op = .slice T x (some l) (some h) none) (hx : a.eval x = vx) (hl : a.eval l = vl) (hh : a.eval h = vh)
    (hv : ∀ w, S w → (Instr.sliceAt T vx (some vl) (some vh) none).run P w = .ok v w) : ∀ w, S w → (execOp a.eval o).run P w = .ok (.value v) w := by
  intro w hw
  obtain ⟨dst, op, ty, pos, after, guard⟩ := o
  simp only at ho
  subst ho
  have := hv w hw
  simp only [execOp, hx, hl, hh, Option.map_some, Option.map_none, Sem.run_bind]
  rw [this]
  rfl
end
end Go.Proofs.Ytoncghamkedhcaa.Rg
namespace Go.Proofs.Ytoncghamkedhcaa.Kd
open Go.RowKit Tx
set_option linter.unusedVariables false
def Four (gg k f t u v : Nat) (W : World) : Prop := W.cell? ⟨gg, k * 4, none⟩ = some (.int .i64 (f : Int)) ∧ W.cell? ⟨gg, k * 4 + 1, none⟩ = some (.int .i64 (t : Int)) ∧ W.cell? ⟨gg, k * 4 + 2, none⟩ = some (.int .i64 (u : Int)) ∧ W.cell? ⟨gg, k * 4 + 3, none⟩ = some (.int .i64 (v : Int))
set_option maxRecDepth 100000 in
set_option maxHeartbeats 4000000 in
theorem betwReg (ops : Array Oper) (hops : ops = (Rg.opsOf Try.f8 13)) (id : Nat) (gg gc k L m n ca cb f t u v x y lo hi lo2 hi2 no co nn cn : Nat) (A B Ao An : Option Addr) (vL : Value) {u2 u3 u4 u5 u6 u7 u13 u14 u15 u16 u17 u18 u19 u20 u21 u22 u23 u24 u25 u26 u27 u28 u29 u30 u31 u32 u33 u34 u35 u36 u37 u38 u39 u40 u41 u42 u43 u44 u45 u46 u47 u48 u49 u50 u51 u52 u53 u54 u55 u56 u57 u58 u59 u60 u61 u62 u63 u64 u65 u66 u67 u68 u69 u70 u71 u72 u73 u74 u75 u76 u77 u78 u79 u80 u81 u82 u83 u84 u85 u86 u87 u88 u89 u90 u91 u92 u93 u94 u95 u96 : Value} (w : World) (hk : (k : Int) < (L : Int)) (X : World → Prop) (Z : Value → World → Prop)
    (hX : ∀ W, X W → Four gg k f t u v W) (hw : X w.drew)
    (q1 : (f : Int) - (x : Int) = (lo : Int)) (q2 : (t : Int) + (y : Int) = (hi : Int)) (q3 : (u : Int) - (x : Int) = (lo2 : Int)) (q4 : (v : Int) + (y : Int) = (hi2 : Int))
    (V1 : IntKind.i64.wrap (lo : Int) = (lo : Int)) (V2 : IntKind.i64.wrap (hi : Int) = (hi : Int)) (V3 : IntKind.i64.wrap (lo2 : Int) = (lo2 : Int)) (V4 : IntKind.i64.wrap (hi2 : Int) = (hi2 : Int))
    (S1 : ∀ W : World, (Instr.slice 22 (.slice A m ca) (some (.int .i64 (lo : Int))) (some (.int .i64 (hi : Int))) none).run Try.prog W = .ok (.slice Ao no co) W)
    (S2 : ∀ W : World, (Instr.slice 22 (.slice B n cb) (some (.int .i64 (lo2 : Int))) (some (.int .i64 (hi2 : Int))) none).run Try.prog W = .ok (.slice An nn cn) W)
    (hX2 : X (w.drew.alloc (.cells #[.int .i64 (lo : Int), .slice Ao no co, .slice An nn cn] 33)))
    (hE : ∀ ty, ∃ v8 w8, (Builtin.append_ #[23, 23] ty #[vL, .slice (some ⟨w.heap.size, 0, none⟩) 1 1]).run Try.prog (w.drew.alloc (.cells #[.int .i64 (lo : Int), .slice Ao no co, .slice An nn cn] 33)) = .ok v8 w8 ∧ X w8 ∧ Z v8 w8) :
    (Code.region id ops true).wp Try.prog (Rg.Only fun a' w' => ∃ v8 : Value, a' = ⟨#[(.slice A m ca), (.slice B n cb), u2, u3, u4, u5, u6, u7, v8, (.slice (some ⟨gg, 0, none⟩) L gc), (.int .i64 (k : Int)), (.int .i64 (x : Int)), (.int .i64 (y : Int)), u13, u14, u15, u16, u17, u18, u19, u20, u21, u22, u23, u24, u25, u26, u27, u28, u29, u30, u31, u32, u33, u34, u35, u36, u37, u38, u39, u40, u41, u42, u43, u44, u45, u46, u47, u48, u49, u50, u51, u52, vL, (.slice (some ⟨gg, 0, none⟩) L gc), (.int .i64 (k : Int)), (.pointer (some ⟨gg, k * 4, none⟩)), (.pointer (some ⟨gg, k * 4, none⟩)), (.int .i64 (f : Int)), (.int .i64 (x : Int)), (.int .i64 (lo : Int)), (.slice A m ca), (.slice (some ⟨gg, 0, none⟩) L gc), (.int .i64 (k : Int)), (.pointer (some ⟨gg, k * 4, none⟩)), (.pointer (some ⟨gg, k * 4, none⟩)), (.int .i64 (f : Int)), (.int .i64 (x : Int)), (.int .i64 (lo : Int)), (.slice (some ⟨gg, 0, none⟩) L gc), (.int .i64 (k : Int)), (.pointer (some ⟨gg, k * 4, none⟩)), (.pointer (some ⟨gg, k * 4 + 1, none⟩)), (.int .i64 (t : Int)), (.int .i64 (y : Int)), (.int .i64 (hi : Int)), (.slice Ao no co), (.slice B n cb), (.slice (some ⟨gg, 0, none⟩) L gc), (.int .i64 (k : Int)), (.pointer (some ⟨gg, k * 4, none⟩)), (.pointer (some ⟨gg, k * 4 + 2, none⟩)), (.int .i64 (u : Int)), (.int .i64 (x : Int)), (.int .i64 (lo2 : Int)), (.slice (some ⟨gg, 0, none⟩) L gc), (.int .i64 (k : Int)), (.pointer (some ⟨gg, k * 4, none⟩)), (.pointer (some ⟨gg, k * 4 + 3, none⟩)), (.int .i64 (v : Int)), (.int .i64 (y : Int)), (.int .i64 (hi2 : Int)), (.slice An nn cn), (.agg #[.int .i64 (lo : Int), .slice Ao no co, .slice An nn cn]), (.slice (some ⟨w.heap.size, 0, none⟩) 1 1), v8, u96], []⟩ ∧ Z v8 w') ⟨#[(.slice A m ca), (.slice B n cb), u2, u3, u4, u5, u6, u7, vL, (.slice (some ⟨gg, 0, none⟩) L gc), (.int .i64 (k : Int)), (.int .i64 (x : Int)), (.int .i64 (y : Int)), u13, u14, u15, u16, u17, u18, u19, u20, u21, u22, u23, u24, u25, u26, u27, u28, u29, u30, u31, u32, u33, u34, u35, u36, u37, u38, u39, u40, u41, u42, u43, u44, u45, u46, u47, u48, u49, u50, u51, u52, u53, u54, u55, u56, u57, u58, u59, u60, u61, u62, u63, u64, u65, u66, u67, u68, u69, u70, u71, u72, u73, u74, u75, u76, u77, u78, u79, u80, u81, u82, u83, u84, u85, u86, u87, u88, u89, u90, u91, u92, u93, u94, u95, u96], []⟩ w := by
  subst hops
  have hNS : Region.noSelect (Rg.opsOf Try.f8 13) = true := by kernel_rfl
  refine wp_region_held_drew (S := X) (by kernel_rfl) hw (fun hHeld => ?_)
  rw [show (Rg.opsOf Try.f8 13).size = 44 by kernel_rfl]
  refine Rg.take (ops := (Rg.opsOf Try.f8 13)) 0 (some 53) (vL) hNS (by kernel_rfl) (by kernel_rfl) (by kernel_rfl) (by kernel_rfl) (by kernel_rfl) hHeld (Rg.y_move (x := (Operand.tmp 8)) (Or.inl (by kernel_rfl)) (by kernel_rfl)) ?_
  refine Rg.take (ops := (Rg.opsOf Try.f8 13)) 1 (some 54) ((.slice (some ⟨gg, 0, none⟩) L gc)) hNS (by kernel_rfl) (by kernel_rfl) (by kernel_rfl) (by kernel_rfl) (by kernel_rfl) hHeld (Rg.y_move (x := (Operand.tmp 9)) (Or.inl (by kernel_rfl)) (by kernel_rfl)) ?_
  refine Rg.take (ops := (Rg.opsOf Try.f8 13)) 2 (some 55) ((.int .i64 (k : Int))) hNS (by kernel_rfl) (by kernel_rfl) (by kernel_rfl) (by kernel_rfl) (by kernel_rfl) hHeld (Rg.y_move (x := (Operand.tmp 10)) (Or.inl (by kernel_rfl)) (by kernel_rfl)) ?_
  refine Rg.take (ops := (Rg.opsOf Try.f8 13)) 3 (some 56) ((.pointer (some ⟨gg, k * 4, none⟩))) hNS (by kernel_rfl) (by kernel_rfl) (by kernel_rfl) (by kernel_rfl) (by kernel_rfl) hHeld (Rg.y_at (T := 54) (x := (Operand.tmp 54)) (y := (Operand.tmp 55)) (vx := (.slice (some ⟨gg, 0, none⟩) L gc)) (vy := (.int .i64 (k : Int))) (by kernel_rfl) (by kernel_rfl) (by kernel_rfl) ?_) ?_
  · (intro W hSw; clear hSw hHeld; go_simp)
  refine Rg.take (ops := (Rg.opsOf Try.f8 13)) 4 (some 57) ((.pointer (some ⟨gg, k * 4, none⟩))) hNS (by kernel_rfl) (by kernel_rfl) (by kernel_rfl) (by kernel_rfl) (by kernel_rfl) hHeld (Rg.y_at (T := 56) (x := (Operand.tmp 56)) (y := (Operand.const (Value.int IntKind.i64 0))) (vx := (.pointer (some ⟨gg, k * 4, none⟩))) (vy := (Value.int IntKind.i64 0)) (by kernel_rfl) (by kernel_rfl) (by kernel_rfl) ?_) ?_
  · (intro W hSw; clear hSw hHeld; go_simp)
  refine Rg.take (ops := (Rg.opsOf Try.f8 13)) 5 (some 58) ((.int .i64 (f : Int))) hNS (by kernel_rfl) (by kernel_rfl) (by kernel_rfl) (by kernel_rfl) (by kernel_rfl) hHeld (Rg.y_load (T := 3) (x := (Operand.tmp 57)) (vx := (.pointer (some ⟨gg, k * 4, none⟩))) (by kernel_rfl) (by kernel_rfl) ?_) ?_
  · (intro W hSw; obtain ⟨s0, s1, s2, s3⟩ := hX _ hSw; clear hSw hHeld; go_simp)
  refine Rg.take (ops := (Rg.opsOf Try.f8 13)) 6 (some 59) ((.int .i64 (x : Int))) hNS (by kernel_rfl) (by kernel_rfl) (by kernel_rfl) (by kernel_rfl) (by kernel_rfl) hHeld (Rg.y_move (x := (Operand.tmp 11)) (Or.inl (by kernel_rfl)) (by kernel_rfl)) ?_
  refine Rg.take (ops := (Rg.opsOf Try.f8 13)) 7 (some 60) ((.int .i64 (lo : Int))) hNS (by kernel_rfl) (by kernel_rfl) (by kernel_rfl) (by kernel_rfl) (by kernel_rfl) hHeld (Rg.y_bin (b := BinOp.sub) (T := 3) (R' := 3) (x := (Operand.tmp 58)) (y := (Operand.tmp 59)) (vx := (.int .i64 (f : Int))) (vy := (.int .i64 (x : Int))) (by kernel_rfl) (by kernel_rfl) (by kernel_rfl) ?_) ?_
  · (intro W hSw; clear hSw hHeld; go_simp)
  refine Rg.take (ops := (Rg.opsOf Try.f8 13)) 8 (some 61) ((.slice A m ca)) hNS (by kernel_rfl) (by kernel_rfl) (by kernel_rfl) (by kernel_rfl) (by kernel_rfl) hHeld (Rg.y_move (x := (Operand.tmp 0)) (Or.inl (by kernel_rfl)) (by kernel_rfl)) ?_
  refine Rg.take (ops := (Rg.opsOf Try.f8 13)) 9 (some 62) ((.slice (some ⟨gg, 0, none⟩) L gc)) hNS (by kernel_rfl) (by kernel_rfl) (by kernel_rfl) (by kernel_rfl) (by kernel_rfl) hHeld (Rg.y_move (x := (Operand.tmp 9)) (Or.inl (by kernel_rfl)) (by kernel_rfl)) ?_
  refine Rg.take (ops := (Rg.opsOf Try.f8 13)) 10 (some 63) ((.int .i64 (k : Int))) hNS (by kernel_rfl) (by kernel_rfl) (by kernel_rfl) (by kernel_rfl) (by kernel_rfl) hHeld (Rg.y_move (x := (Operand.tmp 10)) (Or.inl (by kernel_rfl)) (by kernel_rfl)) ?_
  refine Rg.take (ops := (Rg.opsOf Try.f8 13)) 11 (some 64) ((.pointer (some ⟨gg, k * 4, none⟩))) hNS (by kernel_rfl) (by kernel_rfl) (by kernel_rfl) (by kernel_rfl) (by kernel_rfl) hHeld (Rg.y_at (T := 54) (x := (Operand.tmp 62)) (y := (Operand.tmp 63)) (vx := (.slice (some ⟨gg, 0, none⟩) L gc)) (vy := (.int .i64 (k : Int))) (by kernel_rfl) (by kernel_rfl) (by kernel_rfl) ?_) ?_
  · (intro W hSw; clear hSw hHeld; go_simp)
  refine Rg.take (ops := (Rg.opsOf Try.f8 13)) 12 (some 65) ((.pointer (some ⟨gg, k * 4, none⟩))) hNS (by kernel_rfl) (by kernel_rfl) (by kernel_rfl) (by kernel_rfl) (by kernel_rfl) hHeld (Rg.y_at (T := 56) (x := (Operand.tmp 64)) (y := (Operand.const (Value.int IntKind.i64 0))) (vx := (.pointer (some ⟨gg, k * 4, none⟩))) (vy := (Value.int IntKind.i64 0)) (by kernel_rfl) (by kernel_rfl) (by kernel_rfl) ?_) ?_
  · (intro W hSw; clear hSw hHeld; go_simp)
  refine Rg.take (ops := (Rg.opsOf Try.f8 13)) 13 (some 66) ((.int .i64 (f : Int))) hNS (by kernel_rfl) (by kernel_rfl) (by kernel_rfl) (by kernel_rfl) (by kernel_rfl) hHeld (Rg.y_load (T := 3) (x := (Operand.tmp 65)) (vx := (.pointer (some ⟨gg, k * 4, none⟩))) (by kernel_rfl) (by kernel_rfl) ?_) ?_
  · (intro W hSw; obtain ⟨s0, s1, s2, s3⟩ := hX _ hSw; clear hSw hHeld; go_simp)
  refine Rg.take (ops := (Rg.opsOf Try.f8 13)) 14 (some 67) ((.int .i64 (x : Int))) hNS (by kernel_rfl) (by kernel_rfl) (by kernel_rfl) (by kernel_rfl) (by kernel_rfl) hHeld (Rg.y_move (x := (Operand.tmp 11)) (Or.inl (by kernel_rfl)) (by kernel_rfl)) ?_
  refine Rg.take (ops := (Rg.opsOf Try.f8 13)) 15 (some 68) ((.int .i64 (lo : Int))) hNS (by kernel_rfl) (by kernel_rfl) (by kernel_rfl) (by kernel_rfl) (by kernel_rfl) hHeld (Rg.y_bin (b := BinOp.sub) (T := 3) (R' := 3) (x := (Operand.tmp 66)) (y := (Operand.tmp 67)) (vx := (.int .i64 (f : Int))) (vy := (.int .i64 (x : Int))) (by kernel_rfl) (by kernel_rfl) (by kernel_rfl) ?_) ?_
  · (intro W hSw; clear hSw hHeld; go_simp)
  refine Rg.take (ops := (Rg.opsOf Try.f8 13)) 16 (some 69) ((.slice (some ⟨gg, 0, none⟩) L gc)) hNS (by kernel_rfl) (by kernel_rfl) (by kernel_rfl) (by kernel_rfl) (by kernel_rfl) hHeld (Rg.y_move (x := (Operand.tmp 9)) (Or.inl (by kernel_rfl)) (by kernel_rfl)) ?_
  refine Rg.take (ops := (Rg.opsOf Try.f8 13)) 17 (some 70) ((.int .i64 (k : Int))) hNS (by kernel_rfl) (by kernel_rfl) (by kernel_rfl) (by kernel_rfl) (by kernel_rfl) hHeld (Rg.y_move (x := (Operand.tmp 10)) (Or.inl (by kernel_rfl)) (by kernel_rfl)) ?_
  refine Rg.take (ops := (Rg.opsOf Try.f8 13)) 18 (some 71) ((.pointer (some ⟨gg, k * 4, none⟩))) hNS (by kernel_rfl) (by kernel_rfl) (by kernel_rfl) (by kernel_rfl) (by kernel_rfl) hHeld (Rg.y_at (T := 54) (x := (Operand.tmp 69)) (y := (Operand.tmp 70)) (vx := (.slice (some ⟨gg, 0, none⟩) L gc)) (vy := (.int .i64 (k : Int))) (by kernel_rfl) (by kernel_rfl) (by kernel_rfl) ?_) ?_
  · (intro W hSw; clear hSw hHeld; go_simp)
  refine Rg.take (ops := (Rg.opsOf Try.f8 13)) 19 (some 72) ((.pointer (some ⟨gg, k * 4 + 1, none⟩))) hNS (by kernel_rfl) (by kernel_rfl) (by kernel_rfl) (by kernel_rfl) (by kernel_rfl) hHeld (Rg.y_at (T := 56) (x := (Operand.tmp 71)) (y := (Operand.const (Value.int IntKind.i64 1))) (vx := (.pointer (some ⟨gg, k * 4, none⟩))) (vy := (Value.int IntKind.i64 1)) (by kernel_rfl) (by kernel_rfl) (by kernel_rfl) ?_) ?_
  · (intro W hSw; clear hSw hHeld; go_simp)
  refine Rg.take (ops := (Rg.opsOf Try.f8 13)) 20 (some 73) ((.int .i64 (t : Int))) hNS (by kernel_rfl) (by kernel_rfl) (by kernel_rfl) (by kernel_rfl) (by kernel_rfl) hHeld (Rg.y_load (T := 3) (x := (Operand.tmp 72)) (vx := (.pointer (some ⟨gg, k * 4 + 1, none⟩))) (by kernel_rfl) (by kernel_rfl) ?_) ?_
  · (intro W hSw; obtain ⟨s0, s1, s2, s3⟩ := hX _ hSw; clear hSw hHeld; go_simp)
  refine Rg.take (ops := (Rg.opsOf Try.f8 13)) 21 (some 74) ((.int .i64 (y : Int))) hNS (by kernel_rfl) (by kernel_rfl) (by kernel_rfl) (by kernel_rfl) (by kernel_rfl) hHeld (Rg.y_move (x := (Operand.tmp 12)) (Or.inl (by kernel_rfl)) (by kernel_rfl)) ?_
  refine Rg.take (ops := (Rg.opsOf Try.f8 13)) 22 (some 75) ((.int .i64 (hi : Int))) hNS (by kernel_rfl) (by kernel_rfl) (by kernel_rfl) (by kernel_rfl) (by kernel_rfl) hHeld (Rg.y_bin (b := BinOp.add) (T := 3) (R' := 3) (x := (Operand.tmp 73)) (y := (Operand.tmp 74)) (vx := (.int .i64 (t : Int))) (vy := (.int .i64 (y : Int))) (by kernel_rfl) (by kernel_rfl) (by kernel_rfl) ?_) ?_
  · (intro W hSw; clear hSw hHeld; go_simp)
  refine Rg.take (ops := (Rg.opsOf Try.f8 13)) 23 (some 76) ((.slice Ao no co)) hNS (by kernel_rfl) (by kernel_rfl) (by kernel_rfl) (by kernel_rfl) (by kernel_rfl) hHeld (Rg.y_sl2 (T := 22) (x := (Operand.tmp 61)) (l := (Operand.tmp 68)) (h := (Operand.tmp 75)) (vx := (.slice A m ca)) (vl := (.int .i64 (lo : Int))) (vh := (.int .i64 (hi : Int))) (by kernel_rfl) (by kernel_rfl) (by kernel_rfl) (by kernel_rfl) ?_) ?_
  · (intro W hSw; clear hSw hHeld; rw [run_sliceAt_slice _ _ _ _ _ _ (by kernel_rfl)]; exact S1 W)
  refine Rg.take (ops := (Rg.opsOf Try.f8 13)) 24 (some 77) ((.slice B n cb)) hNS (by kernel_rfl) (by kernel_rfl) (by kernel_rfl) (by kernel_rfl) (by kernel_rfl) hHeld (Rg.y_move (x := (Operand.tmp 1)) (Or.inl (by kernel_rfl)) (by kernel_rfl)) ?_
  refine Rg.take (ops := (Rg.opsOf Try.f8 13)) 25 (some 78) ((.slice (some ⟨gg, 0, none⟩) L gc)) hNS (by kernel_rfl) (by kernel_rfl) (by kernel_rfl) (by kernel_rfl) (by kernel_rfl) hHeld (Rg.y_move (x := (Operand.tmp 9)) (Or.inl (by kernel_rfl)) (by kernel_rfl)) ?_
  refine Rg.take (ops := (Rg.opsOf Try.f8 13)) 26 (some 79) ((.int .i64 (k : Int))) hNS (by kernel_rfl) (by kernel_rfl) (by kernel_rfl) (by kernel_rfl) (by kernel_rfl) hHeld (Rg.y_move (x := (Operand.tmp 10)) (Or.inl (by kernel_rfl)) (by kernel_rfl)) ?_
  refine Rg.take (ops := (Rg.opsOf Try.f8 13)) 27 (some 80) ((.pointer (some ⟨gg, k * 4, none⟩))) hNS (by kernel_rfl) (by kernel_rfl) (by kernel_rfl) (by kernel_rfl) (by kernel_rfl) hHeld (Rg.y_at (T := 54) (x := (Operand.tmp 78)) (y := (Operand.tmp 79)) (vx := (.slice (some ⟨gg, 0, none⟩) L gc)) (vy := (.int .i64 (k : Int))) (by kernel_rfl) (by kernel_rfl) (by kernel_rfl) ?_) ?_
  · (intro W hSw; clear hSw hHeld; go_simp)
  refine Rg.take (ops := (Rg.opsOf Try.f8 13)) 28 (some 81) ((.pointer (some ⟨gg, k * 4 + 2, none⟩))) hNS (by kernel_rfl) (by kernel_rfl) (by kernel_rfl) (by kernel_rfl) (by kernel_rfl) hHeld (Rg.y_at (T := 56) (x := (Operand.tmp 80)) (y := (Operand.const (Value.int IntKind.i64 2))) (vx := (.pointer (some ⟨gg, k * 4, none⟩))) (vy := (Value.int IntKind.i64 2)) (by kernel_rfl) (by kernel_rfl) (by kernel_rfl) ?_) ?_
  · (intro W hSw; clear hSw hHeld; go_simp)
  refine Rg.take (ops := (Rg.opsOf Try.f8 13)) 29 (some 82) ((.int .i64 (u : Int))) hNS (by kernel_rfl) (by kernel_rfl) (by kernel_rfl) (by kernel_rfl) (by kernel_rfl) hHeld (Rg.y_load (T := 3) (x := (Operand.tmp 81)) (vx := (.pointer (some ⟨gg, k * 4 + 2, none⟩))) (by kernel_rfl) (by kernel_rfl) ?_) ?_
  · (intro W hSw; obtain ⟨s0, s1, s2, s3⟩ := hX _ hSw; clear hSw hHeld; go_simp)
  refine Rg.take (ops := (Rg.opsOf Try.f8 13)) 30 (some 83) ((.int .i64 (x : Int))) hNS (by kernel_rfl) (by kernel_rfl) (by kernel_rfl) (by kernel_rfl) (by kernel_rfl) hHeld (Rg.y_move (x := (Operand.tmp 11)) (Or.inl (by kernel_rfl)) (by kernel_rfl)) ?_
  refine Rg.take (ops := (Rg.opsOf Try.f8 13)) 31 (some 84) ((.int .i64 (lo2 : Int))) hNS (by kernel_rfl) (by kernel_rfl) (by kernel_rfl) (by kernel_rfl) (by kernel_rfl) hHeld (Rg.y_bin (b := BinOp.sub) (T := 3) (R' := 3) (x := (Operand.tmp 82)) (y := (Operand.tmp 83)) (vx := (.int .i64 (u : Int))) (vy := (.int .i64 (x : Int))) (by kernel_rfl) (by kernel_rfl) (by kernel_rfl) ?_) ?_
  · (intro W hSw; clear hSw hHeld; go_simp)
  refine Rg.take (ops := (Rg.opsOf Try.f8 13)) 32 (some 85) ((.slice (some ⟨gg, 0, none⟩) L gc)) hNS (by kernel_rfl) (by kernel_rfl) (by kernel_rfl) (by kernel_rfl) (by kernel_rfl) hHeld (Rg.y_move (x := (Operand.tmp 9)) (Or.inl (by kernel_rfl)) (by kernel_rfl)) ?_
  refine Rg.take (ops := (Rg.opsOf Try.f8 13)) 33 (some 86) ((.int .i64 (k : Int))) hNS (by kernel_rfl) (by kernel_rfl) (by kernel_rfl) (by kernel_rfl) (by kernel_rfl) hHeld (Rg.y_move (x := (Operand.tmp 10)) (Or.inl (by kernel_rfl)) (by kernel_rfl)) ?_
  refine Rg.take (ops := (Rg.opsOf Try.f8 13)) 34 (some 87) ((.pointer (some ⟨gg, k * 4, none⟩))) hNS (by kernel_rfl) (by kernel_rfl) (by kernel_rfl) (by kernel_rfl) (by kernel_rfl) hHeld (Rg.y_at (T := 54) (x := (Operand.tmp 85)) (y := (Operand.tmp 86)) (vx := (.slice (some ⟨gg, 0, none⟩) L gc)) (vy := (.int .i64 (k : Int))) (by kernel_rfl) (by kernel_rfl) (by kernel_rfl) ?_) ?_
  · (intro W hSw; clear hSw hHeld; go_simp)
  refine Rg.take (ops := (Rg.opsOf Try.f8 13)) 35 (some 88) ((.pointer (some ⟨gg, k * 4 + 3, none⟩))) hNS (by kernel_rfl) (by kernel_rfl) (by kernel_rfl) (by kernel_rfl) (by kernel_rfl) hHeld (Rg.y_at (T := 56) (x := (Operand.tmp 87)) (y := (Operand.const (Value.int IntKind.i64 3))) (vx := (.pointer (some ⟨gg, k * 4, none⟩))) (vy := (Value.int IntKind.i64 3)) (by kernel_rfl) (by kernel_rfl) (by kernel_rfl) ?_) ?_
  · (intro W hSw; clear hSw hHeld; go_simp)
  refine Rg.take (ops := (Rg.opsOf Try.f8 13)) 36 (some 89) ((.int .i64 (v : Int))) hNS (by kernel_rfl) (by kernel_rfl) (by kernel_rfl) (by kernel_rfl) (by kernel_rfl) hHeld (Rg.y_load (T := 3) (x := (Operand.tmp 88)) (vx := (.pointer (some ⟨gg, k * 4 + 3, none⟩))) (by kernel_rfl) (by kernel_rfl) ?_) ?_
  · (intro W hSw; obtain ⟨s0, s1, s2, s3⟩ := hX _ hSw; clear hSw hHeld; go_simp)
  refine Rg.take (ops := (Rg.opsOf Try.f8 13)) 37 (some 90) ((.int .i64 (y : Int))) hNS (by kernel_rfl) (by kernel_rfl) (by kernel_rfl) (by kernel_rfl) (by kernel_rfl) hHeld (Rg.y_move (x := (Operand.tmp 12)) (Or.inl (by kernel_rfl)) (by kernel_rfl)) ?_
  refine Rg.take (ops := (Rg.opsOf Try.f8 13)) 38 (some 91) ((.int .i64 (hi2 : Int))) hNS (by kernel_rfl) (by kernel_rfl) (by kernel_rfl) (by kernel_rfl) (by kernel_rfl) hHeld (Rg.y_bin (b := BinOp.add) (T := 3) (R' := 3) (x := (Operand.tmp 89)) (y := (Operand.tmp 90)) (vx := (.int .i64 (v : Int))) (vy := (.int .i64 (y : Int))) (by kernel_rfl) (by kernel_rfl) (by kernel_rfl) ?_) ?_
  · (intro W hSw; clear hSw hHeld; go_simp)
  refine Rg.take (ops := (Rg.opsOf Try.f8 13)) 39 (some 92) ((.slice An nn cn)) hNS (by kernel_rfl) (by kernel_rfl) (by kernel_rfl) (by kernel_rfl) (by kernel_rfl) hHeld (Rg.y_sl2 (T := 22) (x := (Operand.tmp 77)) (l := (Operand.tmp 84)) (h := (Operand.tmp 91)) (vx := (.slice B n cb)) (vl := (.int .i64 (lo2 : Int))) (vh := (.int .i64 (hi2 : Int))) (by kernel_rfl) (by kernel_rfl) (by kernel_rfl) (by kernel_rfl) ?_) ?_
  · (intro W hSw; clear hSw hHeld; rw [run_sliceAt_slice _ _ _ _ _ _ (by kernel_rfl)]; exact S2 W)
  refine Rg.take (ops := (Rg.opsOf Try.f8 13)) 40 (some 93) ((.agg #[.int .i64 (lo : Int), .slice Ao no co, .slice An nn cn])) hNS (by kernel_rfl) (by kernel_rfl) (by kernel_rfl) (by kernel_rfl) (by kernel_rfl) hHeld (Rg.y_build (T := 33) (parts := #[(0, Operand.tmp 60), (1, Operand.tmp 76), (2, Operand.tmp 92)]) (vs := #[(0, (.int .i64 (lo : Int))), (1, (.slice Ao no co)), (2, (.slice An nn cn))]) (by kernel_rfl) (by kernel_rfl) ?_) ?_
  · (intro W hSw; clear hSw hHeld; go_simp)
  refine Rg.bld (ops := (Rg.opsOf Try.f8 13)) 41 (some 94) (T := 23) (len := 1) (parts := #[(0, Operand.tmp 93)]) (vs := #[(0, (.agg #[.int .i64 (lo : Int), .slice Ao no co, .slice An nn cn]))]) (v := (.slice (some ⟨w.heap.size, 0, none⟩) 1 1)) (w1 := w.drew.alloc (.cells #[.int .i64 (lo : Int), .slice Ao no co, .slice An nn cn] 33)) (by kernel_rfl) (by kernel_rfl) (by kernel_rfl) (by kernel_rfl) (by kernel_rfl) (by kernel_rfl) ?_ (hX2) (fun hHeld => ?_)
  · (clear hHeld hE; go_simp)
  refine Rg.app1 (ops := (Rg.opsOf Try.f8 13)) 42 (some 95) (T := 23) (x := (Operand.tmp 53)) (y := (Operand.tmp 94)) (vx := vL) (vy := (.slice (some ⟨w.heap.size, 0, none⟩) 1 1)) (by kernel_rfl) (by kernel_rfl) (by kernel_rfl) (by kernel_rfl) (by kernel_rfl) (by kernel_rfl) (by kernel_rfl) ?_
  intro ty
  obtain ⟨v8, w8, e8, h8, h9⟩ := hE ty
  refine ⟨v8, w8, e8, h8, fun hHeld => ?_⟩
  refine Rg.take (ops := (Rg.opsOf Try.f8 13)) 43 (some 8) (v8) hNS (by kernel_rfl) (by kernel_rfl) (by kernel_rfl) (by kernel_rfl) (by kernel_rfl) hHeld (Rg.y_move (x := (Operand.tmp 95)) (Or.inr (by kernel_rfl)) (by kernel_rfl)) ?_
  refine Rg.done (ops := (Rg.opsOf Try.f8 13)) (by kernel_rfl) ?_
  exact ⟨v8, by kernel_rfl, h9⟩
end Go.Proofs.Ytoncghamkedhcaa.Kd

namespace Go.Proofs.Ytoncghamkedhcaa.Kd
open Go.RowKit Tx Um Ud Aq Km
set_option linter.unusedVariables false
def per (a b : List ByteArray) (ar : Int) : Nat := if ar < 0 then 1 else if lng a b then 4 else 0
def pcs (a b : List ByteArray) (ar : Int) : List (Hz ByteArray) := if ar < 0 then [] else if lng a b then [] else (btw a b (min ar.toNat 400) (pairs 0 0 (steps a b))).map Hk.z
def HuTo (hs : List (Hz ByteArray)) (er : Nat) (w : World) (e : Ending) (w' : World) : Prop := ∃ v cs, e = .returned (.tuple #[v, .int .i64 (er : Int)]) ∧ Hu w' w.heap.size v cs ∧ Is w' cs hs ∧ Below w.heap.size w w'
theorem hu_nil (w : World) (B : Nat) : Hu w B (.slice none 0 0) [] := World.ownsRow_nil _ _ _ _
theorem rs_len (K : List (Nat × Nat)) (bt : Nat) : ∀ (i j : Nat) (r : List G), (gp bt K i j r).length ≤ r.length + K.length := by
  induction K with
  | nil => intro i j r; exact Nat.le_refl _
  | cons x K ih =>
    intro i j r
    rw [gp]
    have h1 := ih (x.1 + 1) (x.2 + 1) (one bt i j r x.1 x.2)
    have h2 : (one bt i j r x.1 x.2).length ≤ r.length + 1 := by
      unfold one
      by_cases hg : i < x.1 ∨ j < x.2
      · rw [if_pos hg]
        cases r with
        | nil => exact Nat.le_refl _
        | cons l r =>
          rw [add_cons]
          by_cases hb : i - l.t ≤ bt
          · rw [if_pos hb]; simp only [List.length_cons]; omega
          · rw [if_neg hb]; simp only [List.length_cons]; omega
      · rw [if_neg hg]; omega
    rw [List.length_cons]
    omega
theorem slice_run (A : Option Addr) (n c lo hi : Nat) (h1 : lo ≤ hi) (h2 : hi ≤ c) (W : World) : (Instr.slice 22 (.slice A n c) (some (.int .i64 (lo : Int))) (some (.int .i64 (hi : Int))) none).run Try.prog W = .ok (sliced A lo hi c 1) W := by
  rw [run_slice_lh W 22 A n c (by kernel_rfl) .i64 .i64 (lo : Int) (hi : Int) (by omega) (by omega) (by omega), Int.toNat_natCast, Int.toNat_natCast]
  have e : (sizeOf (Try.prog.elem 22)).run Try.prog W = .ok 1 W := by kernel_rfl
  rw [e]
  rfl
set_option maxRecDepth 100000 in
set_option maxHeartbeats 2000000 in
theorem refBetween_any (A B : Option Addr) (ca cb : Nat) (ar : Int) (a b : List ByteArray) (w : World) (hA : Strs w A a.length a) (hB : Strs w B b.length b) (hac : a.length ≤ ca) (hbc : b.length ≤ cb) (hna : A = none → ca = 0) (hnb : B = none → cb = 0) :
    Calls Try.prog 8 #[.slice A a.length ca, .slice B b.length cb, .int .i64 ar] w (HuTo (pcs a b ar) (per a b ar) w) := by
  have HNA := Lib.hid hna
  have HNB := Lib.hid hnb
  clear hna hnb
  by_cases hn : ar < 0
  · have HE : Hid (pcs a b ar = [] ∧ per a b ar = 1) := ⟨if_pos hn, if_pos hn⟩
    clear hA hB
    go_enter Try.func8, Try.ntmps8
    go_wp2_with fail
    go_ret2
    rw [HE.out.1, HE.out.2]
    exact ⟨_, [], rfl, hu_nil _ _, trivial, Below.refl _ _⟩
  · have hge : 0 ≤ ar := by omega
    cases hl : lng a b
    case true =>
      have HE : Hid (pcs a b ar = [] ∧ per a b ar = 4) := by
        show _ ∧ _
        unfold pcs per
        rw [if_neg hn, if_neg hn, hl]
        exact ⟨rfl, rfl⟩
      have hor : (400 : Int) < (a.length : Int) ∨ (¬ (400 : Int) < (a.length : Int) ∧ (400 : Int) < (b.length : Int)) := by
        unfold lng at hl
        rw [Bool.or_eq_true, decide_eq_true_iff, decide_eq_true_iff] at hl
        omega
      clear hA hB hl
      rcases hor with e1 | ⟨e1, e2⟩
      · go_enter Try.func8, Try.ntmps8
        go_wp2_with fail
        go_ret2
        rw [HE.out.1, HE.out.2]
        exact ⟨_, [], rfl, hu_nil _ _, trivial, Below.refl _ _⟩
      · go_enter Try.func8, Try.ntmps8
        go_wp2_with fail
        go_ret2
        rw [HE.out.1, HE.out.2]
        exact ⟨_, [], rfl, hu_nil _ _, trivial, Below.refl _ _⟩
    case false =>
      have hm4 : a.length ≤ 400 ∧ b.length ≤ 400 := by
        unfold lng at hl
        rw [Bool.or_eq_false_iff] at hl
        have h1 := of_decide_eq_false hl.1
        have h2 := of_decide_eq_false hl.2
        omega
      obtain ⟨hm4, hn4⟩ := hm4
      obtain ⟨N, hN⟩ : ∃ N, N = min ar.toNat 400 := ⟨_, rfl⟩
      have hN4 : N ≤ 400 := by omega
      have hNm : min ar 400 = (N : Int) := by omega
      obtain ⟨GL, hGL⟩ : ∃ GL, GL = (gp (2 * N) (pairs 0 0 (steps a b) ++ [(a.length, b.length)]) 0 0 []).reverse := ⟨_, rfl⟩
      have HE : Hid (pcs a b ar = GL.map (fun g => (pc a b N g).z) ∧ per a b ar = 0) := by
        show _ ∧ _
        unfold pcs per
        rw [if_neg hn, if_neg hn, hl, ← hN]
        refine ⟨?_, rfl⟩
        show (btw a b N _).map Hk.z = _
        unfold btw
        rw [hks_map, ← hGL, List.map_map]
        rfl
      have HFIT : Hid (∀ g, g ∈ GL → Fit4 a b N g) := by
        show ∀ g, g ∈ GL → Fit4 a b N g
        rw [hGL]
        exact gaps_fit a b N
      have hGl : GL.length ≤ 401 := by
        have h1 := rs_len (pairs 0 0 (steps a b) ++ [(a.length, b.length)]) (2 * N) 0 0 []
        have h2 := pairs_len (steps a b) 0 0
        have h3 := kept a b
        have h4 := lcs_le_left a b
        rw [hGL, List.length_reverse]
        rw [List.length_append] at h1
        simp at h1
        omega
      have cg := gaps_any A B ca cb (2 * N) a b w hA hB hm4 hn4 (by omega)
      unfold GapsTo at cg
      rw [← hGL, show ((2 * N : Nat) : Int) = 2 * (N : Int) by omega] at cg
      have cl := least_any ar 400 w
      rw [hNm] at cl
      have HA := Lib.hid hA
      have HB' := Lib.hid hB
      have CG := Lib.hid cg
      have CL := Lib.hid cl
      obtain ⟨m, hm⟩ : ∃ m, m = a.length := ⟨_, rfl⟩
      obtain ⟨n, hnn⟩ : ∃ n, n = b.length := ⟨_, rfl⟩
      rw [← hm] at hm4 hac CG ⊢
      rw [← hnn] at hn4 hbc CG ⊢
      have HM := Lib.hid hm
      have HN := Lib.hid hnn
      obtain ⟨L, hL⟩ : ∃ L, L = GL.length := ⟨_, rfl⟩
      rw [← hL] at hGl
      have HL := Lib.hid hL
      have e1 : ¬ (400 : Int) < (m : Int) := by omega
      have e2 : ¬ (400 : Int) < (n : Int) := by omega
      have w2N : IntKind.i64.wrap (2 * (N : Int)) = 2 * (N : Int) := IntWalk.i64_in _ (by omega)
      clear hA hB cg cl hN hNm hGL hm hnn hL hl
      go_enter Try.func8, Try.ntmps8
      go_wp2_with fail
      go_at_call 19
      refine CL.out.mono ?_
      rintro e w0 ⟨rfl, rfl⟩
      go_wp2_with fail
      go_at_call 20
      refine CG.out.mono ?_
      rintro e w1 ⟨v, rfl, hv, hb1⟩
      obtain ⟨ga, gc, rfl, hgc⟩ := hv.form
      rw [← HL.out] at hgc ⊢
      have HGC := Lib.hid hgc
      have HB1 := Lib.hid hb1
      clear hv hgc hb1 CL CG
      go_wp2_with fail
      go_loopw [8, 10, 11, 12] (fun v i _ _ wr => ∃ (k : Nat) (cs : List (Int × Value × Value)), i = .int .i64 (k : Int) ∧ k ≤ L ∧ cs.length = k ∧ Hid (Hu wr w1.heap.size v cs) ∧ Hid (Is w cs ((GL.take k).map (fun g => (pc a b N g).z))) ∧ Hid (Below w1.heap.size w1 wr)) (fun _ i _ _ _ => L - (intOf i).toNat)
      case atStart => exact ⟨0, [], rfl, Nat.zero_le _, rfl, hu_nil _ _, trivial, Below.refl _ _⟩
      case round =>
        obtain ⟨k, cs, rfl, hk, hck, HH, HI, HB⟩ := hrel
        by_cases hlt : k < L
        · have e3 : (k : Int) < (L : Int) := by omega
          obtain ⟨g, hg⟩ : ∃ g, GL[k]? = some g := ⟨_, List.getElem?_eq_getElem (by rw [← HL.out]; exact hlt)⟩
          obtain ⟨k1, k2, k3, k4, k5, k6⟩ := HFIT.out g (List.mem_iff_getElem?.2 ⟨k, hg⟩)
          obtain ⟨gg, rfl, hgB, hgl, _, hcl⟩ := HGC.out.resolve_left (by omega)
          obtain ⟨a0, a1, a2, a3⟩ := hcl k g hg
          have hszr := HB.out.size
          have d0 := (HB.out.cell (p := ⟨gg, _, none⟩) hgl).trans a0
          have d1 := (HB.out.cell (p := ⟨gg, _, none⟩) hgl).trans a1
          have d2 := (HB.out.cell (p := ⟨gg, _, none⟩) hgl).trans a2
          have d3 := (HB.out.cell (p := ⟨gg, _, none⟩) hgl).trans a3
          have htk : (GL.take (k + 1)).map (fun g => (pc a b N g).z) = (GL.take k).map (fun g => (pc a b N g).z) ++ [(pc a b N g).z] := by
            rw [List.take_add_one, hg, List.map_append]
            rfl
          rw [← HM.out] at k2 k6
          rw [← HN.out] at k4 k6
          obtain ⟨f, hf⟩ : ∃ f, f = g.f := ⟨_, rfl⟩
          obtain ⟨t, ht⟩ : ∃ t, t = g.t := ⟨_, rfl⟩
          obtain ⟨u, hu⟩ : ∃ u, u = g.u := ⟨_, rfl⟩
          obtain ⟨v, hv⟩ : ∃ v, v = g.v := ⟨_, rfl⟩
          have a0' := a0
          have a1' := a1
          have a2' := a2
          have a3' := a3
          unfold iv at d0 d1 d2 d3 a0' a1' a2' a3'
          rw [← hf] at d0 a0' k1 k5
          rw [← ht] at d1 a1' k1 k2 k6
          rw [← hu] at d2 a2' k3 k5
          rw [← hv] at d3 a3' k3 k4 k6
          obtain ⟨x, hx⟩ : ∃ x, x = min N f := ⟨_, rfl⟩
          obtain ⟨y, hy⟩ : ∃ y, y = min N (m - t) := ⟨_, rfl⟩
          rw [← hx] at k5
          rw [← hy] at k6
          have r1 : Hid (Rd w (sliced A (f - x) (t + y) ca 1) (pc a b N g).old) := by
            have h := rd_sub HA.out (c := ca) (lo := f - x) (hi := t + y) (by omega) (by rw [← HM.out]; omega) (by rw [← HM.out]; exact hac) HNA.out
            show Rd w _ ((a.take (g.t + min N (a.length - g.t))).drop (g.f - min N g.f))
            rw [← hf, ← ht, ← HM.out, ← hx, ← hy]
            exact h
          have r2 : Hid (Rd w (sliced B (u - x) (v + y) cb 1) (pc a b N g).new) := by
            have h := rd_sub HB'.out (c := cb) (lo := u - x) (hi := v + y) (by omega) (by rw [← HN.out]; omega) (by rw [← HN.out]; exact hbc) HNB.out
            show Rd w _ ((b.take (g.v + min N (a.length - g.t))).drop (g.u - min N g.f))
            rw [← hf, ← ht, ← hu, ← hv, ← HM.out, ← hx, ← hy]
            exact h
          have hat : Hid ((f - x : Nat) = (pc a b N g).at_) := by
            show f - x = g.f - min N g.f
            rw [← hf, ← hx]
          obtain ⟨lo, hlo⟩ : ∃ lo, lo = f - x := ⟨_, rfl⟩
          obtain ⟨hi, hhi⟩ : ∃ hi, hi = t + y := ⟨_, rfl⟩
          obtain ⟨lo2, hlo2⟩ : ∃ lo2, lo2 = u - x := ⟨_, rfl⟩
          obtain ⟨hi2, hhi2⟩ : ∃ hi2, hi2 = v + y := ⟨_, rfl⟩
          rw [← hlo, ← hhi] at r1
          rw [← hlo2, ← hhi2] at r2
          rw [← hlo] at hat
          have q1 : (f : Int) - (x : Int) = (lo : Int) := by omega
          have q2 : (t : Int) + (y : Int) = (hi : Int) := by omega
          have q3 : (u : Int) - (x : Int) = (lo2 : Int) := by omega
          have q4 : (v : Int) + (y : Int) = (hi2 : Int) := by omega
          have q5 : (m : Int) - (t : Int) = ((m - t : Nat) : Int) := by omega
          have o1 : lo ≤ hi ∧ hi ≤ ca ∧ lo2 ≤ hi2 ∧ hi2 ≤ cb ∧ lo ≤ 400 ∧ hi ≤ 1000 ∧ lo2 ≤ 400 ∧ hi2 ≤ 1000 := by omega
          obtain ⟨o1, o2, o3, o4, o5, o6, o7, o8⟩ := o1
          have W1 : IntKind.i64.wrap ((f : Int) - (x : Int)) = (lo : Int) := (IntWalk.i64_in _ (by omega)).trans q1
          have W2 : IntKind.i64.wrap ((t : Int) + (y : Int)) = (hi : Int) := (IntWalk.i64_in _ (by omega)).trans q2
          have W3 : IntKind.i64.wrap ((u : Int) - (x : Int)) = (lo2 : Int) := (IntWalk.i64_in _ (by omega)).trans q3
          have W4 : IntKind.i64.wrap ((v : Int) + (y : Int)) = (hi2 : Int) := (IntWalk.i64_in _ (by omega)).trans q4
          have W5 : IntKind.i64.wrap ((m : Int) - (t : Int)) = (m : Int) - (t : Int) := IntWalk.i64_in _ (by omega)
          have V1 : IntKind.i64.wrap (lo : Int) = (lo : Int) := IntWalk.i64_in _ (by omega)
          have V2 : IntKind.i64.wrap (hi : Int) = (hi : Int) := IntWalk.i64_in _ (by omega)
          have V3 : IntKind.i64.wrap (lo2 : Int) = (lo2 : Int) := IntWalk.i64_in _ (by omega)
          have V4 : IntKind.i64.wrap (hi2 : Int) = (hi2 : Int) := IntWalk.i64_in _ (by omega)
          have c1 := Lib.hid (least_any (N : Int) (f : Int) wr)
          have c2 := Lib.hid (least_any (N : Int) ((m : Int) - (t : Int)) wr)
          rw [show min (N : Int) (f : Int) = (x : Int) by omega] at c1
          rw [show min (N : Int) ((m : Int) - (t : Int)) = (y : Int) by omega] at c2
          have HHI := Lib.hid HI
          have HTK := Lib.hid htk
          have HCK := Lib.hid hck
          clear hcl a0 a1 a2 a3 hg hf ht hu hv hx hy hlo hhi hlo2 hhi2 k1 k2 k3 k4 k5 k6 HI htk q5 hck
          go_wp2_with fail
          go_at_call 19
          refine c1.out.mono ?_
          rintro e w5 ⟨rfl, rfl⟩
          go_wp2_with fail
          go_at_call 19
          refine c2.out.mono ?_
          rintro e w6 ⟨rfl, rfl⟩
          clear c1 c2
          have S1 : ∀ W : World, (Instr.slice 22 (.slice A m ca) (some (.int .i64 (lo : Int))) (some (.int .i64 (hi : Int))) none).run Try.prog W = .ok (sliced A lo hi ca 1) W := slice_run A m ca lo hi o1 o2
          have S2 : ∀ W : World, (Instr.slice 22 (.slice B n cb) (some (.int .i64 (lo2 : Int))) (some (.int .i64 (hi2 : Int))) none).run Try.prog W = .ok (sliced B lo2 hi2 cb 1) W := slice_run B n cb lo2 hi2 o3 o4
          obtain ⟨uo, huo⟩ : ∃ uo, uo = sliced A lo hi ca 1 := ⟨_, rfl⟩
          obtain ⟨un, hun⟩ : ∃ un, un = sliced B lo2 hi2 cb 1 := ⟨_, rfl⟩
          rw [← huo] at r1 S1
          rw [← hun] at r2 S2
          clear huo hun
          obtain ⟨Ao, co, huo, _⟩ := r1.out
          obtain ⟨An, cn, hun, _⟩ := r2.out
          obtain ⟨no, hno⟩ : ∃ no, no = (pc a b N g).old.length := ⟨_, rfl⟩
          obtain ⟨nn, hnn⟩ : ∃ nn, nn = (pc a b N g).new.length := ⟨_, rfl⟩
          rw [← hno] at huo
          rw [← hnn] at hun
          subst huo
          subst hun
          clear hno hnn
          obtain ⟨iH, hH, hH0, hH1, hH2⟩ := info_parts infoH
          have hone : ∀ u ∈ h3 ((lo : Int), .slice Ao no co, .slice An nn cn), u.oneCell' = true := by
            intro u hu
            simp only [h3, List.mem_cons, List.not_mem_nil, or_false] at hu
            rcases hu with rfl | rfl | rfl
            · rfl
            · rfl
            · rfl
          have HCO : Hid (cs.length = k) := HCK
          have hown : wr.drew.ownsRow w1.heap.size 33 3 u8 cs.length (cs.flatMap h3) := HH.out.drew
          obtain ⟨cl, hcl⟩ : ∃ cl, cl = cs.length := ⟨_, rfl⟩
          rw [← hcl] at hown
          have hcl4 : cl ≤ 401 := by have := HCK.out; omega
          have hbd := HB.out.drew
          have hszd : w1.heap.size ≤ wr.drew.heap.size := hbd.size
          have HCL := Lib.hid hcl
          clear hcl
          go_wp2_with fail
          have hX2 : Below w1.heap.size w1 (wr.drew.alloc (.cells #[.int .i64 (lo : Int), .slice Ao no co, .slice An nn cn] 33)) := hbd.alloc hszd _
          have HE8 : ∀ ty, ∃ v8 w8, (Builtin.append_ #[23, 23] ty #[u8, .slice (some ⟨wr.heap.size, 0, none⟩) 1 1]).run Try.prog (wr.drew.alloc (.cells #[.int .i64 (lo : Int), .slice Ao no co, .slice An nn cn] 33)) = .ok v8 w8 ∧ Below w1.heap.size w1 w8 ∧ (Below w1.heap.size w1 w8 ∧ Hu w8 w1.heap.size v8 (cs ++ [((lo : Int), .slice Ao no co, .slice An nn cn)])) := by
            intro ty
            obtain ⟨v8, w8, h1, h2, h3', _⟩ := run_append_own (P := Try.prog) (wr.drew.alloc (.cells #[.int .i64 (lo : Int), .slice Ao no co, .slice An nn cn] 33)) w1.heap.size 23 ty 33 iH (.agg #[.int .i64 0, .slice none 0 0, .slice none 0 0]) 3 56 Try.underlying23 hH hH0 hH1 hH2 rfl (by decide) u8 cl (cs.flatMap h3) (hown.alloc _) ⟨wr.drew.heap.size, 0, none⟩ 1 1 (h3 ((lo : Int), .slice Ao no co, .slice An nn cn)) rfl (cell_three_new _ _ _ _ _) hone (by unfold maxLen; omega) (by omega) hX2.size
            refine ⟨v8, w8, h1, ?_, ?_, ?_⟩
            · exact hX2.grown h3' hX2.size (fun q hq => (hown.lt q hq).1)
            · exact hX2.grown h3' hX2.size (fun q hq => (hown.lt q hq).1)
            · unfold Hu
              rw [List.length_append, List.flatMap_append, ← HCL.out]
              simpa using h2
          have HX : Hid (∀ W, Below w1.heap.size w1 W → Four gg k f t u v W) := fun W hb => ⟨(hb.cell (p := ⟨gg, _, none⟩) hgl).trans a0', (hb.cell (p := ⟨gg, _, none⟩) hgl).trans a1', (hb.cell (p := ⟨gg, _, none⟩) hgl).trans a2', (hb.cell (p := ⟨gg, _, none⟩) hgl).trans a3'⟩
          clear hown hszd
          go_wp2_with fail
          refine Rg.wp_only ?_ (betwReg _ (by kernel_rfl) _ gg gc k L m n ca cb f t u v x y lo hi lo2 hi2 no co nn cn A B Ao An u8 _ e3 (Below w1.heap.size w1) (fun v8 W => Below w1.heap.size w1 W ∧ Hu W w1.heap.size v8 (cs ++ [((lo : Int), .slice Ao no co, .slice An nn cn)])) HX.out hbd q1 q2 q3 q4 V1 V2 V3 V4 S1 S2 hX2 HE8)
          rintro _ w9 ⟨v9, rfl, h9, hu9⟩
          have HU9 := Lib.hid hu9
          have HI9 : Hid (Is w (cs ++ [((lo : Int), .slice Ao no co, .slice An nn cn)]) ((GL.take (k + 1)).map (fun g => (pc a b N g).z))) := by
            show Is _ _ _
            rw [HTK.out]
            refine Is.snoc ?_ r1.out r2.out HHI.out
            show (lo : Int) = (((pc a b N g).at_ : Nat) : Int)
            rw [hat.out]
          clear hu9 HX HE8 S1 S2
          go_wp2_with fail
          go_roundw
          case rel => exact ⟨k + 1, _, by go_num, by omega, by have := HCK.out; simp; omega, HU9, HI9, h9⟩
          case measure => simp only [intOf]; omega
        · have hkL : k = L := by omega
          have e3 : ¬ (k : Int) < (L : Int) := by omega
          have HR : Hid (HuTo (pcs a b ar) (per a b ar) w (.returned (.tuple #[u8, .int .i64 0])) wr) := by
            show HuTo _ _ _ _ _
            rw [HE.out.1, HE.out.2]
            have hi := HI.out
            rw [hkL, HL.out, List.take_length] at hi
            exact ⟨u8, cs, rfl, own_base HH.out HB1.out.size, hi.below (HB1.out.trans (HB.out.mono HB1.out.size)), HB1.out.trans (HB.out.mono HB1.out.size)⟩
          clear hkL HH HI
          go_wp2_with fail
          go_ret2
          exact HR.out
end Go.Proofs.Ytoncghamkedhcaa.Kd
